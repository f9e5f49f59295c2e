/-
  Iter, part 5.
-/
import Derived.Test.YtcfinbapfhhpgaaGreatDoorIter4
import Derived.Test.YtcfinbapfhhpgaaGreatDoorBase8
import Derived.Maps.Views
namespace Go.Proofs.YtcfinbapfhhpgaaGreatDoor
open Go.RowKit
set_option linter.unusedVariables false
set_option linter.unusedSimpArgs false
set_option maxRecDepth 20000
set_option maxHeartbeats 16000000
section
attribute [local go_sem] Oper.semAt_some
def EncD (A : Option Addr) (k : Nat) (W : World) (j : Nat) (args : Array Value) : Prop := args = #[.slice (cutAt A (j * k + k) (j * k)) k k]
theorem qd5_ (A : Option Addr) (c L k m n kb : Nat) (w : World) (hn : n <= w.heap.size) (hk : 1 <= k) (hL : L = m * k) (hc : L <= c /\ c <= 9223372036854775807 /\ L <= 140737488351232) :
  WalksX (fun W => W.heap[kb]? = some (.cells #[.slice A L c] 87 (0, 0)) /\ W.heap[kb + 1]? = some (.cells #[.int .i64 k] 3 (0, 0))) Tryz.prog 145 #[.pointer (some ⟨kb, 0, none⟩), .pointer (some ⟨kb + 1, 0, none⟩)] n (EncD A k) (List.range m) w := by
 intro ld J Jx W hW hJ hJx hJX hY h0
 have HKW : Hid (∀ (T : Nat -> Prop) (s : List Nat) (wr : World), J T s wr -> wr.cell? ⟨kb, 0, none⟩ = some (.slice A L c) /\ wr.cell? ⟨kb + 1, 0, none⟩ = some (.int .i64 k)) := Lib.hid (fun T s wr h => ⟨by rw [Lib.cell_of_heap (hJX T s wr h).1]; rfl, by rw [Lib.cell_of_heap (hJX T s wr h).2]; rfl⟩)
 have HY := Lib.hid hY
 have HJ := Lib.hid hJ
 have HNW : Hid (n <= W.heap.size) := Lib.hid (Nat.le_trans hn hW.size)
 have HJ0 := Lib.hid h0
 have HL := Lib.hid hL
 have HST : Hid (∀ j, j < m -> List.range j ++ [j] = List.range (j + 1) /\ List.range (j + 1) <+: List.range m) := Lib.hid (fun j hj => ⟨List.range_succ.symm, by
  obtain ⟨d, rfl⟩ := Nat.exists_eq_add_of_le hj
  exact ⟨(List.range d).map (j + 1 + ·), (List.range_add ..).symm⟩⟩)
 obtain ⟨hl1, hl2, hl3⟩ := hc
 have hkL : m = 0 \/ k <= L := by
  rcases Nat.eq_zero_or_pos m with h | h
  ·exact .inl h
  ·exact .inr (by rw [hL]; exact Nat.le_mul_of_pos_left k h)
 clear hn hW hY hJ hJx h0 hL hJX
 refine (callsIn_wide (n := 0)).1 ?_
 refine callsIn_of_wp Tryz.func145 rfl trivial ?_ rfl
 simp only [Tryz.ntmps145, List.size_toArray, List.length_cons, List.length_nil, Nat.reduceAdd, Nat.reduceSub, Array.replicate_succ, Array.replicate_zero, List.push_toArray, List.append_toArray, List.nil_append, List.cons_append]
 gi_wp2_with fail
 gi_loopw [4, 5] (fun i _ wr => ∃ j p : Nat, j <= m /\ p = j * k /\ i = .int .i64 (p : Int) /\ J (fun _ => False) (List.range j) wr /\ W.heap.size <= wr.heap.size /\ Below n W wr) (fun i _ _ => L - (intOf i).toNat)
 case atStart => exact ⟨0, 0, Nat.zero_le _, by omega, rfl, HJ0.out, Nat.le_refl _, Below.refl _ _⟩
 case round =>
  obtain ⟨j, p, hj, hp, rfl, hjj, hsz, hbw⟩ := hrel
  obtain ⟨d0, d1⟩ := HKW.out _ _ _ hjj
  by_cases hjm : j < m
  ·have hpk : p + k <= L := by
    rw [hp, HL.out, <- Nat.succ_mul]
    exact Nat.mul_le_mul_right k hjm
   have hpl : p < L := by omega
   obtain ⟨q1, q2⟩ := HST.out j hjm
   have hj2 : J (fun _ => False) (List.range j) wr.drew := HJ.out _ _ _ _ _ hjj hsz (fun _ h => h.elim) (Turn.of_below (Below.refl _ _).drew)
   have hbw2 : Below n W wr.drew := hbw.drew
   obtain ⟨fn, tmps, asg, bd, hyr, hR⟩ := HY.out (fun _ => False) (List.range j) j #[.slice (cutAt A (p + k) p) k k] wr.drew hj2 (fun _ h => h.elim) hsz hbw2 (by rw [EncD, <- hp]) (by rw [q1]; exact q2)
   rw [q1] at hR
   have HR : Hid (RoundIn Fence.wide 0 Tryz.prog ld fn tmps asg bd wr.drew fun e W' => Kp n (fun _ => False) wr.drew W' /\ ((e = .returned (.bool true) /\ J (fun _ => False) (List.range (j + 1)) W' /\ W'.cell? ⟨kb, 0, none⟩ = some (.slice A L c) /\ W'.cell? ⟨kb + 1, 0, none⟩ = some (.int .i64 k)) \/ (e = .returned (.bool false) /\ Jx (fun _ => False) (List.range (j + 1)) W'))) := Lib.hid (RoundIn.mono hR (fun e W' ⟨h1, h2⟩ => ⟨h1, h2.imp (fun ⟨h3, h4⟩ => ⟨h3, h4, HKW.out _ _ _ h4⟩) id⟩))
   have HSZ := Lib.hid hsz
   have HBW := Lib.hid hbw2
   have HP : Hid (p + k = (j + 1) * k) := Lib.hid (by rw [Nat.succ_mul, hp])
   have HQ2 := Lib.hid q2
   obtain ⟨d2, d3⟩ := HKW.out _ _ _ hj2
   obtain ⟨q, hq⟩ : ∃ q, p + k = q := ⟨_, rfl⟩
   have hqk : q - p = k := by omega
   obtain ⟨r, hr⟩ : ∃ r, L - p = r := ⟨_, rfl⟩
   have R1 : ∀ W : World, (Instr.slice 87 (.slice A L c) (some (.int .i64 (p : Int))) none none).run Tryz.prog W = .ok (.slice (cutAt A c p) r (c - p)) W := fun W => by
    have h := qe9_ Tryz.underlying87 qfi_ A L c (p : Int) p rfl (by omega) W
    rwa [hr] at h
   have R2 : ∀ W : World, (Instr.slice 87 (.slice A L c) (some (.int .i64 (p : Int))) (some (.int .i64 (q : Int))) (some (.int .i64 (q : Int)))).run Tryz.prog W = .ok (.slice (cutAt A q p) k k) W := fun W => by
    have h := qod_ Tryz.underlying87 qfi_ A L c (p : Int) (q : Int) (q : Int) p q rfl rfl rfl (by omega) (by omega) W
    rwa [hqk] at h
   have e1 : IntKind.i64.wrap ((p : Int) + (k : Int)) = (q : Int) := by rw [IntWalk.i64_in _ (by omega)]; omega
   have e2 : min (k : Int) (r : Int) = (k : Int) := Int.min_eq_left (by omega)
   rw [hq] at hyr HP hpk
   have HJ2 := Lib.hid hj2
   clear hjj hbw hsz q1 q2 hR hbw2 hj2 hp
   gi_wp2_with fail
   refine qc2_ (S := fun W => W.cell? ⟨kb, 0, none⟩ = some (.slice A L c) /\ W.cell? ⟨kb + 1, 0, none⟩ = some (.int .i64 k)) (by kernel_rfl) ⟨d2, d3⟩ (fun hHeld => ?_)
   refine tkI 0 hHeld fun _ => ?_
   refine tkI 1 hHeld fun _ => ?_
   refine tkI 2 hHeld fun _ => ?_
   refine tkI 3 hHeld fun _ => ?_
   refine tkI 4 hHeld fun _ => ?_
   refine tkI 5 hHeld fun _ => ?_
   refine tkI 6 hHeld fun _ => ?_
   refine qcg_ (by kernel_rfl) ?_ _
   clear hHeld
   gi_wp2_with (refine ⟨rfl, RoundIn.mono HR.out ?_⟩; clear HR hyr; rintro e W4 ⟨hk4, (⟨rfl, hj4, d4, d5⟩ | ⟨rfl, hx4⟩)⟩)
   ·go_roundw
    case rel => exact ⟨j + 1, q, by omega, HP.out, by first | rfl | go_num, hj4, Nat.le_trans HSZ.out hk4.below.size, HBW.out.trans hk4.below⟩
    case measure => simp [intOf]; omega
   ·gi_wp2
    refine bodyPost_ret (v := .tuple #[]) (by simp [results, Tryz.results145, go_sem]) rfl ?_
    exact ⟨⟨_, rfl⟩, fun _ => False, fun _ h => h.elim, Nat.le_trans HSZ.out hk4.below.size, .inr ⟨_, HQ2.out, hx4⟩⟩
  ·obtain rfl : j = m := by omega
   obtain rfl : p = L := by rw [hp, HL.out]
   have HJE := Lib.hid hjj
   have HSZ := Lib.hid hsz
   clear hjj hbw hsz hp hjm
   gi_wp2
   go_end0
   exact ⟨⟨_, rfl⟩, fun _ => False, fun _ h => h.elim, HSZ.out, .inl HJE.out⟩
end
section
attribute [local go_sem] Oper.semAt_some
theorem qhz_ (w : World) (o0 o1 o2 o3 : Obj) : ((((w.alloc o0).alloc o1).alloc o2).alloc o3).heap.size = w.heap.size + 4 /\ ((((w.alloc o0).alloc o1).alloc o2).alloc o3).heap[w.heap.size]? = some o0 /\ ((((w.alloc o0).alloc o1).alloc o2).alloc o3).heap[w.heap.size + 1]? = some o1 /\ ((((w.alloc o0).alloc o1).alloc o2).alloc o3).heap[w.heap.size + 2]? = some o2 /\
  ((((w.alloc o0).alloc o1).alloc o2).alloc o3).heap[w.heap.size + 3]? = some o3 /\ Below w.heap.size w ((((w.alloc o0).alloc o1).alloc o2).alloc o3) := by
 obtain ⟨w1, h1⟩ : ∃ w1, w.alloc o0 = w1 := ⟨_, rfl⟩
 obtain ⟨w2, h2⟩ : ∃ w2, w1.alloc o1 = w2 := ⟨_, rfl⟩
 obtain ⟨w3, h3⟩ : ∃ w3, w2.alloc o2 = w3 := ⟨_, rfl⟩
 obtain ⟨w4, h4⟩ : ∃ w4, w3.alloc o3 = w4 := ⟨_, rfl⟩
 have z1 : w1.heap.size = w.heap.size + 1 := by rw [<- h1]; simp
 have z2 : w2.heap.size = w.heap.size + 2 := by rw [<- h2]; simp [z1]
 have z3 : w3.heap.size = w.heap.size + 3 := by rw [<- h3]; simp [z2]
 have z4 : w4.heap.size = w.heap.size + 4 := by rw [<- h4]; simp [z3]
 have b1 : Below w.heap.size w w1 := by rw [<- h1]; exact (Below.refl _ _).alloc (Nat.le_refl _) _
 have b2 : Below w1.heap.size w1 w2 := by rw [<- h2]; exact (Below.refl _ _).alloc (Nat.le_refl _) _
 have b3 : Below w2.heap.size w2 w3 := by rw [<- h3]; exact (Below.refl _ _).alloc (Nat.le_refl _) _
 have b4 : Below w3.heap.size w3 w4 := by rw [<- h4]; exact (Below.refl _ _).alloc (Nat.le_refl _) _
 have g0 : w1.heap[w.heap.size]? = some o0 := by rw [<- h1]; exact World.alloc_heap_new _ _
 have g1 : w2.heap[w1.heap.size]? = some o1 := by rw [<- h2]; exact World.alloc_heap_new _ _
 have g2 : w3.heap[w2.heap.size]? = some o2 := by rw [<- h3]; exact World.alloc_heap_new _ _
 have g3 : w4.heap[w3.heap.size]? = some o3 := by rw [<- h4]; exact World.alloc_heap_new _ _
 rw [z1] at g1
 rw [z2] at g2
 rw [z3] at g3
 rw [h1, h2, h3, h4]
 refine ⟨z4, ?_, ?_, ?_, g3, ?_⟩
 ·exact (b4.block _ (by omega)).trans ((b3.block _ (by omega)).trans ((b2.block _ (by omega)).trans g0))
 ·exact (b4.block _ (by omega)).trans ((b3.block _ (by omega)).trans g1)
 ·exact (b4.block _ (by omega)).trans g2
 ·exact b1.trans ((b2.mono (by omega)).trans ((b3.mono (by omega)).trans (b4.mono (by omega))))
theorem qad_ {w : World} {b : Nat} {v : Value} {T : TypeId} (h : w.heap[b]? = some (.cells #[v] T (0, 0))) : w.cell? ⟨b, 0, none⟩ = some v := by rw [Lib.cell_of_heap h]; rfl
def qcn_ : ByteArray := ⟨#[105, 110, 116, 101, 114, 114, 117, 112, 116, 45, 109, 97, 112]⟩
def qck_ : ByteArray := ⟨#[105, 110, 116, 101, 114, 114, 117, 112, 116, 45, 109, 97, 112, 45, 109, 97, 115, 107]⟩
def NBox (g b r : Nat) (ln : Int) (W : World) : Prop := W.heap[g]? = some (.cells #[.pointer (some ⟨r, 0, none⟩)] 218 (0, 0)) /\ W.heap[g + 1]? = some (.cells #[.pointer (some ⟨b, 0, none⟩), .int .u32 ln] 227 (0, 0)) /\ W.heap[g + 2]? = some (.cells #[.pointer none, .int .u32 0] 227 (0, 0)) /\ W.heap[g + 3]? = some (.cells #[.int .i64 0] 32 (0, 0))
theorem NBox.on {g b r : Nat} {ln : Int} {W W' : World} (h : NBox g b r ln W) (k : Below (g + 4) W W') : NBox g b r ln W' := ⟨(k.block _ (by omega)).trans h.1, (k.block _ (by omega)).trans h.2.1, (k.block _ (by omega)).trans h.2.2.1, (k.block _ (by omega)).trans h.2.2.2⟩
theorem qch_ {W : World} {g : Nat} {v0 v1 v2 : Value} {T U : TypeId} (h2 : W.heap[g + 2]? = some (.cells #[v0, v1] T (0, 0))) (h3 : W.heap[g + 3]? = some (.cells #[v2] U (0, 0))) (u0 u1 u2 : Value) :
  (((W.setCell ⟨g + 2, 0, none⟩ u0).setCell ⟨g + 2, 1, none⟩ u1).setCell ⟨g + 3, 0, none⟩ u2).heap[g + 2]? = some (.cells #[u0, u1] T (0, 0)) /\ (((W.setCell ⟨g + 2, 0, none⟩ u0).setCell ⟨g + 2, 1, none⟩ u1).setCell ⟨g + 3, 0, none⟩ u2).heap[g + 3]? = some (.cells #[u2] U (0, 0)) /\
  (∀ k, k ≠ g + 2 -> k ≠ g + 3 -> (((W.setCell ⟨g + 2, 0, none⟩ u0).setCell ⟨g + 2, 1, none⟩ u1).setCell ⟨g + 3, 0, none⟩ u2).heap[k]? = W.heap[k]?) /\ (((W.setCell ⟨g + 2, 0, none⟩ u0).setCell ⟨g + 2, 1, none⟩ u1).setCell ⟨g + 3, 0, none⟩ u2).heap.size = W.heap.size /\
  Below (g + 2) W (((W.setCell ⟨g + 2, 0, none⟩ u0).setCell ⟨g + 2, 1, none⟩ u1).setCell ⟨g + 3, 0, none⟩ u2) := by
 refine ⟨?_, ?_, ?_, by simp [World.setCell], ((Below.refl _ _).setCell (p := ⟨g + 2, 0, none⟩) (Nat.le_refl _) _ |>.setCell (p := ⟨g + 2, 1, none⟩) (Nat.le_refl _) _).setCell (p := ⟨g + 3, 0, none⟩) (by show g + 2 <= g + 3; omega) _⟩
 ·rw [Below.heap_setCell _ _ _ _ (by show g + 2 ≠ g + 3; omega)]
  exact qax_ h2 u0 u1
 ·have e : ((W.setCell ⟨g + 2, 0, none⟩ u0).setCell ⟨g + 2, 1, none⟩ u1).heap[g + 3]? = some (.cells #[v2] U (0, 0)) := (qay_ W (by omega) u0 u1).trans h3
  simp [World.setCell, Array.getElem?_modify] at e ⊢
  simp [e]
 ·intro k hk2 hk3
  rw [Below.heap_setCell _ _ _ _ (by show k ≠ g + 3; omega)]
  exact qay_ W hk2 u0 u1
theorem qhv_ {w : World} {r : Nat} {t : Tr} {own : Option Nat} {er : Int} (h : w.heap[r]? = some (rbox t own er)) (k : Nat) (v : Int) : w.cell? ⟨r, k + 1, none⟩ ≠ some (.int .u32 v) := by
 unfold rbox Tr.rv Nd.pv Nd.kv at h
 rw [Lib.cell_of_heap h]
 rcases k with _ | _ | _ | _ | _ | _ | k <;> simp
end
section
attribute [local go_sem] Oper.semAt_some
end
section
open Go.RowKit Go.Maps Go.WideMaps
def qh1_ (z : List Nat) : DataW Unit := .agg (z.map fun i : Nat => DataW.lit (.int .i64 (i : Int)))
theorem qm5_ : ∀ {z z' : List Nat}, qh1_ z = qh1_ z' -> z = z' := by
 intro z z' h
 simp only [qh1_, DataW.agg.injEq] at h
 refine (List.map_inj_right (fun a b e => ?_)).1 h
 simp only [DataW.lit.injEq, Lit.int.injEq, true_and] at e
 omega
open Classical in
noncomputable def okF (w : World) (R : Nd) (D : Nat -> Prop) (v : Value) : Option (DataW Unit × List MemPlace) := if h : ∃ z, ∃ b x, v = .pointer (some ⟨b, 0, none⟩) /\ Spot w R D b z x then some (qh1_ (Classical.choose h), []) else none
theorem qhy_ {w : World} {R x : Nd} {D : Nat -> Prop} {b : Nat} {z : List Nat} (h : Spot w R D b z x) : okF w R D (.pointer (some ⟨b, 0, none⟩)) = some (qh1_ z, []) := by
 have hh : ∃ z, ∃ b' x, Value.pointer (some ⟨b, 0, none⟩) = .pointer (some ⟨b', 0, none⟩) /\ Spot w R D b' z x := ⟨z, b, x, rfl, h⟩
 unfold okF
 rw [dif_pos hh]
 obtain ⟨b', x', e, h'⟩ := Classical.choose_spec hh
 simp only [Value.pointer.injEq, Option.some.injEq, Addr.mk.injEq, and_true] at e
 subst e
 rw [h'.det h]
theorem qlm_ {w : World} {R : Nd} {D : Nat -> Prop} {v : Value} {y : DataW Unit × List MemPlace} (h : okF w R D v = some y) : ∃ b z x, v = .pointer (some ⟨b, 0, none⟩) /\ Spot w R D b z x /\ y = (qh1_ z, []) := by
 unfold okF at h
 split at h
 ·rename_i hh
  obtain ⟨b, x, e, hs⟩ := Classical.choose_spec hh
  exact ⟨b, _, x, e, hs, (Option.some.inj h).symm⟩
 ·cases h
def MF (w : World) (R : Nd) (D : Nat -> Prop) (g : Nat) (acc : List (Int × List Nat)) : Prop := ∃ X n, w.ownsMap Tryz.prog 22 (okF w R D) g n X /\ n <= acc.length /\ IsMap X /\ (∀ h : Int, Maps.has X (keyH h) = acc.any (fun x => decide (x.1 = h))) /\ ((acc.map Prod.fst).Nodup -> ∀ x ∈ acc, ∀ zd, X.atKey (keyH x.1) zd = qh1_ x.2)
section
variable {w w' : World} {R : Nd} {D D' : Nat -> Prop} {g : Nat} {acc : List (Int × List Nat)}
theorem keyH_ne {h h' : Int} (hn : h ≠ h') : keyH h ≠ keyH h' := fun e => hn (by simpa [keyH] using e)
theorem MF.new (h : w.heap[g]? = some (.map #[] 0)) : MF w R D g [] := ⟨_, 0, ⟨#[], 0, h, ⟨by simp, Go.MapKept.stamped_empty 0, by simp⟩, Nat.le_refl _, rfl⟩, Nat.le_refl _, isMap_empty, fun h => rfl, fun _ x hx => by cases hx⟩
theorem MF.heap (h : MF w R D g acc) : ∃ es cl, w.heap[g]? = some (.map es cl) := by
 obtain ⟨X, n, ⟨es, cl, h1, h2⟩, _⟩ := h
 exact ⟨es, cl, h1⟩
theorem MF.lt (h : MF w R D g acc) : g < w.heap.size := by
 obtain ⟨es, cl, h1⟩ := h.heap
 exact (Array.getElem?_eq_some_iff.1 h1).1
theorem own_conv {n : Nat} {X : DataW Unit} (h : w.ownsMap Tryz.prog 22 (okF w R D) g n X) (hg : w'.heap[g]? = w.heap[g]?) (hs : ∀ b z x, Spot w R D b z x -> Spot w' R D' b z x) : w'.ownsMap Tryz.prog 22 (okF w' R D') g n X := by
 obtain ⟨es, clock, hb, F, hn, hX⟩ := h
 obtain ⟨es', cl', h1, h2, h3, h4⟩ := World.ownsMap_of_fit (w := w') (R := okF w' R D') (hg.trans hb) F (fun x hx y hy => by
  obtain ⟨b, z, k, e, hsp, rfl⟩ := qlm_ hy
  rw [e]
  exact qhy_ (hs b z k hsp))
 exact ⟨es', cl', h1, h2, Nat.le_trans h3 hn, hX.trans h4⟩
theorem MF.conv (h : MF w R D g acc) (hg : w'.heap[g]? = w.heap[g]?) (hs : ∀ b z x, Spot w R D b z x -> Spot w' R D' b z x) : MF w' R D' g acc := by
 obtain ⟨X, n, h1, h2⟩ := h
 exact ⟨X, n, own_conv h1 hg hs, h2⟩
theorem MF.sp (h : MF w R D g acc) (hg : w'.heap[g]? = w.heap[g]?) (k : Sp w w') : MF w' R D g acc := h.conv hg (fun b z x hs => hs.sp k)
theorem MF.on (h : MF w R D g acc) (k : Below w.heap.size w w') : MF w' R D g acc := h.sp (k.block _ h.lt) (.of_below k)
theorem MF.keep (h : MF w R D g acc) (hg : w'.heap[g]? = w.heap[g]?) (hs : ∀ j, D j -> j < w.heap.size -> D' j) (k : ∀ j, D j -> j < w.heap.size -> w'.heap[j]? = w.heap[j]?) : MF w' R D' g acc :=
 h.conv hg (fun b z x hsp => ((hsp.sub (D' := fun j => D j /\ D' j) (fun j h1 h2 => ⟨h1, hs j h1 h2⟩)).keep (fun j h1 h2 => k j h1.1 h2)).sub (fun j h1 _ => h1.2))
theorem MF.look (h : MF w R D g acc) {k : Int} (h0 : 0 <= k /\ k <= 4294967295) :
  ∃ v, (Instr.lookup 159 (.map (some g)) (.int .u32 k) true).run Tryz.prog w = .ok (.tuple #[v, .bool (acc.any (fun x => decide (x.1 = k)))]) w /\
   ((acc.any (fun x => decide (x.1 = k))) = false -> v = .pointer none) /\ ((acc.any (fun x => decide (x.1 = k))) = true -> (acc.map Prod.fst).Nodup -> ∃ b z x, v = .pointer (some ⟨b, 0, none⟩) /\ Spot w R D b z x /\ (k, z) ∈ acc) := by
 obtain ⟨X, n, ⟨es, clock, hb, F, hs, hX⟩, hn, hm, h1, h2⟩ := h
 rw [<- h1 k]
 rcases Maps.fit_look true lawU Tryz.underlying159 (zeroSpot w) hb F (qox_ h0.1 h0.2) with ⟨hrun, _, hat⟩ | ⟨e0, y, _, _, hrun, hR, hat, _⟩
 ·rw [<- hX] at hat
  rw [Maps.has_false_of_atKey hat]
  exact ⟨_, hrun, fun _ => rfl, fun h => by cases h⟩
 ·rw [<- hX] at hat
  rw [Maps.has_true_of_atKey hat]
  refine ⟨_, hrun, fun h => (by cases h), fun _ hnd => ?_⟩
  obtain ⟨b, z, x, e, hsp, rfl⟩ := qlm_ hR
  refine ⟨b, z, x, e, hsp, ?_⟩
  have h3 := h1 k
  rw [Maps.has_true_of_atKey hat] at h3
  obtain ⟨q, hq, he⟩ := List.any_eq_true.1 h3.symm
  have he' := of_decide_eq_true he
  have h4 := h2 hnd q hq (.agg [])
  rw [he', hat] at h4
  have h5 : z = q.2 := qm5_ h4
  rw [h5, <- he']
  exact hq
theorem MF.store (h : MF w R D g acc) {b : Nat} {z : List Nat} {x : Nd} (hP : Spot w R D b z x) {k : Int} (h0 : 0 <= k /\ k <= 4294967295) (hn : acc.length < maxLen) :
  ∃ w', (Instr.mapUpdate 159 (.map (some g)) (.int .u32 k) (.pointer (some ⟨b, 0, none⟩))).run Tryz.prog w = .ok () w' /\ MF w' R D g (acc ++ [(k, z)]) /\ w.grownBy w' (some g) /\ Sp w w' := by
 obtain ⟨es0, cl0, hb0⟩ := h.heap
 obtain ⟨X, n, h, hnl, hm, h1, h2⟩ := h
 obtain ⟨w', g1, g2, g3⟩ := h.store lawU Tryz.underlying159 (Nat.lt_of_le_of_lt hnl hn) (qox_ h0.1 h0.2) (qhy_ hP)
 have hsp := Sp.grown g3.grown hb0
 obtain ⟨es, clock, hb, F, hs, hX⟩ := g2
 have hown : w'.ownsMap Tryz.prog 22 (okF w' R D) g (n + 1) (X.put (keyH k) (qh1_ z)) := by
  obtain ⟨es', cl', q1, q2, q3, q4⟩ := World.ownsMap_of_fit (w := w') (R := okF w' R D) hb F (fun x hx y hy => by
   obtain ⟨b, z, k, e, hsp', rfl⟩ := qlm_ hy
   rw [e]
   exact qhy_ (hsp'.sp hsp))
  exact ⟨es', cl', q1, q2, Nat.le_trans q3 hs, hX.trans q4⟩
 refine ⟨w', g1, ⟨_, n + 1, hown, by rw [List.length_append]; exact Nat.succ_le_succ hnl, hm.put _ _, fun h => ?_, fun hnd q hq zd => ?_⟩, g3.grown, hsp⟩
 ·rw [List.any_append]
  by_cases e : k = h
  ·subst e
   rw [has_put_same hm (by trivial)]
   simp
  ·rw [has_put_other (keyH_ne (fun e' => e e'.symm)), h1 h]
   simp [e]
 ·rw [List.map_append, List.nodup_append] at hnd
  rcases List.mem_append.1 hq with hq | hq
  ·have hne : q.1 ≠ k := hnd.2.2 q.1 (List.mem_map_of_mem hq) k (by simp)
   rw [atKey_put_other (keyH_ne hne)]
   exact h2 hnd.1 q hq zd
  ·rw [List.mem_singleton.1 hq]
   exact atKey_put_same hm (by trivial) _ _
end
end
theorem qm9_ (R : Nd) (D : Nat -> Prop) (B g : Nat) (hBg : B <= g) (hD : ∀ k, B <= k -> D k) : ∀ (x : Nd) (b : Nat) (z : List Nat) (acc : List (Int × List Nat)) (w : World), Spot w R D b z x -> MF w R D g acc -> R.In w B -> B <= w.heap.size -> acc.length + heftN x <= 1073741824 ->
  Calls Tryz.prog 192 #[.pointer (some ⟨b, 0, none⟩), .map (some g)] w fun e w' => e = .returned (.tuple #[]) /\ MF w' R D g (acc ++ (qac_ x z).filterMap (hOf R)) /\ w.grownBy w' (some g) /\ Sp w w' := by
 refine Nd.ind ?_
 intro x ih b z acc w hs hm hin hB hn
 have HIH := Lib.hid ih
 have HD := Lib.hid hD
 have HS := Lib.hid hs
 have HM := Lib.hid hm
 have HI := Lib.hid hin
 have hxin := hs.inn (hin.more hB)
 have C1 := Lib.hid (oneOK x qas_ w hxin (by decide))
 have hrg := qcd_ hxin qas_
 have HOF := Lib.hid (hOf_at hs.at_)
 have hkl := hxin.name_le.2.2
 have hkm := hxin.klen
 have heft := heft_eq x
 obtain ⟨pa, pi, hbk⟩ := hs.heap
 obtain ⟨s0, s1, s2, s3, s4⟩ := qat_ hbk
 have HSC : Hid (∀ W, Sp w W -> W.cell? ⟨b, 2, none⟩ = some x.kv) := Lib.hid (fun W h => by
  obtain ⟨pa, pi, hbk⟩ := (hs.sp h).heap
  exact (qat_ hbk).2.2.1)
 have hGB : ∀ W, w.grownBy W (some g) -> R.In W B := fun W h => hin.under ((Below.refl _ _).grown h hB (fun k e => by cases e; exact hBg))
 have HGB := Lib.hid hGB
 generalize oneV x qas_ = O at *
 obtain ⟨v, ok, er⟩ := O
 simp only [qfz_, qas_] at C1 hrg
 simp only at HOF
 obtain ⟨KL, hKL⟩ : ∃ KL, x.kids.length = KL := ⟨_, rfl⟩
 have HKL := Lib.hid hKL
 have HHE := Lib.hid heft
 have HHN := Lib.hid hn
 have HBW := Lib.hid hB
 simp only [Nd.val, Nd.pv, Nd.kv, hKL] at s0 s1 s2 hkl hkm HSC C1
 clear ih hs hm hin hxin hbk hGB heft hn hB s3 s4 hKL
 go_enter Tryz.func192, Tryz.ntmps192
 go_wp2_with fail
 refine C1.out.mono ?_
 rintro e w1 ⟨rfl, hb1⟩
 have hg1 : w.grownBy w1 (some g) := ⟨hb1.os, hb1.tape, hb1.output, hb1.size, fun k hk _ => hb1.block k hk⟩
 have HG1 := Lib.hid hg1
 have HS1 := Lib.hid (Sp.of_below hb1)
 have hm1 := HM.out.on hb1
 have HM1 := Lib.hid hm1
 have hgood := HS.out.on hb1
 clear s0 s1 s2 hb1 hg1
 cases ok
 ·have HLW := Lib.hid (And.intro (show MF w1 R D g (acc ++ [z].filterMap (hOf R)) by rw [List.filterMap_cons_none (by rw [HOF.out]; rfl), List.filterMap_nil, List.append_nil]; exact hm1) (And.intro HG1.out HS1.out))
  have c2 := HSC.out w1 HS1.out
  clear hm1 hgood
  go_wp2_with fail
  clear c2
  go_loopw [27] (fun i wr => ∃ k : Nat, k <= KL /\ i = .int .i64 k /\ MF wr R D g (acc ++ (z :: qaf_ (x.kids.take k) z 0).filterMap (hOf R)) /\ w.grownBy wr (some g) /\ Sp w wr) (fun i _ => KL - (intOf i).toNat)
  case atStart => exact ⟨0, Nat.zero_le _, rfl, by rw [List.take_zero, qaf_]; exact HLW.out.1, HLW.out.2.1, HLW.out.2.2⟩
  case round =>
   obtain ⟨k, hk, rfl, hmr, hgr, hsr⟩ := hrel
   have HMR := Lib.hid hmr
   have HGR := Lib.hid hgr
   have HSR := Lib.hid hsr
   clear hmr hgr hsr
   by_cases hlt : k < KL
   ·have hkl : k < x.kids.length := by rw [HKL.out]; exact hlt
    have CB := Lib.hid (qgi_ R D b z x k wr (HS.out.sp HSR.out) (HD.out _ (Nat.le_trans HBW.out HGR.out.size)) ((HGB.out wr HGR.out).more (Nat.le_trans HBW.out HGR.out.size)) hkl)
    go_wp2_with fail
    refine CB.out.mono ?_
    rintro e w4 ⟨rfl, hs4, hb4⟩
    have hg4 : wr.grownBy w4 (some g) := ⟨hb4.os, hb4.tape, hb4.output, hb4.size, fun k hk _ => hb4.block k hk⟩
    have HG4 := Lib.hid (HGR.out.trans hg4)
    have HS4 := Lib.hid (HSR.out.trans (Sp.of_below hb4))
    have CA := Lib.hid (HIH.out _ (List.getElem_mem hkl) _ _ (acc ++ (z :: qaf_ (x.kids.take k) z 0).filterMap (hOf R)) w4 hs4 (HMR.out.on hb4) (HGB.out w4 HG4.out) (Nat.le_trans HBW.out HG4.out.size) (by
     have h1 := qbh_ x.kids k hkl
     have h2 := qbb_ x.kids (k + 1)
     have h3 := HHE.out
     have h4 := HHN.out
     have h5 := qcw_ (x.kids.take k) z 0
     have h6 := List.length_filterMap_le (hOf R) (z :: qaf_ (x.kids.take k) z 0)
     rw [List.length_append]
     rw [List.length_cons] at h6
     omega))
    rw [List.append_assoc, <- List.filterMap_append, List.cons_append, <- qbz_ x.kids z k hkl] at CA
    clear hs4 hb4 hg4 CB
    go_wp2_with fail
    refine CA.out.mono ?_
    rintro e w5 ⟨rfl, hm5, hg5, hs5⟩
    have HM5 := Lib.hid hm5
    have HG5 := Lib.hid (HG4.out.trans hg5)
    have HS5 := Lib.hid (HS4.out.trans hs5)
    clear hm5 hg5 hs5 CA
    go_wp2
    go_roundw
    case rel => exact ⟨k + 1, by omega, by go_num, HM5.out, HG5.out, HS5.out⟩
    case measure => simp [intOf]; omega
   ·obtain rfl : k = KL := by omega
    have HFIN : Hid (MF wr R D g (acc ++ (qac_ x z).filterMap (hOf R))) := Lib.hid (by
     have h1 := HMR.out
     rwa [List.take_of_length_le (by rw [HKL.out]; exact Nat.le_refl _), <- qa5_] at h1)
    go_wp2
    go_end0
    exact ⟨rfl, HFIN.out, HGR.out, HSR.out⟩
 ·obtain ⟨w2, r2, hm2, hg2, hsp2⟩ := hm1.store hgood hrg (by have := HHN.out; unfold maxLen; omega)
  have HLW := Lib.hid (And.intro (show MF w2 R D g (acc ++ [z].filterMap (hOf R)) by rw [List.filterMap_cons_some (by rw [HOF.out]; rfl), List.filterMap_nil]; exact hm2) (And.intro (HG1.out.trans hg2) (HS1.out.trans hsp2)))
  have c2 := HSC.out w2 (HS1.out.trans hsp2)
  clear hm1 hgood hm2 hg2 hsp2
  go_wp2_with fail
  clear c2
  go_loopw [27] (fun i wr => ∃ k : Nat, k <= KL /\ i = .int .i64 k /\ MF wr R D g (acc ++ (z :: qaf_ (x.kids.take k) z 0).filterMap (hOf R)) /\ w.grownBy wr (some g) /\ Sp w wr) (fun i _ => KL - (intOf i).toNat)
  case atStart => exact ⟨0, Nat.zero_le _, rfl, by rw [List.take_zero, qaf_]; exact HLW.out.1, HLW.out.2.1, HLW.out.2.2⟩
  case round =>
   obtain ⟨k, hk, rfl, hmr, hgr, hsr⟩ := hrel
   have HMR := Lib.hid hmr
   have HGR := Lib.hid hgr
   have HSR := Lib.hid hsr
   clear hmr hgr hsr
   by_cases hlt : k < KL
   ·have hkl : k < x.kids.length := by rw [HKL.out]; exact hlt
    have CB := Lib.hid (qgi_ R D b z x k wr (HS.out.sp HSR.out) (HD.out _ (Nat.le_trans HBW.out HGR.out.size)) ((HGB.out wr HGR.out).more (Nat.le_trans HBW.out HGR.out.size)) hkl)
    go_wp2_with fail
    refine CB.out.mono ?_
    rintro e w4 ⟨rfl, hs4, hb4⟩
    have hg4 : wr.grownBy w4 (some g) := ⟨hb4.os, hb4.tape, hb4.output, hb4.size, fun k hk _ => hb4.block k hk⟩
    have HG4 := Lib.hid (HGR.out.trans hg4)
    have HS4 := Lib.hid (HSR.out.trans (Sp.of_below hb4))
    have CA := Lib.hid (HIH.out _ (List.getElem_mem hkl) _ _ (acc ++ (z :: qaf_ (x.kids.take k) z 0).filterMap (hOf R)) w4 hs4 (HMR.out.on hb4) (HGB.out w4 HG4.out) (Nat.le_trans HBW.out HG4.out.size) (by
     have h1 := qbh_ x.kids k hkl
     have h2 := qbb_ x.kids (k + 1)
     have h3 := HHE.out
     have h4 := HHN.out
     have h5 := qcw_ (x.kids.take k) z 0
     have h6 := List.length_filterMap_le (hOf R) (z :: qaf_ (x.kids.take k) z 0)
     rw [List.length_append]
     rw [List.length_cons] at h6
     omega))
    rw [List.append_assoc, <- List.filterMap_append, List.cons_append, <- qbz_ x.kids z k hkl] at CA
    clear hs4 hb4 hg4 CB
    go_wp2_with fail
    refine CA.out.mono ?_
    rintro e w5 ⟨rfl, hm5, hg5, hs5⟩
    have HM5 := Lib.hid hm5
    have HG5 := Lib.hid (HG4.out.trans hg5)
    have HS5 := Lib.hid (HS4.out.trans hs5)
    clear hm5 hg5 hs5 CA
    go_wp2
    go_roundw
    case rel => exact ⟨k + 1, by omega, by go_num, HM5.out, HG5.out, HS5.out⟩
    case measure => simp [intOf]; omega
   ·obtain rfl : k = KL := by omega
    have HFIN : Hid (MF wr R D g (acc ++ (qac_ x z).filterMap (hOf R))) := Lib.hid (by
     have h1 := HMR.out
     rwa [List.take_of_length_le (by rw [HKL.out]; exact Nat.le_refl _), <- qa5_] at h1)
    go_wp2
    go_end0
    exact ⟨rfl, HFIN.out, HGR.out, HSR.out⟩
theorem qmf_ (t : Tr) (w : World) (hin : t.In w w.heap.size) (hh : heftN t.root <= 134217728) :
  Calls Tryz.prog 177 #[t.val] w fun e w' => ∃ g, e = .returned (.map (some g)) /\ w.heap.size <= g /\ MF w' t.root (fun k => w.heap.size <= k) g ((qac_ t.root []).filterMap (hOf t.root)) /\ Below w.heap.size w w' := by
 obtain ⟨g, hg⟩ : ∃ g, w.heap.size = g := ⟨_, rfl⟩
 have HI := Lib.hid hin.root
 have HH := Lib.hid hh
 have hr := makeMapZ
 obtain ⟨boot, ra, rc, rs, ⟨nm, pa, pc, ps, ka, kc, ks⟩⟩ := t
 replace HI : Hid ((Nd.mk nm pa pc ps ka kc ks).In w w.heap.size) := HI
 simp only [Tr.val, Tr.rv, Nd.val, Nd.pv, Nd.kv, Nd.name, Nd.pa, Nd.pc, Nd.props, Nd.ka, Nd.kc, Nd.kids] at HH ⊢
 obtain ⟨RR, hRR⟩ : ∃ RR, Nd.mk nm pa pc ps ka kc ks = RR := ⟨_, rfl⟩
 have HRV : Hid (RR.name = nm /\ RR.pv = .slice pa ps.length pc /\ RR.kv = .slice ka ks.length kc) := Lib.hid (by rw [<- hRR]; exact ⟨rfl, rfl, rfl⟩)
 rw [hRR] at HI HH ⊢
 clear hRR hin hh
 have HF : Hid (∀ W3, (((w.alloc (.cells #[.int .u32 boot, .slice ra rs.length rc, .string nm, .slice pa ps.length pc, .slice ka ks.length kc] 29)).alloc (.map #[] 0)).alloc (.cells #[.string nm, .slice pa ps.length pc, .slice ka ks.length kc, .pointer none, .int .i64 0] 223)) = W3 -> MF W3 RR (fun k => g <= k) (g + 1) [] /\ Spot W3 RR (fun k => g <= k) (g + 1 + 1) [] RR /\ Below g w W3 /\ g <= W3.heap.size) := Lib.hid (by
  rintro W3 rfl
  have e1 : (w.alloc (.cells #[.int .u32 boot, .slice ra rs.length rc, .string nm, .slice pa ps.length pc, .slice ka ks.length kc] 29)).heap.size = g + 1 := by simp [hg]
  have e2 : ((w.alloc (.cells #[.int .u32 boot, .slice ra rs.length rc, .string nm, .slice pa ps.length pc, .slice ka ks.length kc] 29)).alloc (.map #[] 0)).heap.size = g + 1 + 1 := by simp [hg]
  refine ⟨MF.new ?_, .root (by show g <= g + 1 + 1; omega) ?_, ?_, by simp [hg]; omega⟩
  ·rw [Below.heap_alloc _ _ _ (by omega), <- e1]; exact World.alloc_heap_new _ _
  ·obtain ⟨q1, q2, q3⟩ := HRV.out
   rw [q1, q2, q3, <- e2]
   exact heap_alloc_new _ _
  ·exact (((Below.refl g w).alloc (by omega) _).alloc (by omega) _).alloc (by omega) _)
 have CA := Lib.hid (fun W h1 h2 h3 h4 => qm9_ RR (fun k => g <= k) g (g + 1) (by omega) (fun k h => h) RR (g + 1 + 1) [] [] W h1 h2 h3 h4 (by have := HH.out; simp; omega))
 rw [hg] at HI ⊢
 go_enter Tryz.func177, Tryz.ntmps177
 go_wp2_with fail
 generalize hW3 : (((w.alloc (.cells #[.int .u32 boot, .slice ra rs.length rc, .string nm, .slice pa ps.length pc, .slice ka ks.length kc] 29)).alloc (.map #[] 0)).alloc (.cells #[.string nm, .slice pa ps.length pc, .slice ka ks.length kc, .pointer none, .int .i64 0] 223)) = W3
 obtain ⟨f1, f2, f3, f4⟩ := HF.out W3 hW3
 refine (CA.out W3 f2 f1 (HI.out.under f3) f4).mono ?_
 rintro e w4 ⟨rfl, hm, hg4, _⟩
 have HM := Lib.hid hm
 have HB : Hid (Below g w w4) := Lib.hid (f3.grown hg4 f4 (fun k e => by cases e; omega))
 clear f1 f2 f3 f4 hm hg4 hW3 hr
 go_wp2
 go_ret
 exact ⟨g + 1, rfl, by omega, by rw [List.nil_append] at HM; exact HM.out, HB.out⟩
section
def qbo_ (R : Nd) (h : Int) : Except Int (List Nat) := if (qan_ R).2 ≠ 0 then .error (qan_ R).2 else match qjv_ R h with | none => .error 11 | some p => .ok p
theorem qg9_ (R : Nd) (h : Int) : ((qan_ R).2 ≠ 0 -> qbo_ R h = .error (qan_ R).2) /\ ((qan_ R).2 = 0 -> ((qac_ R []).filterMap (hOf R)).any (fun x => decide (x.1 = h)) = false -> qbo_ R h = .error 11) /\
  ((qan_ R).2 = 0 -> (((qac_ R []).filterMap (hOf R)).map Prod.fst).Nodup /\ ∀ z, (h, z) ∈ (qac_ R []).filterMap (hOf R) -> qbo_ R h = .ok z) := by
 refine ⟨fun h0 => by rw [qbo_, if_pos h0], fun h0 ha => ?_, fun h0 => ?_⟩
 ·rw [qbo_, if_neg (by simp [h0]), qjv_, qfy_ h0, List.find?_eq_none.2 (fun x hx => by
   have := List.any_eq_false.1 ha x hx
   simpa using this)]
  rfl
 ·have hnd := qjz_ R
  rw [qfy_ h0] at hnd
  refine ⟨hnd, fun z hz => ?_⟩
  obtain ⟨j, hj, e⟩ := List.getElem_of_mem hz
  have hf := qjh_ _ j hj hnd
  rw [e] at hf
  rw [qbo_, if_neg (by simp [h0]), qjv_, qfy_ h0, hf]
  rfl
def FindF (w' : World) (R : Nd) (D : Nat -> Prop) : Except Int (List Nat) -> Ending -> Prop
 | .error er, e => e = .returned (.tuple #[.pointer none, .int .i64 er])
 | .ok p, e => ∃ b x, e = .returned (.tuple #[.pointer (some ⟨b, 0, none⟩), .int .i64 0]) /\ Spot w' R D b p x
def RdF (w : World) (B r : Nat) (t : Tr) (D : Nat -> Prop) : Prop := B <= r /\ ∃ own er, w.heap[r]? = some (rbox t own er) /\ ∀ g, own = some g -> (B <= g /\ D g) /\ er = (qan_ t.root).2 /\ MF w t.root D g ((qac_ t.root []).filterMap (hOf t.root))
section
variable {w w' : World} {B r : Nat} {t : Tr} {D D' : Nat -> Prop}
theorem RdF.lt (h : RdF w B r t D) : r < w.heap.size := by
 obtain ⟨_, own, er, h1, _⟩ := h
 exact (Array.getElem?_eq_some_iff.1 h1).1
theorem RdF.keep (h : RdF w B r t D) (hs : ∀ j, D j -> j < w.heap.size -> D' j) (k : ∀ j, (j = r \/ D j) -> j < w.heap.size -> w'.heap[j]? = w.heap[j]?) : RdF w' B r t D' := by
 have hlt := h.lt
 obtain ⟨h0, own, er, h1, h2⟩ := h
 refine ⟨h0, own, er, (k _ (.inl rfl) hlt).trans h1, fun g hg => ?_⟩
 obtain ⟨⟨h3, h5⟩, he, h4⟩ := h2 g hg
 exact ⟨⟨h3, hs g h5 h4.lt⟩, he, h4.keep (k g (.inr h5) h4.lt) hs (fun j hj hl => k j (.inr hj) hl)⟩
theorem RdF.on (h : RdF w B r t D) (k : Below w.heap.size w w') : RdF w' B r t D := h.keep (fun _ h _ => h) (fun j _ hl => k.block j hl)
theorem RdF.all (h : RdF w B r t D) : RdF w B r t (fun _ => True) := h.keep (fun _ _ _ => trivial) (fun _ _ _ => rfl)
theorem RdF.rd (h : RdF w B r t D) : ∃ own er, w.heap[r]? = some (rbox t own er) := by
 obtain ⟨_, own, er, h1, _⟩ := h
 exact ⟨own, er, h1⟩
theorem Tn.spF (h : Tn B r w w') (hr : RdF w B r t D) : Sp w w' := fun j c e => h.same j (Array.getElem?_eq_some_iff.1 e).1 (fun q => by
 obtain ⟨own, er, h1⟩ := hr.rd
 rw [q, h1] at e
 simp only [rbox, Option.some.injEq, Obj.cells.injEq] at e
 exact absurd e.2.1 (by decide))
end
theorem qfo_ (t : Tr) (B r : Nat) (D : Nat -> Prop) (h : Int) (w : World) (hr : RdF w B r t D) (hB : B <= w.heap.size) (hin : t.In w B) (hh : heftN t.root <= 134217728) (h0 : 0 <= h /\ h <= 4294967295) :
  Calls Tryz.prog 142 #[.pointer (some ⟨r, 0, none⟩), .int .u32 h] w fun e w' => FindF w' t.root (fun k => D k \/ w.heap.size <= k) (qbo_ t.root h) e /\ RdF w' B r t (fun k => D k \/ w.heap.size <= k) /\ Tn B r w w' := by
 have HRD0 := Lib.hid hr
 have HH0 := Lib.hid h0
 have hlt := hr.lt
 obtain ⟨hBr, own, er, hrb, hown⟩ := hr
 have HRB0 := Lib.hid hrb
 have HBr := Lib.hid hBr
 have HB := Lib.hid hB
 rcases own with _ | g
 ·have CM := Lib.hid (mostOK t w (hin.more hB) hh)
  obtain ⟨e1, hE1⟩ : ∃ e1, (qan_ t.root).2 = e1 := ⟨_, rfl⟩
  rw [hE1] at CM
  have CO := Lib.hid (fun W (hW : Below B w W) (hs : B <= W.heap.size) => qmf_ t W ((hin.under hW).more hs) hh)
  obtain ⟨⟨b0, b1, b2, b3, b4⟩, b5, b6⟩ := qbi_ hrb
  have hmn : ∀ W : World, (binOp .eql 159 (.map none) (.map none)).run Tryz.prog W = .ok (.bool true) W := fun W => run_eql_map_nil W _ _ _ none Tryz.underlying159
  obtain ⟨RT, hRT⟩ : ∃ RT, t.root = RT := ⟨_, rfl⟩
  rw [hRT] at CO
  have HE1 : Hid (e1 = (qan_ RT).2) := Lib.hid (by rw [<- hRT]; exact hE1.symm)
  clear hE1
  generalize mostOf t.root = m1 at *
  obtain ⟨boot, ra, rc, rs, ⟨nm, pa, pc, ps, ka, kc, ks⟩⟩ := t
  simp only [Tr.val, Tr.rv, Nd.val, Nd.pv, Nd.kv, Nd.name, Nd.pa, Nd.pc, Nd.props, Nd.ka, Nd.kc, Nd.kids] at CM CO b0 b1 b2 b3 b4
  obtain ⟨TT, hTT⟩ : ∃ TT, Tr.mk boot ra rc rs (Nd.mk nm pa pc ps ka kc ks) = TT := ⟨_, rfl⟩
  have HCL : Hid (∀ (W : World) (o : Option Nat) (x : Int), W.heap[r]? = some (rbox TT o x) -> (W.cell? ⟨r, 0, none⟩ = some (.int .u32 boot) /\ W.cell? ⟨r, 1, none⟩ = some (.slice ra rs.length rc) /\ W.cell? ⟨r, 2, none⟩ = some (.string nm) /\ W.cell? ⟨r, 3, none⟩ = some (.slice pa ps.length pc) /\ W.cell? ⟨r, 4, none⟩ = some (.slice ka ks.length kc))) := Lib.hid (fun W o x hW => by
   rw [<- hTT] at hW
   exact (qbi_ hW).1)
  rw [hTT] at HRB0 HRD0 hRT ⊢
  rw [<- hRT] at CO HE1
  clear hRT
  clear hTT hin hrb hown h0 hlt hBr hB b5 b6
  obtain ⟨_, b5, _⟩ := qbi_ HRB0.out
  go_enter Tryz.func142, Tryz.ntmps142
  go_wp2_with fail
  refine CM.out.mono ?_
  rintro e w1 ⟨rfl, hb1⟩
  have hrb1 := (hb1.block r HRD0.out.lt).trans HRB0.out
  have f6 := qgt_ hrb1 6
  obtain ⟨_, _, b6⟩ := qbi_ hrb1
  obtain ⟨w2, hw2⟩ : ∃ w2, w1.setCell ⟨r, 6, none⟩ (.int .i64 e1) = w2 := ⟨_, rfl⟩
  have hrb2 : w2.heap[r]? = some (rbox TT none e1) := by rw [<- hw2]; exact qo5_ hrb1 e1
  have hb2 : Below B w w2 := by rw [<- hw2]; exact (hb1.mono HB.out).setCell (p := ⟨r, 6, none⟩) HBr.out _
  have hs2 : w2.heap.size = w1.heap.size := by rw [<- hw2]; simp
  have ho2 : ∀ k, k ≠ r -> w2.heap[k]? = w1.heap[k]? := fun k hk => by rw [<- hw2]; exact Below.heap_setCell _ _ _ _ hk
  have HB1 := Lib.hid hb1
  have HRB2 := Lib.hid hrb2
  have HB2 := Lib.hid hb2
  have HS2 := Lib.hid (And.intro hs2 ho2)
  clear hb1 hrb1 hrb2 hb2 hs2 ho2 b0 b1 b2 b3 b4 b5 CM
  obtain ⟨b0, b1, b2, b3, b4⟩ := HCL.out w2 _ _ HRB2.out
  go_wp2_with fail
  clear hw2 f6 b6
  refine (CO.out w2 HB2.out (by have h1 := HS2.out.1; have h2 := HB1.out.size; have h3 := HB.out; omega)).mono ?_
  rintro e w3 ⟨g, rfl, hg, hmz3, hb3⟩
  have hrb3 := (hb3.block r (Array.getElem?_eq_some_iff.1 HRB2.out).1).trans HRB2.out
  have f5 := qgt_ hrb3 5
  obtain ⟨_, b5, _⟩ := qbi_ hrb3
  obtain ⟨w4, hw4⟩ : ∃ w4, w3.setCell ⟨r, 5, none⟩ (.map (some g)) = w4 := ⟨_, rfl⟩
  have hgr : g ≠ r := by have h1 := (Array.getElem?_eq_some_iff.1 HRB2.out).1; omega
  have hrb4 : w4.heap[r]? = some (rbox TT (some g) e1) := by rw [<- hw4]; exact rbox_own hrb3 (some g)
  have ho4 : ∀ k, k ≠ r -> w4.heap[k]? = w3.heap[k]? := fun k hk => by rw [<- hw4]; exact Below.heap_setCell _ _ _ _ hk
  have hs4 : w4.heap.size = w3.heap.size := by rw [<- hw4]; simp
  have hw2s : w.heap.size <= w2.heap.size := by have h1 := HS2.out.1; have h2 := HB1.out.size; omega
  have hmz4 : MF w4 TT.root (fun k => D k \/ w.heap.size <= k) g ((qac_ TT.root []).filterMap (hOf TT.root)) := hmz3.keep (ho4 g hgr) (fun j h _ => .inr (Nat.le_trans hw2s h)) (fun j h _ => ho4 j (fun e => by
   have h1 := (Array.getElem?_eq_some_iff.1 HRB2.out).1
   have h2 : w2.heap.size <= j := h
   omega))
  have hb4 : Below B w w4 := by
   rw [<- hw4]
   exact (HB2.out.trans (hb3.mono (by have h1 := HS2.out.1; have h2 := HB1.out.size; have h3 := HB.out; omega))).setCell (p := ⟨r, 5, none⟩) HBr.out _
  have HMZ := Lib.hid hmz4
  have HRB := Lib.hid hrb4
  have HRD : Hid (RdF w4 B r TT (fun k => D k \/ w.heap.size <= k)) := Lib.hid ⟨HBr.out, some g, e1, hrb4, fun g' e => by cases e; refine ⟨⟨?_, .inr (Nat.le_trans hw2s hg)⟩, HE1.out, hmz4⟩; have h1 := HS2.out.1; have h2 := HB1.out.size; have h3 := HB.out; omega⟩
  have HTN : Hid (Tn B r w w4) := Lib.hid ⟨hb4, fun k hk hkr => by
   have h1 := HB1.out.size
   rw [ho4 k hkr, hb3.block k (by have := HS2.out.1; omega), HS2.out.2 k hkr]
   exact HB1.out.block k hk⟩
  have HBWW : Hid (B <= w4.heap.size) := Lib.hid (Nat.le_trans HB.out hb4.size)
  clear hg hmz3 hb3 hrb3 hgr hrb4 ho4 hs4 hmz4 hb4 hw2s b0 b1 b2 b3 b4 CO HCL
  have HER := HE1
  obtain ⟨v, rl, hg2, hg1⟩ := HMZ.out.look HH0.out
  have HIH := Lib.hid (qg9_ TT.root h)
  generalize (((qac_ TT.root []).filterMap (hOf TT.root)).any (fun x => decide (x.1 = h))) = rr at *
  obtain ⟨_, c5, c6⟩ := qbi_ HRB.out
  by_cases he : e1 = 0
  rotate_left
  ·have q1 : (e1 != 0) = true := by rw [bne_iff_ne]; exact he
   have HE := Lib.hid he
   clear he hg1 hg2 rl
   go_wp2_with fail
   go_quiet (fail)
   go_wp2
   go_ret2
   exact ⟨by (rw [HIH.out.1 (by rw [<- HER.out]; exact HE.out), <- HER.out]; rfl), RdF.on HRD.out (by exact ⟨rfl, rfl, rfl, Nat.le_refl _, fun _ _ => rfl⟩), HTN.out.trans (Tn.of_below ⟨rfl, rfl, rfl, Nat.le_refl _, fun _ _ => rfl⟩ HBWW.out)⟩
  subst he
  cases rr
  ·obtain rfl := hg2 rfl
   clear hg1 hg2
   go_wp2
   go_ret2
   exact ⟨by (rw [HIH.out.2.1 HER.out.symm (by trivial)]; rfl), HRD.out, HTN.out⟩
  ·obtain ⟨hnd, hih⟩ := HIH.out.2.2 HER.out.symm
   obtain ⟨bb, zz, xx, rfl, hsp, hmem⟩ := hg1 rfl hnd
   have HSP := Lib.hid (And.intro hsp (hih _ hmem))
   clear hnd hih hmem
   clear hg1 hg2 hsp
   go_wp2
   go_ret2
   exact ⟨by (rw [HSP.out.2]; exact ⟨bb, xx, rfl, HSP.out.1⟩), HRD.out, HTN.out⟩
 ·obtain ⟨hBg, her, hmz⟩ := hown g rfl
  have HER := Lib.hid her
  have HMZ := Lib.hid (hmz.keep (D' := fun k => D k \/ w.heap.size <= k) rfl (fun j h _ => .inl h) (fun _ _ _ => rfl))
  have HRB := HRB0
  have HRD := Lib.hid (HRD0.out.keep (D' := fun k => D k \/ w.heap.size <= k) (fun j h _ => .inl h) (fun _ _ _ => rfl))
  have HTN := Lib.hid (Tn.refl B r w)
  have HBWW := HB
  clear hrb hown hmz hBg her hin hh h0 hlt hBr hB
  have hmn : ∀ W : World, (binOp .eql 159 (.map (some g)) (.map none)).run Tryz.prog W = .ok (.bool false) W := fun W => run_eql_map_nil W _ _ _ (some g) Tryz.underlying159
  go_enter Tryz.func142, Tryz.ntmps142
  obtain ⟨v, rl, hg2, hg1⟩ := HMZ.out.look HH0.out
  have HIH := Lib.hid (qg9_ t.root h)
  generalize (((qac_ t.root []).filterMap (hOf t.root)).any (fun x => decide (x.1 = h))) = rr at *
  obtain ⟨_, c5, c6⟩ := qbi_ HRB.out
  by_cases he : er = 0
  rotate_left
  ·have q1 : (er != 0) = true := by rw [bne_iff_ne]; exact he
   have HE := Lib.hid he
   clear he hg1 hg2 rl
   go_wp2_with fail
   go_quiet (fail)
   go_wp2
   go_ret2
   exact ⟨by (rw [HIH.out.1 (by rw [<- HER.out]; exact HE.out), <- HER.out]; rfl), RdF.on HRD.out (by exact ⟨rfl, rfl, rfl, Nat.le_refl _, fun _ _ => rfl⟩), HTN.out.trans (Tn.of_below ⟨rfl, rfl, rfl, Nat.le_refl _, fun _ _ => rfl⟩ HBWW.out)⟩
  subst he
  cases rr
  ·obtain rfl := hg2 rfl
   clear hg1 hg2
   go_wp2
   go_ret2
   exact ⟨by (rw [HIH.out.2.1 HER.out.symm (by trivial)]; rfl), HRD.out, HTN.out⟩
  ·obtain ⟨hnd, hih⟩ := HIH.out.2.2 HER.out.symm
   obtain ⟨bb, zz, xx, rfl, hsp, hmem⟩ := hg1 rfl hnd
   have HSP := Lib.hid (And.intro hsp (hih _ hmem))
   clear hnd hih hmem
   clear hg1 hg2 hsp
   go_wp2
   go_ret2
   exact ⟨by (rw [HSP.out.2]; exact ⟨bb, xx, rfl, HSP.out.1⟩), HRD.out, HTN.out⟩
end
end Go.Proofs.YtcfinbapfhhpgaaGreatDoor
