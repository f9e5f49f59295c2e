/-
  Iter, part 20.
-/
import Derived.Test.YtcfinbapfhhpgaaGreatDoorIter10
import Derived.Test.YtcfinbapfhhpgaaGreatDoorIter15
import Derived.Test.YtcfinbapfhhpgaaGreatDoorIter13
import Derived.Test.YtcfinbapfhhpgaaGreatDoorBase6
import Derived.Test.YtcfinbapfhhpgaaGreatDoorBase9
import Derived.Test.YtcfinbapfhhpgaaGreatDoorIter11
import Derived.Test.YtcfinbapfhhpgaaGreatDoorIter12
import Derived.Test.YtcfinbapfhhpgaaGreatDoorBase1
namespace Go.Proofs.YtcfinbapfhhpgaaGreatDoor
open Go.RowKit
set_option linter.unusedVariables false
set_option linter.unusedSimpArgs false
set_option maxRecDepth 20000
set_option maxHeartbeats 16000000
theorem qlo_ {xs : List (Value × Value)} {j : Nat} {u : Value} (h : (flat2 xs)[j]? = some u) : ∃ i, ∃ hi : i < xs.length, (j = i * 2 /\ u = xs[i].1) \/ (j = i * 2 + 1 /\ u = xs[i].2) := by
 have hj := (List.getElem?_eq_some_iff.1 h).1
 rw [qbn_] at hj
 have hi : j / 2 < xs.length := by omega
 refine ⟨j / 2, hi, ?_⟩
 obtain ⟨a1, a2⟩ := qe5_ xs (j / 2) hi
 rcases Nat.mod_two_eq_zero_or_one j with h0 | h0
 ·left
  have e : j / 2 * 2 = j := by omega
  rw [e, h] at a1
  exact ⟨e.symm, Option.some.inj a1⟩
 ·right
  have e : j / 2 * 2 + 1 = j := by omega
  rw [e, h] at a2
  exact ⟨e.symm, Option.some.inj a2⟩
theorem qfg_ (xs ys : List (Value × Value)) : flat2 (xs ++ ys) = flat2 xs ++ flat2 ys := by simp [flat2]
theorem app_pairs {t e : TypeId} {i0 : TypeInfo} {z : Value} {bytes : Nat} (ht : Tryz.prog.underlying t = some (.slice e)) (hi : Tryz.prog.info? e = some i0) (hz : i0.zero = some z) (hs1 : i0.size = 2) (hby : i0.bytes = bytes) (hzs : z.cells.size = 2)
  {w : World} {B B' : Nat} {v : Value} {xs ys : List (Value × Value)} {A : Option Addr} {m : Nat} (c : Nat) (h : w.ownsRow B e 2 v xs.length (flat2 xs)) (hs : Cel2 w B' A m ys) (h1 : ∀ u ∈ ys, u.1.oneCell' = true /\ u.2.oneCell' = true)
  (hbig : (xs.length + ys.length) * bytes <= 140737488355328) (hlen : xs.length + ys.length <= 140737488355328) (hB : B <= w.heap.size) (ty : TypeId) :
  ∃ v' w', (Builtin.append_ #[t, t] ty #[v, .slice A m c]).run Tryz.prog w = .ok v' w' /\ w'.ownsRow B e 2 v' (xs ++ ys).length (flat2 (xs ++ ys)) /\ w.grownBy w' v.ownBlock := by
 have hm : ys.length = m := hs.1
 rcases Nat.eq_zero_or_pos m with h0 | h0
 ·obtain rfl : ys = [] := List.eq_nil_of_length_eq_zero (hm.trans h0)
  subst h0
  rcases A with _ | ad
  ·refine ⟨v, w, ?_, by simpa using h, World.grownBy.refl w _⟩
   rcases h.2 with ⟨rfl, _⟩ | ⟨g, cap, cur, rfl, _, _, hnc, _⟩
   ·simp [Builtin.append_, run_underlying ht, sizeOf, typeInfo, hi, Builtin.lenOf, Builtin.firstCells]
   ·simp [Builtin.append_, run_underlying ht, sizeOf, typeInfo, hi, Builtin.lenOf, Builtin.firstCells, hnc, storeCells]
  ·obtain ⟨v', w', r1, r2, r3, _, r5⟩ := run_append_own_at (P := Tryz.prog) w B t ty e i0 z 2 bytes ht hi hz hs1 hby hzs (by omega) v _ (flat2 xs) h ad 0 c [] rfl (by simp) (by simp) (by unfold maxLen; simp at hlen; omega) (by simpa using hbig) hB
   exact ⟨v', w', r1, by simpa using r2, r3⟩
 ·obtain ⟨b, o, rfl, _, hc⟩ := hs.2 h0
  obtain ⟨v', w', r1, r2, r3, _, r5⟩ := run_append_own_at (P := Tryz.prog) w B t ty e i0 z 2 bytes ht hi hz hs1 hby hzs (by omega) v _ (flat2 xs) h ⟨b, o, none⟩ m c (flat2 ys) (by rw [qbn_, hm])
   (fun j u hu => by
    obtain ⟨i, hil, ⟨rfl, rfl⟩ | ⟨rfl, rfl⟩⟩ := qlo_ hu
    ·rw [qbc_]; exact (hc i hil).1
    ·rw [qbc_]; exact (hc i hil).2)
   (fun u hu => by
    obtain ⟨j, hj, e2⟩ := List.getElem_of_mem hu
    obtain ⟨i, hil, ⟨_, rfl⟩ | ⟨_, rfl⟩⟩ := qlo_ (List.getElem?_eq_some_iff.2 ⟨hj, e2⟩)
    ·exact (h1 _ (List.getElem_mem hil)).1
    ·exact (h1 _ (List.getElem_mem hil)).2) (by unfold maxLen; omega) (by rw [<- hm]; exact hbig) hB
  exact ⟨v', w', r1, by rw [List.length_append, hm, qfg_]; exact r2, r3⟩
def kidW (q y : Nd) (kd : Int) : List (Int × Int) := if devB kd = true then (regV q y).2 else if kd = 1 then (qap_ q y).2.2.map (fun x => (x.2.1, x.2.2)) else []
def qc5_ (q : Nd) (kf : Nat -> Int) : Nat -> List (Int × Int)
 | 0 => []
 | k + 1 => qc5_ q kf k ++ (match q.kids[k]? with | some y => kidW q y (kf k) | none => [])
theorem kidW_len (q y : Nd) (kd : Int) : (kidW q y kd).length <= heftN y + 1 := by
 unfold kidW
 split
 ·exact Nat.le_succ_of_le qn5_
 ·split
  ·rw [List.length_map]; exact qhf_
  ·exact Nat.zero_le _
theorem heft_pos (y : Nd) : 16 <= heftN y := by cases y; rw [heftN]; omega
theorem qi4_ (q : Nd) (kf : Nat -> Int) : ∀ k, (qc5_ q kf k).length <= 2 * heftL (q.kids.take k)
 | 0 => Nat.zero_le _
 | k + 1 => by
  rw [qc5_, List.length_append]
  have ih := qi4_ q kf k
  rcases h : q.kids[k]? with _ | y
  ·have h1 : q.kids.take (k + 1) = q.kids.take k := by rw [List.take_add_one, h]; simp
   rw [h1]; simpa using ih
  ·have h1 : q.kids.take (k + 1) = q.kids.take k ++ [y] := by rw [List.take_add_one, h]; rfl
   rw [h1, qc4_]
   have h2 := kidW_len q y (kf k)
   have h3 := heft_pos y
   have h4 : heftL [y] = heftN y := by rw [heftL, heftL]; rfl
   simp only
   omega
theorem qgu_ (q : Nd) (kf : Nat -> Int) (k : Nat) : (qc5_ q kf k).length <= 2 * heftN q := by
 have h1 := qi4_ q kf k
 have h2 := qbb_ q.kids k
 have h3 : heftN q = 16 + q.name.size + (q.props.map heftP).sum + heftL q.kids := by cases q; rw [heftN]; rfl
 omega
theorem regV_bad {q y : Nd} (h : (regV q y).1 = false) : (regV q y).2 = [] := by
 unfold regV at h ⊢
 rcases hf : y.props.find? (fun x => decide (x.name = qf1_)) with _ | x
 ·rw [hf]
 ·rw [hf] at h ⊢
  simp only at h ⊢
  split at h
  ·rename_i h2; rw [if_pos h2]
  ·cases h
theorem ql7_ {q y : Nd} (h : (qap_ q y).2.1 = false) : (qap_ q y).2.2 = [] := by
 unfold qap_ at h ⊢
 rcases hf : y.props.find? (fun x => decide (x.name = qcb_)) with _ | x
 ·rw [hf]
 ·rw [hf] at h ⊢
  simp only at h ⊢
  split at h
  ·rename_i h2; rw [if_pos h2]
  ·split at h <;> cases h
def WinR (g : Nat) (w0 : World) (v : Value) (L : List (Int × Int)) (w : World) : Prop := w.ownsRow g 173 2 v L.length (flat2 (L.map winV)) /\ Below g w0 w /\ g <= w.heap.size
theorem WinR.on {g : Nat} {w0 w w' : World} {v : Value} {L : List (Int × Int)} (h : WinR g w0 v L w) (hb : Below w.heap.size w w') : WinR g w0 v L w' :=
 ⟨qez_ h.1 hb, h.2.1.trans (hb.mono h.2.2), Nat.le_trans h.2.2 hb.size⟩
theorem WinR.app {g : Nat} {w0 w : World} {v : Value} {L M : List (Int × Int)} {A : Option Addr} {m c B' : Nat} (h : WinR g w0 v L w) (hs : Cel2 w B' A m (M.map winV)) (hl : (L ++ M).length <= 268435456) :
  ∃ v' w', (Builtin.append_ #[124, 124] 124 #[v, .slice A m c]).run Tryz.prog w = .ok v' w' /\ WinR g w0 v' (L ++ M) w' := by
 obtain ⟨h1, h2, h3⟩ := h
 obtain ⟨i0, hi, hz, hs1, hby⟩ := qaw_ qfm_
 rw [List.length_append] at hl
 obtain ⟨v', w', r1, r2, r3⟩ := app_pairs Tryz.underlying124 hi hz hs1 hby rfl (w := w) (xs := L.map winV) c (by rw [List.length_map]; exact h1) hs (fun u hu => by
  obtain ⟨x, _, rfl⟩ := List.mem_map.1 hu
  exact ⟨rfl, rfl⟩) (by simp only [List.length_map]; omega) (by simp only [List.length_map]; omega) h3 124
 refine ⟨v', w', r1, ?_, h2.grown r3 h3 (fun q hq => (h1.lt q hq).1), Nat.le_trans h3 r3.size⟩
 have e : (L ++ M).length = (L.map winV ++ M.map winV).length := by simp
 rw [e, List.map_append]
 exact r2
theorem WinR.one {g : Nat} {w0 w : World} {v : Value} {L : List (Int × Int)} (h : WinR g w0 v L w) (x : Int × Int) (hl : (L ++ [x]).length <= 268435456) :
  ∃ v' w', (Builtin.append_ #[124, 124] 124 #[v, .slice (some ⟨w.heap.size, 0, none⟩) 1 1]).run Tryz.prog (w.alloc (.cells #[.int .u64 x.1, .int .u64 x.2] 173)) = .ok v' w' /\ WinR g w0 v' (L ++ [x]) w' /\ w.heap.size <= w'.heap.size /\ ∀ b, b < w.heap.size -> v.ownBlock ≠ some b -> w'.heap[b]? = w.heap[b]? /\ v'.ownBlock ≠ some b := by
 obtain ⟨h1, h2, h3⟩ := h
 obtain ⟨i0, hi, hz, hs1, hby⟩ := qaw_ qfm_
 rw [List.length_append, List.length_singleton] at hl
 obtain ⟨A', c', w', r1, r2, r3, r4, r5⟩ := qd6_ Tryz.underlying124 hi hz hs1 hby rfl h1 (winV x) rfl rfl (by omega) (by omega) h3 124
 refine ⟨_, w', r1, ⟨?_, h2.trans r3, Nat.le_trans h3 r4.size⟩, r4.size, fun b hb hne => ⟨r4.block b hb (fun e => hne e.symm), ?_⟩⟩
 ·have e : (L ++ [x]).length = L.length + 1 := by simp
  rw [e, List.map_append]
  exact r2
 ·rcases r5 with e | e
  ·rw [e]; exact hne
  ·rw [e]; intro h; have := Option.some.inj h; omega
def Apart (A : Option Addr) (w2 : World) (v : Value) (w : World) : Prop := w2.heap.size <= w.heap.size /\ ∀ b o, A = some ⟨b, o, none⟩ -> b < w2.heap.size -> w.heap[b]? = w2.heap[b]? /\ v.ownBlock ≠ some b
theorem qj9_ (t : Tr) (B0 bc : Nat) (xs : List SpR) (ds : List SpD) (i : Nat) (kf : Nat -> Int) (w : World) (hi : i < xs.length) (hi' : i < ds.length) (hk : Chk w t bc xs ds) (hin : t.In w B0) (hB : B0 <= w.heap.size) (hh : heftN t.root <= 134217728)
  (hkf : ∀ k (h : k < xs[i].ks.length) j (hj : j < xs.length) (hj' : j < ds.length), xs[j].b = xs[i].ks[k] -> ds[j].kd = kf k) :
  Calls Tryz.prog 51 #[.pointer (some ⟨xs[i].b, 0, none⟩)] w fun e w' => ∃ A m c, e = .returned (.slice A m c) /\ w'.ownsRow w.heap.size 173 2 (.slice A m c) m (flat2 ((qc5_ xs[i].y kf xs[i].y.kids.length).map winV)) /\ Below w.heap.size w w' := by
 have hnode : ∀ j (hj : j < xs.length), xs[j].y.In w B0 /\ heftN xs[j].y <= 134217728 := fun j hj => by
  have h1 := (qa4_ _ _).trans (hk.sp.stat _ (List.getElem_mem hj)).node
  exact ⟨qa9_ _ hin.root h1, Nat.le_trans (qbs_ _ h1) hh⟩
 have hst := hk.sp.stat _ (List.getElem_mem hi)
 have hlen : xs[i].ks.length = xs[i].y.kids.length := hst.down.1
 -- who the kids are
 have HKID : Hid (∀ k, k < xs[i].y.kids.length -> ∃ j, ∃ hj : j < xs.length, ∃ hj' : j < ds.length, xs[i].ks[k]? = some xs[j].b /\ xs[i].y.kids[k]? = some xs[j].y /\ ds[j].kd = kf k) := Lib.hid (fun k hkl => by
  have hkl2 : k < xs[i].ks.length := by rw [hlen]; exact hkl
  obtain ⟨r, hr, e⟩ := List.mem_map.1 (hst.down.2 k hkl2)
  obtain ⟨j, hj, rfl⟩ := List.getElem_of_mem hr
  have hj' : j < ds.length := by rw [hk.sp.len]; exact hj
  have e1 : xs[j].b = xs[i].ks[k] := congrArg Prod.fst e
  have e2 : xs[j].z = xs[i].z ++ [k] := congrArg Prod.snd e
  refine ⟨j, hj, hj', by rw [List.getElem?_eq_getElem hkl2, e1], ?_, hkf k hkl2 j hj hj' e1⟩
  have n1 := (qa4_ _ _).trans hst.node
  have n2 := (qa4_ _ _).trans (hk.sp.stat _ (List.getElem_mem hj)).node
  rw [e2, List.map_append, qar_, n1] at n2
  simp only [List.map_cons, List.map_nil, nodeZ, Int.ofNat_eq_natCast, Int.toNat_natCast] at n2
  rw [if_neg (by omega)] at n2
  rw [List.getElem?_eq_getElem hkl] at n2 ⊢
  exact n2)
 have CR := Lib.hid (fun W j (hj : j < xs.length) (hW : Below w.heap.size w W) => regOK xs[i].y xs[j].y W (((hnode i hi).1.more hB).on hW) (((hnode j hj).1.more hB).on hW) (Nat.le_trans (hnode i hi).2 (by decide)) (Nat.le_trans (hnode j hj).2 (by decide)))
 have CG := Lib.hid (fun W j (hj : j < xs.length) (hW : Below w.heap.size w W) => qe2_ xs[i].y xs[j].y W (((hnode i hi).1.more hB).on hW) (((hnode j hj).1.more hB).on hW) (Nat.le_trans (hnode i hi).2 (by decide)) (Nat.le_trans (hnode j hj).2 (by decide)))
 have CA := Lib.hid (fun x y z W => qlk_ x y z W)
 have CI := Lib.hid (fun W j (hj : j < xs.length) (hj' : j < ds.length) (hW : Below w.heap.size w W) => qk3_ xs[j] ds[j] W ((hW.block _ (hk.sp.lt hj)).trans (hk.sp.box j hj hj')))
 obtain ⟨kA, kc, ekk, hkc, hk1, hk2, _⟩ := qai_ hst.kids
 have hep : xs[i].kA = kA /\ xs[i].kc = kc := by simpa using ekk
 obtain ⟨rfl, rfl⟩ := hep
 have HKC : Hid (Cel w w.heap.size xs[i].kA xs[i].y.kids.length (xs[i].ks.map bptr)) := Lib.hid (by rw [<- hlen]; exact hkc)
 rw [hlen] at hk1
 have HSI : Hid (∀ W, Below w.heap.size w W -> W.cell? ⟨xs[i].b, 1, none⟩ = some (.string xs[i].y.name) /\ W.cell? ⟨xs[i].b, 2, none⟩ = some xs[i].y.pv /\ W.cell? ⟨xs[i].b, 3, none⟩ = some xs[i].y.kv /\ W.cell? ⟨xs[i].b, 5, none⟩ = some (.slice xs[i].kA xs[i].y.kids.length xs[i].kc)) := Lib.hid (fun W hW => by
  obtain ⟨_, q1, q2, q3, _, q5, _⟩ := qaq_ ((hW.block _ (hk.sp.lt hi)).trans (hk.sp.box i hi hi'))
  rw [hlen] at q5
  exact ⟨q1, q2, q3, q5⟩)
 have HSJ : Hid (∀ W j (hj : j < xs.length) (hj' : j < ds.length), Below w.heap.size w W -> W.cell? ⟨xs[j].b, 1, none⟩ = some (.string xs[j].y.name) /\ W.cell? ⟨xs[j].b, 2, none⟩ = some xs[j].y.pv /\ W.cell? ⟨xs[j].b, 3, none⟩ = some xs[j].y.kv /\ W.cell? ⟨xs[j].b, 7, none⟩ = some (.int .i64 ds[j].kd)) := Lib.hid (fun W j hj hj' hW => by
  obtain ⟨_, q1, q2, q3, _, _, _, q7, _⟩ := qaq_ ((hW.block _ (hk.sp.lt hj)).trans (hk.sp.box j hj hj'))
  exact ⟨q1, q2, q3, q7⟩)
 have HLN : Hid (∀ k, (qc5_ xs[i].y kf k).length <= 268435456) := Lib.hid (fun k => Nat.le_trans (qgu_ _ kf k) (by have := (hnode i hi).2; omega))
 have HLY : Hid (∀ j (hj : j < xs.length), heftN xs[j].y <= 134217728) := Lib.hid (fun j hj => (hnode j hj).2)
 have H64 : Hid (∀ j (hj : j < xs.length), ∀ x ∈ (qap_ xs[i].y xs[j].y).2.2, U64 x.1 /\ U64 x.2.1 /\ U64 x.2.2) := Lib.hid (fun j hj => qc9_ ((hnode i hi).1.more hB) ((hnode j hj).1.more hB))
 clear hnode hst hlen hkc hkf hk hin hh ekk hB
 obtain ⟨n, hn⟩ : ∃ n, xs[i].y.kids.length = n := ⟨_, rfl⟩
 rw [hn] at HSI HKC HKID hk1 ⊢
 obtain ⟨q, hq⟩ : ∃ q, xs[i].y = q := ⟨_, rfl⟩
 rw [hq] at HSI CR CG HLN HKID H64 ⊢
 obtain ⟨kA, hkA⟩ : ∃ kA, xs[i].kA = kA := ⟨_, rfl⟩
 obtain ⟨kc, hkcc⟩ : ∃ kc, xs[i].kc = kc := ⟨_, rfl⟩
 rw [hkA, hkcc] at HSI
 rw [hkA] at HKC
 rw [hkcc] at hk1 hk2
 obtain ⟨bi, hbi⟩ : ∃ bi, xs[i].b = bi := ⟨_, rfl⟩
 rw [hbi] at HSI ⊢
 obtain ⟨KS, hKS⟩ : ∃ KS, xs[i].ks = KS := ⟨_, rfl⟩
 rw [hKS] at HKC HKID
 clear hn hq hkA hkcc hbi hKS
 obtain ⟨g, hg⟩ : ∃ g, w.heap.size = g := ⟨_, rfl⟩
 rw [hg] at HSI HSJ CI CR CG ⊢
 have HG := Lib.hid hg
 clear hg
 obtain ⟨qn, qpa, qpc, qps, qka, qkc, qks⟩ := q
 simp only [Nd.val, Nd.pv, Nd.kv, Nd.name, Nd.pa, Nd.pc, Nd.props, Nd.ka, Nd.kc, Nd.kids] at HSI CR CG
 have c5 := (HSI.out w (Below.refl _ _)).2.2.2
 go_enter Tryz.func51, Tryz.ntmps51
 go_wp2_with fail
 clear c5
 go_loopw [3, 18] (fun l i wr => ∃ k : Nat, k <= n /\ i = .int .i64 k /\ WinR g w l (qc5_ (Nd.mk qn qpa qpc qps qka qkc qks) kf k) wr) (fun _ i _ => n - (intOf i).toNat)
 case atStart => exact ⟨0, Nat.zero_le _, rfl, ⟨rfl, .inl ⟨rfl, rfl⟩⟩, Below.refl _ _, by rw [<- HG.out]; exact Nat.le_refl _⟩
 case round =>
  obtain ⟨k, hk, rfl, hown⟩ := hrel
  have hb := hown.2.1
  have HOWN := Lib.hid hown
  have HB := Lib.hid hb
  by_cases hlt : k < n
  ·obtain ⟨j, hj, hj', ekb, eky, ekd⟩ := HKID.out k hlt
   obtain ⟨kb, ko, rfl, _, hcc⟩ := (HKC.out.below (by rw [HG.out]; exact hb)).2 (by omega)
   have d0 := hcc k hlt
   rw [List.getElem?_map, ekb] at d0
   replace d0 : wr.cell? ⟨kb, ko + k, none⟩ = some (.pointer (some ⟨xs[j].b, 0, none⟩)) := d0
   have HST : Hid (qc5_ (Nd.mk qn qpa qpc qps qka qkc qks) kf (k + 1) = qc5_ (Nd.mk qn qpa qpc qps qka qkc qks) kf k ++ kidW (Nd.mk qn qpa qpc qps qka qkc qks) xs[j].y ds[j].kd) := Lib.hid (by rw [qc5_, eky, ekd])
   have HLN1 := Lib.hid (HLN.out (k + 1))
   have CIj := Lib.hid (CI.out wr j hj hj' hb)
   have CRj := Lib.hid (fun W hW => CR.out W j hj hW)
   have CGj := Lib.hid (fun W hW => CG.out W j hj hW)
   have HSJj := Lib.hid (fun W hW => HSJ.out W j hj hj' hW)
   have H64j := Lib.hid (H64.out j hj)
   obtain ⟨y, hy⟩ : ∃ y, xs[j].y = y := ⟨_, rfl⟩
   obtain ⟨bj, hbj⟩ : ∃ bj, xs[j].b = bj := ⟨_, rfl⟩
   obtain ⟨kd, hkd⟩ : ∃ kd, ds[j].kd = kd := ⟨_, rfl⟩
   rw [hy, hkd] at HST
   rw [hy] at CRj CGj H64j
   rw [hy, hbj, hkd] at HSJj
   rw [hbj, hkd] at CIj
   rw [hbj] at d0
   clear hcc ekb eky ekd hy hbj hkd hown hb hj hj'
   go_wp2_with fail
   refine CIj.out.mono ?_
   rintro e w1 ⟨rfl, hw1⟩
   subst hw1
   clear CIj
   obtain ⟨yn, ypa, ypc, yps, yka, ykc, yks⟩ := y
   simp only [Nd.val, Nd.pv, Nd.kv, Nd.name, Nd.pa, Nd.pc, Nd.props, Nd.ka, Nd.kc, Nd.kids] at HSJj CRj CGj
   have HS : Hid (∀ W, Below g w W -> (W.cell? ⟨bi, 1, none⟩ = some (.string qn) /\ W.cell? ⟨bi, 2, none⟩ = some (.slice qpa qps.length qpc) /\ W.cell? ⟨bi, 3, none⟩ = some (.slice qka qks.length qkc)) /\ (W.cell? ⟨bj, 1, none⟩ = some (.string yn) /\ W.cell? ⟨bj, 2, none⟩ = some (.slice ypa yps.length ypc) /\ W.cell? ⟨bj, 3, none⟩ = some (.slice yka yks.length ykc))) := Lib.hid (fun W hW => by
    obtain ⟨a1, a2, a3, _⟩ := HSI.out W hW
    obtain ⟨b1, b2, b3, _⟩ := HSJj.out W hW
    exact ⟨⟨a1, a2, a3⟩, b1, b2, b3⟩)
   have c7 := (HSJj.out w1 HB.out).2.2.2
   obtain ⟨DB, hDB⟩ : ∃ DB, devB kd = DB := ⟨_, rfl⟩
   have HDB := Lib.hid hDB
   rw [hDB]
   clear hDB HSJj HSI d0
   cases DB
   rotate_left
   ·have HKW : Hid (kidW (Nd.mk qn qpa qpc qps qka qkc qks) (Nd.mk yn ypa ypc yps yka ykc yks) kd = (regV (Nd.mk qn qpa qpc qps qka qkc qks) (Nd.mk yn ypa ypc yps yka ykc yks)).2) := Lib.hid (by rw [kidW, if_pos HDB.out])
    go_wp2_with fail
    clear c7
    refine wp_region_held_drew (S := fun W => (W.cell? ⟨bi, 1, none⟩ = some (.string qn) /\ W.cell? ⟨bi, 2, none⟩ = some (.slice qpa qps.length qpc) /\ W.cell? ⟨bi, 3, none⟩ = some (.slice qka qks.length qkc)) /\ (W.cell? ⟨bj, 1, none⟩ = some (.string yn) /\ W.cell? ⟨bj, 2, none⟩ = some (.slice ypa yps.length ypc) /\ W.cell? ⟨bj, 3, none⟩ = some (.slice yka yks.length ykc))) (by kernel_rfl) (HS.out _ HB.out.drew) (fun hHeld => ?_)
    refine tk 0 hHeld fun _ => ?_
    refine tk 1 hHeld fun _ => ?_
    refine tk 2 hHeld fun _ => ?_
    refine tk 3 hHeld fun _ => ?_
    refine tk 4 hHeld fun _ => ?_
    refine tk 5 hHeld fun _ => ?_
    refine tk 6 hHeld fun _ => ?_
    refine tk 7 hHeld fun _ => ?_
    refine qab_ 8 (by kernel_rfl) rfl (by rfl) (fun K hK => ?_)
    go_simp
    refine (CRj.out _ HB.out.drew).mono ?_
    rintro e w2 ⟨hgd, hbad, hb⟩
    have HX := Lib.hid ((Below.refl w1.heap.size w1).drew.trans (hb.mono (by simp)))
    have HW2 := Lib.hid (HOWN.out.on HX.out)
    obtain ⟨A2, m2, c2, er, rfl, hcel⟩ : ∃ A2 m2 c2, ∃ er : Int, e = .returned (.tuple #[.slice A2 m2 c2, .int .i64 er]) /\ Cel2 w2 w2.heap.size A2 m2 ((regV (Nd.mk qn qpa qpc qps qka qkc qks) (Nd.mk yn ypa ypc yps yka ykc yks)).2.map winV) := by
     cases hr : (regV (Nd.mk qn qpa qpc qps qka qkc qks) (Nd.mk yn ypa ypc yps yka ykc yks)).1
     ·obtain ⟨A, c, h1, _⟩ := hbad hr
      exact ⟨A, 0, c, 10, h1, by rw [regV_bad hr]; exact Cel2.nil _ _ _⟩
     ·obtain ⟨A, m, c, h1, h2, _⟩ := hgd hr
      exact ⟨A, m, c, 0, h1, h2⟩
    obtain ⟨v', w5, r5, hw5⟩ := HW2.out.app (c := c2) hcel (by rw [<- HKW.out, <- HST.out]; exact HLN1.out)
    have HR5 := Lib.hid r5
    have HW5 : Hid (WinR g w v' (qc5_ (Nd.mk qn qpa qpc qps qka qkc qks) kf (k + 1)) w5) := Lib.hid (by rw [HST.out, HKW.out]; exact hw5)
    clear hgd hbad hb hcel r5 hw5
    dsimp only
    refine hK.out _ _ (HS.out _ HW2.out.2.1) (fun hHeld => ?_)
    clear hK K
    refine tk 9 hHeld fun _ => ?_
    refine tk 10 hHeld fun _ => ?_
    refine tk 11 hHeld fun _ => ?_
    refine tk 12 hHeld fun _ => ?_
    refine tk 13 hHeld fun _ => ?_
    refine wpAnyH_done (by kernel_rfl) ?_ _
    clear hHeld
    go_wp2_with (at_builtin; refine Lib.wpList_append_run_sl _ rfl _ _ _ rfl _ _ rfl rfl HR5.out ?_)
    go_roundw
    case rel => exact ⟨k + 1, by omega, by go_num, HW5.out⟩
    case measure => simp [intOf]; omega
   by_cases hk1 : kd = 1
   rotate_left
   ·have q1 : (kd == 1) = false := by rw [beq_eq_false_iff_ne]; exact hk1
    have HW5 : Hid (WinR g w u3 (qc5_ (Nd.mk qn qpa qpc qps qka qkc qks) kf (k + 1)) w1) := Lib.hid (by
     rw [HST.out, kidW, if_neg (by rw [HDB.out]; decide), if_neg hk1, List.append_nil]; exact HOWN.out)
    clear hk1
    go_wp2
    go_roundw
    case rel => exact ⟨k + 1, by omega, by go_num, HW5.out⟩
    case measure => simp [intOf]; omega
   subst hk1
   obtain ⟨RL, hRL⟩ : ∃ RL, (qap_ (Nd.mk qn qpa qpc qps qka qkc qks) (Nd.mk yn ypa ypc yps yka ykc yks)).2.2 = RL := ⟨_, rfl⟩
   have HKW : Hid (kidW (Nd.mk qn qpa qpc qps qka qkc qks) (Nd.mk yn ypa ypc yps yka ykc yks) 1 = RL.map (fun x => (x.2.1, x.2.2))) := Lib.hid (by rw [kidW, if_neg (by rw [HDB.out]; decide), if_pos rfl, hRL])
   have HRL := Lib.hid hRL
   clear hRL
   go_wp2_with fail
   clear c7
   refine wp_region_held_drew (S := fun W => (W.cell? ⟨bi, 1, none⟩ = some (.string qn) /\ W.cell? ⟨bi, 2, none⟩ = some (.slice qpa qps.length qpc) /\ W.cell? ⟨bi, 3, none⟩ = some (.slice qka qks.length qkc)) /\ (W.cell? ⟨bj, 1, none⟩ = some (.string yn) /\ W.cell? ⟨bj, 2, none⟩ = some (.slice ypa yps.length ypc) /\ W.cell? ⟨bj, 3, none⟩ = some (.slice yka yks.length ykc))) (by kernel_rfl) (HS.out _ HB.out.drew) (fun hHeld => ?_)
   refine tk 0 hHeld fun _ => ?_
   refine tk 1 hHeld fun _ => ?_
   refine tk 2 hHeld fun _ => ?_
   refine tk 3 hHeld fun _ => ?_
   refine tk 4 hHeld fun _ => ?_
   refine tk 5 hHeld fun _ => ?_
   refine tk 6 hHeld fun _ => ?_
   refine tk 7 hHeld fun _ => ?_
   refine qab_ 8 (by kernel_rfl) rfl (by rfl) (fun K hK => ?_)
   go_simp
   refine (CGj.out _ HB.out.drew).mono ?_
   rintro e w2 ⟨hgd, hbad, hb⟩
   have HX := Lib.hid ((Below.refl w1.heap.size w1).drew.trans (hb.mono (by simp)))
   have HW2 := Lib.hid (HOWN.out.on HX.out)
   obtain ⟨A2, m2, c2, th, er, rfl, hcel, hm2, hfr⟩ : ∃ A2 m2 c2, ∃ th : Bool, ∃ er : Int, e = .returned (.tuple #[.slice A2 m2 c2, .bool th, .int .i64 er]) /\ Cel3 w2 w2.heap.size A2 m2 (RL.map rngV) /\ m2 <= 9223372036854775807 /\ (0 < m2 -> FreshA w1.heap.size A2) := by
    cases hr : (qap_ (Nd.mk qn qpa qpc qps qka qkc qks) (Nd.mk yn ypa ypc yps yka ykc yks)).2.1
    ·obtain ⟨A, c, h1, _⟩ := hbad hr
     exact ⟨A, 0, c, false, 10, h1, by rw [<- HRL.out, ql7_ hr]; exact Cel3.nil _ _ _, by omega, fun h => absurd h (Nat.lt_irrefl 0)⟩
    ·obtain ⟨A, m, c, h1, h2, h3, h4, h5⟩ := hgd hr
     exact ⟨A, m, c, _, 0, h1, by rw [<- HRL.out]; exact h2, by omega, fun _ => by simpa using h5⟩
   have HC := Lib.hid hcel
   have HLM : Hid (RL.length = m2) := Lib.hid (by have := hcel.1; rwa [List.length_map] at this)
   have HFR : Hid (0 < m2 -> Apart A2 w2 u3 w2) := Lib.hid (fun h0 => ⟨Nat.le_refl _, fun b o e hb2 => ⟨rfl, fun h => by
    have h1 := (HOWN.out.1.lt b h).2
    have h2 := hfr h0 b o e
    omega⟩⟩)
   clear hgd hbad hb hcel hfr
   dsimp only
   refine hK.out _ _ (HS.out _ HW2.out.2.1) (fun hHeld => ?_)
   clear hK K
   refine tk 9 hHeld fun _ => ?_
   refine tk 10 hHeld fun _ => ?_
   refine tk 11 hHeld fun _ => ?_
   refine tk 12 hHeld fun _ => ?_
   refine tk 13 hHeld fun _ => ?_
   refine tk 14 hHeld fun _ => ?_
   refine tk 15 hHeld fun _ => ?_
   refine wpAnyH_done (by kernel_rfl) ?_ _
   clear hHeld
   go_wp2_with fail
   go_loopw [3, 61] (fun v i wr => ∃ m : Nat, m <= m2 /\ i = .int .i64 m /\ WinR g w v (qc5_ (Nd.mk qn qpa qpc qps qka qkc qks) kf k ++ (RL.take m).map (fun x => (x.2.1, x.2.2))) wr /\ (0 < m2 -> Apart A2 w2 v wr)) (fun _ i _ => m2 - (intOf i).toNat)
   case atStart => exact ⟨0, Nat.zero_le _, rfl, by simpa using HW2.out, HFR.out⟩
   case round =>
    obtain ⟨m, hm, rfl, hwin, hap⟩ := hrel
    have HWIN := Lib.hid hwin
    by_cases hlm : m < m2
    ·have hap := hap (by omega)
     have HAP := Lib.hid hap
     have hkl : m < RL.length := by rw [HLM.out]; exact hlm
     obtain ⟨rb, ro, rfl, hrb, hcc⟩ := HC.out.2 (by omega)
     have hkm : m < (RL.map rngV).length := by rw [List.length_map]; exact hkl
     obtain ⟨d0, d1, d2⟩ := hcc m hkm
     simp only [List.getElem_map] at d0 d1 d2
     have hblk := (hap.2 rb ro rfl hrb).1
     have HTK : Hid (∀ x, RL[m] = x -> (RL.take (m + 1)).map (fun x => (x.2.1, x.2.2)) = (RL.take m).map (fun x => (x.2.1, x.2.2)) ++ [(x.2.1, x.2.2)]) := Lib.hid (fun x hx => by
      rw [List.take_add_one, List.getElem?_eq_getElem hkl, hx]; simp)
     have HLX : Hid ((qc5_ (Nd.mk qn qpa qpc qps qka qkc qks) kf k ++ (RL.take (m + 1)).map (fun x => (x.2.1, x.2.2))).length <= 268435456) := Lib.hid (by
      have h1 := HLN1.out
      rw [HST.out, HKW.out] at h1
      rw [List.length_append, List.length_map] at h1 ⊢
      have : (RL.take (m + 1)).length <= RL.length := by rw [List.length_take]; omega
      omega)
     obtain ⟨x, hx⟩ : ∃ x, RL[m] = x := ⟨_, rfl⟩
     rw [hx] at d0 d1 d2
     have HTX := Lib.hid (HTK.out x hx)
     clear hx hcc hkm hkl HTK hap
     obtain ⟨x1, x2, x3⟩ := x
     replace d0 : wr.cell? ⟨rb, ro + m * 3, none⟩ = some (.int .u64 x1) := (World.cell?_of_block (a := ⟨rb, ro + m * 3, none⟩) hblk).trans d0
     replace d1 : wr.cell? ⟨rb, ro + m * 3 + 1, none⟩ = some (.int .u64 x2) := (World.cell?_of_block (a := ⟨rb, ro + m * 3 + 1, none⟩) hblk).trans d1
     replace d2 : wr.cell? ⟨rb, ro + m * 3 + 2, none⟩ = some (.int .u64 x3) := (World.cell?_of_block (a := ⟨rb, ro + m * 3 + 2, none⟩) hblk).trans d2
     simp only at HTX
     have CV1 := Lib.hid (fun W => CA.out x1 x2 x3 W)
     obtain ⟨gv, hgv⟩ : ∃ gv, wr.heap.size = gv := ⟨_, rfl⟩
     obtain ⟨WA, hWA⟩ : ∃ WA, wr.alloc (.cells #[.int .u64 x1, .int .u64 x2, .int .u64 x3] 171) = WA := ⟨_, rfl⟩
     have hn := heap_alloc_new wr (.cells #[.int .u64 x1, .int .u64 x2, .int .u64 x3] 171)
     rw [hWA, hgv] at hn
     have HBA : Hid (Below wr.heap.size wr WA) := Lib.hid (by rw [<- hWA]; exact (Below.refl _ _).alloc (Nat.le_refl _) _)
     have n0 : WA.cell? ⟨gv, 0, none⟩ = some (.int .u64 x1) := by rw [Lib.cell_of_heap hn]; rfl
     have n1 : WA.cell? ⟨gv, 1, none⟩ = some (.int .u64 x2) := by rw [Lib.cell_of_heap hn]; rfl
     have n2 : WA.cell? ⟨gv, 2, none⟩ = some (.int .u64 x3) := by rw [Lib.cell_of_heap hn]; rfl
     clear hn hblk
     go_wp2_with fail
     refine (CV1.out _).mono ?_
     rintro e w4 ⟨rfl, hb⟩
     have HB4 := Lib.hid (HBA.out.trans (hb.mono HBA.out.size))
     have HW4 := Lib.hid (HWIN.out.on HB4.out)
     obtain ⟨v', w5, r5, hw5, hs5, ho5⟩ := HW4.out.one (x2, x3) (by
      have h1 := HLX.out
      rw [HTX.out, <- List.append_assoc] at h1
      exact h1)
     have HR5 := Lib.hid r5
     have HW5 : Hid (WinR g w v' (qc5_ (Nd.mk qn qpa qpc qps qka qkc qks) kf k ++ (RL.take (m + 1)).map (fun x => (x.2.1, x.2.2))) w5) := Lib.hid (by rw [HTX.out, <- List.append_assoc]; exact hw5)
     have HAP5 : Hid (Apart (some ⟨rb, ro, none⟩) w2 v' w5) := Lib.hid ⟨Nat.le_trans HAP.out.1 (Nat.le_trans HB4.out.size hs5), fun b o e hb2 => by
      obtain ⟨h1, h2⟩ := HAP.out.2 b o e hb2
      have h3 : b < wr.heap.size := Nat.lt_of_lt_of_le hb2 HAP.out.1
      obtain ⟨h4, h5⟩ := ho5 b (Nat.lt_of_lt_of_le h3 HB4.out.size) h2
      exact ⟨h4.trans ((HB4.out.block b h3).trans h1), h5⟩⟩
     clear hb n0 n1 n2 d0 d1 d2 r5 hw5 hs5 ho5 hgv hWA
     go_wp2_with (at_builtin; refine Lib.wpList_append_run_sl _ rfl _ _ _ rfl _ _ rfl rfl HR5.out ?_)
     go_roundw
     case rel => exact ⟨m + 1, by omega, by go_num, HW5.out, fun _ => HAP5.out⟩
     case measure => simp [intOf]; omega
    ·obtain rfl : m = m2 := by omega
     have HW5 : Hid (WinR g w u3 (qc5_ (Nd.mk qn qpa qpc qps qka qkc qks) kf (k + 1)) wr) := Lib.hid (by
      have e : RL.take m = RL := List.take_of_length_le (by rw [HLM.out]; exact Nat.le_refl _)
      rw [e] at hwin
      rw [HST.out, HKW.out]; exact hwin)
     clear hwin hap
     go_wp2
     go_roundw
     case rel => exact ⟨k + 1, by omega, by go_num, HW5.out⟩
     case measure => simp [intOf]; omega
  ·obtain rfl : k = n := by omega
   obtain ⟨A', c', rfl, _⟩ := qa0_ hown.1
   clear hown hb
   go_wp2
   go_ret
   exact ⟨A', _, c', rfl, HOWN.out.1, HB.out⟩
def lessB (d : SpD) : Bool := decide (d.kd = 7) && decide (d.m = 0)
theorem qj7_ (t : Tr) (bc : Nat) (xs : List SpR) (ds : List SpD) (w : World) (hk : Chk w t bc xs ds) :
  Calls Tryz.prog 53 #[.pointer (some ⟨bc, 0, none⟩)] w fun e w' => e = .returned (.int .i64 ((ds.countP lessB : Nat) : Int)) /\ w' = w := by
 have HK := Lib.hid hk
 obtain ⟨⟨A, c, hbx, hrow⟩, hsp⟩ := hk
 have hlen := hsp.len
 obtain ⟨pA, pc, ep, hcel, hp1, hp2, _⟩ := qai_ hrow
 have hep : A = pA /\ c = pc := by simpa using ep
 obtain ⟨rfl, rfl⟩ := hep
 obtain ⟨q0, q1, q2, q3, q4, q5⟩ := qbl_ hbx
 have HC := Lib.hid hcel
 have HL := Lib.hid hlen
 obtain ⟨n, hn⟩ : ∃ n, xs.length = n := ⟨_, rfl⟩
 have HN := Lib.hid hn
 rw [hn] at q5 hp1 HC
 clear hbx hrow hcel hsp hlen ep q0 q1 q2 q3 q4 hn
 go_enter Tryz.func53, Tryz.ntmps53
 go_wp2_with fail
 go_loopw [3, 11] (fun m i wr => ∃ k : Nat, k <= n /\ i = .int .i64 k /\ m = .int .i64 ((ds.take k).countP lessB : Nat) /\ wr = w) (fun _ i _ => n - (intOf i).toNat)
 case atStart => exact ⟨0, Nat.zero_le _, rfl, rfl, rfl⟩
 case round =>
  obtain ⟨k, hk, rfl, rfl, rfl⟩ := hrel
  by_cases hlt : k < n
  ·obtain ⟨b, o, rfl, _, hcc⟩ := HC.out.2 (by omega)
   have hkx : k < xs.length := by rw [HN.out]; exact hlt
   have hkd : k < ds.length := by rw [HL.out]; exact hkx
   have d0 := hcc k hlt
   rw [List.getElem?_map, List.getElem?_eq_getElem hkx] at d0
   replace d0 : wr.cell? ⟨b, o + k, none⟩ = some (.pointer (some ⟨xs[k].b, 0, none⟩)) := d0
   obtain ⟨c7, c8⟩ := (qaq_ (HK.out.sp.box k hkx hkd)).2.2.2.2.2.2.2
   have HCT : Hid ((ds.take (k + 1)).countP lessB = (ds.take k).countP lessB + if lessB ds[k] then 1 else 0) := Lib.hid (by
    rw [List.take_add_one, List.getElem?_eq_getElem hkd, List.countP_append]
    simp [List.countP_cons])
   have hle : (ds.take k).countP lessB <= k := Nat.le_trans List.countP_le_length (by rw [List.length_take]; omega)
   have HLB : Hid (lessB ds[k] = (decide (ds[k].kd = 7) && decide (ds[k].m = 0))) := Lib.hid rfl
   obtain ⟨kd, hkd2⟩ : ∃ kd, ds[k].kd = kd := ⟨_, rfl⟩
   obtain ⟨lA, hlA⟩ : ∃ lA, ds[k].A = lA := ⟨_, rfl⟩
   obtain ⟨lm, hlm⟩ : ∃ lm, ds[k].m = lm := ⟨_, rfl⟩
   obtain ⟨lc, hlc⟩ : ∃ lc, ds[k].c = lc := ⟨_, rfl⟩
   obtain ⟨bk, hbk⟩ : ∃ bk, xs[k].b = bk := ⟨_, rfl⟩
   rw [hkd2] at c7 HLB
   rw [hlA, hlm, hlc] at c8
   rw [hlm] at HLB
   rw [hbk] at c7 c8 d0
   generalize lessB ds[k] = LB at *
   generalize (ds.take k).countP lessB = m0 at *
   clear hcc hkx hkd hkd2 hlA hlm hlc hbk
   by_cases h7 : kd = 7
   ·have q7 : (kd == 7) = true := by rw [beq_iff_eq]; exact h7
    by_cases hm : lm = 0
    ·have q8 : ((lm : Int) == 0) = true := by rw [beq_iff_eq]; omega
     have HR : Hid ((ds.take (k + 1)).countP lessB = m0 + 1) := Lib.hid (by rw [HCT.out, HLB.out, decide_eq_true h7, decide_eq_true hm]; rfl)
     clear h7 hm
     go_wp2
     go_roundw
     case rel => exact ⟨k + 1, by omega, by go_num, by rw [HR.out]; go_num, by trivial⟩
     case measure => simp [intOf]; omega
    ·have q8 : ((lm : Int) == 0) = false := by rw [beq_eq_false_iff_ne]; omega
     have HR : Hid ((ds.take (k + 1)).countP lessB = m0) := Lib.hid (by rw [HCT.out, HLB.out, decide_eq_false hm]; simp)
     clear h7 hm
     go_wp2
     go_roundw
     case rel => exact ⟨k + 1, by omega, by go_num, by rw [HR.out], by trivial⟩
     case measure => simp [intOf]; omega
   ·have q7 : (kd == 7) = false := by rw [beq_eq_false_iff_ne]; exact h7
    have HR : Hid ((ds.take (k + 1)).countP lessB = m0) := Lib.hid (by rw [HCT.out, HLB.out, decide_eq_false h7]; simp)
    clear h7
    go_wp2
    go_roundw
    case rel => exact ⟨k + 1, by omega, by go_num, by rw [HR.out], by trivial⟩
    case measure => simp [intOf]; omega
  ·obtain rfl : k = n := by omega
   have e : ds.take k = ds := List.take_of_length_le (by rw [HL.out, HN.out]; exact Nat.le_refl _)
   rw [e]
   go_wp2
   go_ret
   exact ⟨rfl, rfl⟩
end Go.Proofs.YtcfinbapfhhpgaaGreatDoor
