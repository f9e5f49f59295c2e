/-
  Iter, part 11.
-/
import Derived.Test.YtcfinbapfhhpgaaGreatDoorBase9
import Derived.Test.YtcfinbapfhhpgaaGreatDoorIter4
import Derived.Test.YtcfinbapfhhpgaaGreatDoorBase8
namespace Go.Proofs.YtcfinbapfhhpgaaGreatDoor
open Go.RowKit
set_option linter.unusedVariables false
set_option linter.unusedSimpArgs false
set_option maxRecDepth 20000
set_option maxHeartbeats 16000000
section
attribute [local go_sem] Oper.semAt_some
theorem qhn_ {w : World} {B n : Nat} {A : Option Addr} {zs : List Int} (hs : Shows w B A n zs) : ∀ x ∈ qao_ zs, 0 <= x /\ x <= 4294967295 := by
 intro x hx
 unfold qao_ at hx
 split at hx
 ·obtain ⟨k, _, rfl⟩ := List.mem_map.1 hx
  exact qcy_ hs _
 ·cases hx
def FreshA (g : Nat) (A : Option Addr) : Prop := ∀ b o, A = some ⟨b, o, none⟩ -> g <= b
theorem qfm_ : (Tryz.prog.info? 173).map (fun i => (i.zero, i.size, i.bytes)) = some (some (.agg #[.int .u64 0, .int .u64 0]), 2, 16) := by kernel_rfl
theorem qi1_ {F : Fence} {n : Nat} {P : Program} {w w' : World} {o : Oper} {a : Act} {K : Act -> World -> Prop} {Q : Exit -> Act -> World -> Prop} {t u : TypeId} (s x : Operand) (ho : o.op = .call { callee := .builtin .append, args := #[s, x], argTypes := #[t, u] })
  (y z : Value) (hs : a.eval s = y) (hx : a.eval x = z) {v : Value} (hr : (Builtin.append_ #[t, u] o.type #[y, z]).run P w = .ok v w') (hK : K (a.put o.dst v) w') : o.wpIn F n P a w K Q := by
 unfold Oper.wpIn
 refine ⟨?_, ?_⟩
 ·simp [Oper.about, ho, resolve, Target.leads, Sem.run_pure]
 ·rw [Oper.semAt_plain F _ _ (by rw [ho]; intro c hc'; cases hc')]
  simp only [execOp, ho, resolve, invoke, builtin, Sem.run_bind, Sem.run_pure, Result.andThen_ok, List.map_toArray, List.map_cons, List.map_nil, hs, hx, hr]
  exact hK
def WinI (n : Nat) (A : Option Addr) (L c k : Nat) (M : Nat -> Prop) (v : Value) (xs : List (Int × Int)) (W : World) : Prop :=
 W.heap[n + 1]? = some (.cells #[v] 124 (0, 0)) /\ (W.heap[n + 2]? = some (.cells #[.slice A L c] 87 (0, 0)) /\ W.heap[n + 3]? = some (.cells #[.int .i64 k] 3 (0, 0))) /\ W.ownsRow n 173 2 v xs.length (flat2 (xs.map winV)) /\ ∀ j, v.ownBlock = some j -> ¬ M j /\ (j = n \/ n + 4 <= j)
theorem WinI.turn {n L c k : Nat} {A : Option Addr} {M M' : Nat -> Prop} {v : Value} {xs : List (Int × Int)} {W W' : World} (h : WinI n A L c k M v xs W) (hu : Ups (n + 4) M W) (ht : Turn M M' W W') : WinI n A L c k M' v xs W' := by
 obtain ⟨h1, ⟨h2, h3⟩, h4, h5⟩ := h
 have hlt : ∀ {j : Nat} {o : Obj}, W.heap[j]? = some o -> j < n + 4 -> W'.heap[j]? = some o := fun {j o} h hj => (ht.same _ (Array.getElem?_eq_some_iff.1 h).1 (fun hm => by have := (hu _ hm).1; omega)).trans h
 refine ⟨hlt h1 (by omega), ⟨hlt h2 (by omega), hlt h3 (by omega)⟩, ⟨h4.1, ?_⟩, fun j hj => ⟨fun hm => (ht.fresh j hm).elim (h5 j hj).1 (fun h => by have := (h4.lt j hj).2; omega), (h5 j hj).2⟩⟩
 rcases h4.2 with e | ⟨g, cap, cur, rfl, hb, hg, r⟩
 ·exact .inl e
 ·exact .inr ⟨g, cap, cur, rfl, hb, (ht.same _ (Array.getElem?_eq_some_iff.1 hg).1 (h5 g rfl).1).trans hg, r⟩
theorem win_step {n L c k : Nat} {A : Option Addr} {M : Nat -> Prop} {v : Value} {xs : List (Int × Int)} {W W3 : World} (y : Int × Int) (h : WinI n A L c k M v xs W) (hu : Ups (n + 4) M W) (hsz : n + 4 <= W.heap.size) (hb : Below W.heap.size W W3) (hlen : xs.length <= 536870912) :
  ∃ A' c' w5, (Builtin.append_ #[124, 124] 124 #[v, .slice (some ⟨W3.heap.size, 0, none⟩) 1 1]).run Tryz.prog (W3.alloc (.cells #[.int .u64 y.1, .int .u64 y.2] 173)) = .ok (.slice A' (xs.length + 1) c') w5 /\ w5.heap[n + 1]? = some (.cells #[v] 124 (0, 0)) /\
   WinI n A L c k M (.slice A' (xs.length + 1) c') (xs ++ [y]) (w5.setCell ⟨n + 1, 0, none⟩ (.slice A' (xs.length + 1) c')) /\ Kp n M W3 (w5.setCell ⟨n + 1, 0, none⟩ (.slice A' (xs.length + 1) c')) := by
 obtain ⟨h1, ⟨h2, h3⟩, h4, h5⟩ := h
 have hs := hb.size
 have h4' := qez_ h4 hb
 obtain ⟨i0, hi, hz, hs1, hby⟩ := qaw_ qfm_
 obtain ⟨A', c', w5, r5, o5, b5, g5, e5⟩ := qd6_ Tryz.underlying124 hi hz hs1 hby rfl h4' (winV y) rfl rfl (by omega) (by omega) (by omega) 124
 have hlt := h4.lt
 have hlt5 := o5.lt
 have hs5 := g5.size
 have hown : ∀ j, (Value.slice A' (xs.length + 1) c').ownBlock = some j -> (v.ownBlock = some j) \/ j = W3.heap.size + 1 := fun j hj => by
  rcases e5 with e | e
  ·rw [e] at hj; exact .inl hj
  ·rw [e] at hj; exact .inr (Option.some.inj hj).symm
 have hblk : ∀ j, j < W3.heap.size -> j ≠ n + 1 -> v.ownBlock ≠ some j -> (w5.setCell ⟨n + 1, 0, none⟩ (.slice A' (xs.length + 1) c')).heap[j]? = W3.heap[j]? := fun j hj hne ho =>
  (Below.heap_setCell _ _ _ _ (by show j ≠ n + 1; exact hne)).trans (g5.block j hj (fun e => ho e.symm))
 have ho1 : ∀ j, n < j -> j < n + 4 -> v.ownBlock ≠ some j := fun j hj1 hj2 e => by have := (h5 j e).2; omega
 have hl1 : w5.heap[n + 1]? = some (.cells #[v] 124 (0, 0)) := (g5.block (n + 1) (by omega) (fun e => ho1 _ (by omega) (by omega) e.symm)).trans ((hb.block _ (by omega)).trans h1)
 have hm3 : Ups (n + 4) M W3 := hu.more hs
 refine ⟨A', c', w5, r5, hl1, ⟨by simp [World.setCell, Array.getElem?_modify, hl1], ⟨(hblk _ (by omega) (by omega) (ho1 _ (by omega) (by omega))).trans ((hb.block _ (by omega)).trans h2), (hblk _ (by omega) (by omega) (ho1 _ (by omega) (by omega))).trans ((hb.block _ (by omega)).trans h3)⟩, ?_, fun j hj => ?_⟩, ?_⟩
 ·rw [List.length_append, List.length_singleton, List.map_append, List.map_cons, List.map_nil]
  refine o5.kept (row := some (n + 1)) ⟨rfl, rfl, rfl, by simp [World.setCell], fun j hj hne => Below.heap_setCell _ _ _ _ (fun e => hne (by rw [show j = n + 1 from e]))⟩ ?_
  rcases h : (Value.slice A' (xs.length + 1) c').ownBlock with _ | j
  ·exact .inl rfl
  ·refine .inr (fun e => ?_)
   have e' := Option.some.inj e
   rcases hown j h with h' | h'
   ·exact ho1 j (by omega) (by omega) h'
   ·omega
 ·rcases hown j hj with h | h
  ·exact h5 j h
  ·exact ⟨fun hm => by have := (hm3 j hm).2; omega, .inr (by omega)⟩
 ·exact (Kp.grown g5 hm3 (by omega) (fun j e => ⟨(hlt j e).1, (h5 j e).1⟩)).trans (Kp.setCell w5 (by omega) (fun hm => by have := (hu (n + 1) hm).1; omega) 0 _)
theorem make_wins (w : World) (m : Nat) (hm : m <= 1073741824) (q : Int) (hq : q = (m : Int)) :
  ∃ w', (Instr.makeSlice 124 (.int .i64 0) (.int .i64 q)).run Tryz.prog w = .ok (.slice (some ⟨w.heap.size, 0, none⟩) 0 m) w' /\ w'.ownsRow w.heap.size 173 2 (.slice (some ⟨w.heap.size, 0, none⟩) 0 m) 0 [] /\ Below w.heap.size w w' /\ w'.heap.size = w.heap.size + 1 := by
 subst hq
 obtain ⟨i0, hi0, hz0, hz1, hz2⟩ := qaw_ qfm_
 obtain ⟨w', h1, h2, h3⟩ := run_make_own (P := Tryz.prog) w w.heap.size 124 173 i0 _ 2 Tryz.underlying124 hi0 hz0 hz1 .i64 .i64 m (by rw [hz2]; omega) (by unfold maxLen; omega) (Nat.le_refl _)
 have hr := run_make (P := Tryz.prog) w 124 173 i0 _ Tryz.underlying124 hi0 hz0 .i64 .i64 0 (m : Int) (Int.le_refl _) (by omega) (by rw [hz2]; omega) (by omega)
 have he := h1.symm.trans hr
 injection he with e1 e2
 exact ⟨w', h1, h2, (Below.refl _ _).grown h3 (Nat.le_refl _) (fun q hq => by cases hq), by rw [e2]; simp⟩
def RegOwn : Prop := ∀ (parent n : Nd) (w : World), parent.In w w.heap.size -> n.In w w.heap.size -> heftN parent <= 1073741824 -> heftN n <= 1073741824 -> Calls Tryz.prog 91 #[parent.val, n.val] w fun e w' =>
 ((regV parent n).1 = true -> ∃ A m c, e = .returned (.tuple #[.slice A m c, .int .i64 0]) /\ Cel2 w' w'.heap.size A m ((regV parent n).2.map winV) /\ m <= c /\ c <= 9223372036854775807 /\ w'.ownsRow w.heap.size 173 2 (.slice A m c) m (flat2 ((regV parent n).2.map winV))) /\ ((regV parent n).1 = false -> ∃ A c, e = .returned (.tuple #[.slice A 0 c, .int .i64 10]) /\ c <= 9223372036854775807) /\ Below w.heap.size w w'
theorem reg_own : RegOwn := by
 intro parent n w hpn hin hz1 hz2
 have HCC := Lib.hid (fun W (hW : Below w.heap.size w W) => qkk_ parent W (Nd.In.more hW.size (hpn.under hW)))
 have hva := qdw_ hpn qav_ 2 (by omega)
 have hvs := qdw_ hpn qbe_ 1 (by omega)
 have HINW := Lib.hid (fun W (hW : Below w.heap.size w W) => Nd.In.more hW.size (hin.under hW))
 obtain ⟨O, hO⟩ : ∃ O, regV parent n = O := ⟨_, rfl⟩
 have HB := Lib.hid (((Below.refl w.heap.size w).alloc (Nat.le_refl _) (.cells #[Value.string parent.name, parent.pv, parent.kv] 27)).alloc (by simp) (.cells #[Value.string n.name, n.pv, n.kv] 27))
 have BX : Hid (∀ W, Below (w.heap.size + 2) ((w.alloc (.cells #[Value.string parent.name, parent.pv, parent.kv] 27)).alloc (.cells #[Value.string n.name, n.pv, n.kv] 27)) W -> W.cell? ⟨w.heap.size, 0, none⟩ = some (.string parent.name) /\ W.cell? ⟨w.heap.size, 1, none⟩ = some parent.pv /\ W.cell? ⟨w.heap.size, 2, none⟩ = some parent.kv) := Lib.hid (fun W h => by
  have e1 : (w.alloc (.cells #[Value.string parent.name, parent.pv, parent.kv] 27)).heap.size = w.heap.size + 1 := by simp
  have y : ∀ k, W.cell? ⟨w.heap.size, k, none⟩ = (w.alloc (.cells #[Value.string parent.name, parent.pv, parent.kv] 27)).cell? ⟨w.heap.size, k, none⟩ := fun k => (h.cell (p := ⟨w.heap.size, k, none⟩) (by show w.heap.size < _; omega)).trans (World.cell?_alloc_lt _ _ _ (by rw [e1]; exact Nat.lt_succ_self _))
  exact ⟨(y 0).trans (World.cell?_alloc_new _ _ _ _), (y 1).trans (World.cell?_alloc_new _ _ _ _), (y 2).trans (World.cell?_alloc_new _ _ _ _)⟩)
 rcases qjs_ (n.props.map PV.name) qf1_ with hidx | ⟨kx, hk1, hk2, _⟩
 ·have CF := Lib.hid (fun W (hW : Below w.heap.size w W) => qkc_ n qf1_ W (HINW.out W hW) (by omega))
  have HO : Hid (O = (true, [])) := Lib.hid (by rw [<- hO, regV, qdo_ hidx])
  rw [hO]
  clear hidx hO HCC HINW hpn hin hz1 hz2 BX
  obtain ⟨nm, pa, pc, ps, ka, kc, ks⟩ := parent
  obtain ⟨nm2, pa2, pc2, ps2, ka2, kc2, ks2⟩ := n
  simp only [Nd.val, Nd.pv, Nd.kv, Nd.name, Nd.pa, Nd.pc, Nd.props, Nd.ka, Nd.kc, Nd.kids, qf1_] at CF HB ⊢
  refine (callsIn_wide (n := 0)).1 ?_
  refine callsIn_of_wp_marks Tryz.func91 rfl trivial ?_ rfl
  simp only [Tryz.ntmps91, List.size_toArray, List.length_cons, List.length_nil, Nat.reduceAdd, Nat.reduceSub, Array.replicate_succ, Array.replicate_zero, List.push_toArray, List.append_toArray, List.nil_append, List.cons_append]
  gi_wp2_with fail
  refine ⟨trivial, rfl, (callsIn_wide.2 (CF.out _ HB.out)).mono ?_⟩
  rintro e w1 ⟨⟨A1, c1, rfl, _⟩, hb⟩
  have HB1 := Lib.hid (HB.out.trans (hb.mono HB.out.size))
  clear hb
  gi_wp2
  refine ⟨.tuple #[.slice none 0 0, .int .i64 0], by simp [results, Tryz.results91, go_sem], ?_⟩
  exact ⟨fun _ => ⟨none, 0, 0, rfl, by rw [HO.out]; exact Cel2.nil _ _ _, Nat.le_refl _, by omega, by rw [HO.out]; exact World.ownsRow_nil _ _ _ _⟩, fun h => by (rw [HO.out] at h; cases h), HB1.out⟩
 ·rw [List.length_map] at hk1
  obtain ⟨zs, hzs⟩ : ∃ zs, n.props[kx].zs = zs := ⟨_, rfl⟩
  have CF := Lib.hid (fun W (hW : Below w.heap.size w W) => qmq_ n qf1_ W (HINW.out W hW) kx hk1 hk2 zs hzs)
  have hzl : zs.length <= 1073741824 := by rw [<- hzs]; exact Nat.le_trans (qc0_ hk1) hz2
  have HV : Hid (O = if cntV parent qav_ 2 <= 0 \/ cntV parent qbe_ 1 < 0 \/ zs.length % (4 * (cntV parent qav_ 2).toNat + 4 * (cntV parent qbe_ 1).toNat) ≠ 0 then (false, []) else (true, wins zs (4 * (cntV parent qav_ 2).toNat) (4 * (cntV parent qbe_ 1).toNat) (zs.length / (4 * (cntV parent qav_ 2).toNat + 4 * (cntV parent qbe_ 1).toNat)))) := Lib.hid (by rw [<- hO, <- hzs, regV, qg7_ hk1 hk2])
  rw [hO]
  have HRG := Lib.hid (fun (w' : World) (B : Nat) (A : Option Addr) (h : Shows w' B A zs.length zs) => qhn_ h)
  unfold qe3_ at HCC
  generalize cntV parent qav_ 2 = va at *
  generalize cntV parent qbe_ 1 = vs at *
  have HVA := Lib.hid hva
  have HVS := Lib.hid hvs
  have HZL := Lib.hid hzl
  clear hO hk2 hzs hpn hin hz1 hz2 HINW hva hvs hzl
  clear hk1
  obtain ⟨nm, pa, pc, ps, ka, kc, ks⟩ := parent
  obtain ⟨nm2, pa2, pc2, ps2, ka2, kc2, ks2⟩ := n
  simp only [Nd.val, Nd.pv, Nd.kv, Nd.name, Nd.pa, Nd.pc, Nd.props, Nd.ka, Nd.kc, Nd.kids, qf1_] at CF HB BX HCC ⊢
  obtain ⟨N, hN⟩ : ∃ N, zs.length = N := ⟨_, rfl⟩
  have HNN := Lib.hid hN
  rw [hN] at CF HV HZL
  clear hN
  refine (callsIn_wide (n := 0)).1 ?_
  refine callsIn_of_wp_marks Tryz.func91 rfl trivial ?_ rfl
  simp only [Tryz.ntmps91, List.size_toArray, List.length_cons, List.length_nil, Nat.reduceAdd, Nat.reduceSub, Array.replicate_succ, Array.replicate_zero, List.push_toArray, List.append_toArray, List.nil_append, List.cons_append]
  gi_wp2_with fail
  refine ⟨trivial, rfl, (callsIn_wide.2 (CF.out _ HB.out)).mono ?_⟩
  rintro e w1 ⟨⟨A1, c1, rfl, hsh, hc1, hc2⟩, hb⟩
  have HSH := Lib.hid hsh
  have HC12 := Lib.hid (And.intro hc1 hc2)
  have HB1 := Lib.hid (HB.out.trans (hb.mono HB.out.size))
  obtain ⟨x0, x1, x2⟩ := BX.out _ (hb.mono (by simp))
  clear hb hsh hc1 hc2 CF BX
  gi_wp2_with fail
  refine ⟨trivial, rfl, (callsIn_wide.2 (HCC.out _ HB1.out)).mono ?_⟩
  rintro e w2 ⟨ho1, ho2, hb⟩
  have HB2 := Lib.hid (HB1.out.trans (hb.mono HB1.out.size))
  have HSH2 := Lib.hid (HSH.out.below hb)
  have HB12 := Lib.hid hb
  clear hb x0 x1 x2 HCC
  by_cases hok : 0 <= va /\ 0 <= vs
  ·obtain ⟨a, rfl⟩ : ∃ a : Nat, va = (a : Int) := ⟨va.toNat, by omega⟩
   obtain ⟨s, rfl⟩ : ∃ s : Nat, vs = (s : Int) := ⟨vs.toNat, by omega⟩
   obtain rfl := ho1 (by simp)
   have ha2 : a <= 2 := by have := HVA.out; omega
   have hs2 : s <= 2 := by have := HVS.out; omega
   simp only [Int.toNat_natCast] at HV
   clear ho1 ho2 hok HVA HVS
   have hb3 : Below w2.heap.size w2 (w2.alloc (.cells #[.int .i64 a] 3)) := (Below.refl _ _).alloc (Nat.le_refl _) _
   have CC := Lib.hid (qdi_ A1 N c1 zs (w2.alloc (.cells #[.int .i64 a] 3)) ((HSH2.out.below (hb3.mono HB12.out.size)).more (Nat.le_trans HB12.out.size hb3.size)) (by have := HZL.out; omega) HC12.out.1 HC12.out.2)
   have HB3 := Lib.hid (HB2.out.trans (hb3.mono HB2.out.size))
   have HAB : Hid ((w2.alloc (.cells #[.int .i64 a] 3)).heap[w2.heap.size]? = some (.cells #[.int .i64 a] 3 (0, 0))) := Lib.hid (heap_alloc_new _ _)
   have HS3 : Hid ((w2.alloc (.cells #[.int .i64 a] 3)).heap.size = w2.heap.size + 1) := Lib.hid (by simp)
   have HRG2 := Lib.hid (HRG.out _ _ _ (by rw [HNN.out]; exact HSH2.out))
   clear hb3 HRG HSH HSH2
   by_cases h4 : N % 4 = 0
   rotate_left
   ·have hE : qbp_ zs = 4 := by rw [qbp_, if_neg (by rw [HNN.out]; exact h4)]
    have hUL : u32s (qao_ zs) = [] := by rw [qao_, if_neg (by rw [HNN.out]; exact h4)] <;> rfl
    have HO : Hid (O = (false, [])) := Lib.hid (by
     rw [HV.out, if_pos]
     refine .inr (.inr ?_)
     intro h
     have h1 : 4 ∣ N := Nat.dvd_trans ⟨a + s, by omega⟩ (Nat.dvd_of_mod_eq_zero h)
     omega)
    have CD := CC.out
    unfold qe1_ at CD
    rw [hE, hUL] at CD
    have HCD : Hid (Calls Tryz.prog 103 #[.slice A1 N c1] (w2.alloc (.cells #[.int .i64 a] 3)) fun e w' => (∃ A c, e = .returned (.tuple #[.slice A 0 c, .int .i64 4]) /\ Cel w' w'.heap.size A 0 [] /\ 0 <= c /\ c <= 9223372036854775807) /\ Below (w2.alloc (.cells #[.int .i64 a] 3)).heap.size (w2.alloc (.cells #[.int .i64 a] 3)) w') := Lib.hid CD
    clear CD CC hE hUL h4
    gi_wp2_with fail
    refine ⟨trivial, rfl, (callsIn_wide.2 HCD.out).mono ?_⟩
    rintro e w3 ⟨⟨A3, c3, rfl, _, _, _⟩, hb⟩
    have HB4 := Lib.hid (HB3.out.trans (hb.mono HB3.out.size))
    clear hb HCD
    gi_wp2
    refine ⟨.tuple #[.slice none 0 0, .int .i64 10], by simp [results, Tryz.results91, go_sem], ?_⟩
    exact ⟨fun h => by (rw [HO.out] at h; cases h), fun _ => ⟨none, 0, rfl, by omega⟩, HB4.out⟩
   obtain ⟨M, hM⟩ : ∃ M, N / 4 = M := ⟨_, rfl⟩
   have hNM : N = 4 * M := by omega
   have hE : qbp_ zs = 0 := by rw [qbp_, if_pos (by rw [HNN.out]; exact h4)]
   have hUL := (qeg_ (zs := zs) (m := M) (by rw [HNN.out]; exact h4) (by rw [HNN.out]; exact hM)).1
   have CD := CC.out
   unfold qe1_ at CD
   rw [hE, hUL] at CD
   have HCD := Lib.hid CD
   have HNM := Lib.hid hNM
   have HUL := Lib.hid hUL
   have HMB : Hid (M <= 268435456) := Lib.hid (by have := HZL.out; omega)
   clear CD CC hE h4 hM hNM hUL
   gi_wp2_with fail
   refine ⟨trivial, rfl, (callsIn_wide.2 HCD.out).mono ?_⟩
   rintro e w3 ⟨⟨A3, c3, rfl, hcel, hl1, hl2⟩, hb⟩
   have HB4 := Lib.hid (HB3.out.trans (hb.mono HB3.out.size))
   have HAB4 : Hid (w3.heap[w2.heap.size]? = some (.cells #[.int .i64 a] 3 (0, 0))) := Lib.hid ((hb.block _ (by rw [HS3.out]; omega)).trans HAB.out)
   have HCEL := Lib.hid hcel
   have b0 : w3.cell? ⟨w2.heap.size, 0, none⟩ = some (.int .i64 a) := by rw [Lib.cell_of_heap HAB4.out]; rfl
   clear hb hcel HCD HAB
   by_cases ha0 : a = 0
   ·subst ha0
    have HO : Hid (O = (false, [])) := Lib.hid (by rw [HV.out, if_pos (.inl (by omega))])
    gi_wp2
    refine ⟨.tuple #[.slice none 0 0, .int .i64 10], by simp [results, Tryz.results91, go_sem], ?_⟩
    exact ⟨fun h => by (rw [HO.out] at h; cases h), fun _ => ⟨none, 0, rfl, by omega⟩, HB4.out⟩
   have k2 : ((a : Int) == 0) = false := by rw [beq_eq_false_iff_ne]; omega
   obtain ⟨K, hK⟩ : ∃ K, a + s = K := ⟨_, rfl⟩
   have e1 : IntKind.i64.wrap ((a : Int) + (s : Int)) = (K : Int) := by rw [IntWalk.i64_in _ (by omega)]; omega
   have hst : 1 <= K := by omega
   have HK := Lib.hid hK
   by_cases hrem : M % K = 0
   rotate_left
   ·have HO : Hid (O = (false, [])) := Lib.hid (by
     rw [HV.out, if_pos]
     refine .inr (.inr ?_)
     rw [HNM.out, <- Nat.mul_add, Nat.mul_mod_mul_left, hK]
     omega)
    have k3 : ((M : Int) % (K : Int) != 0) = true := by
     rw [bne_iff_ne]
     intro h
     have h1 : ((M % K : Nat) : Int) = 0 := by rw [Int.natCast_emod]; exact h
     omega
    clear hrem hK
    gi_wp2
    refine ⟨.tuple #[.slice none 0 0, .int .i64 10], by simp [results, Tryz.results91, go_sem], ?_⟩
    exact ⟨fun h => by (rw [HO.out] at h; cases h), fun _ => ⟨none, 0, rfl, by omega⟩, HB4.out⟩
   have k3 : ((M : Int) % (K : Int) != 0) = false := by
    rw [bne_eq_false_iff_eq]
    have : ((M % K : Nat) : Int) = 0 := by rw [hrem]; rfl
    rwa [Int.natCast_emod] at this
   obtain ⟨m, hm⟩ : ∃ m, M / K = m := ⟨_, rfl⟩
   have hMm : M = m * K := by
    have h1 := Nat.div_add_mod M K
    rw [hrem, hm, Nat.mul_comm] at h1
    omega
   have e2 : (M : Int) / (K : Int) = (m : Int) := by rw [<- hm]; exact (Int.natCast_ediv M K).symm
   have hmM : m <= M := by rw [hMm]; exact Nat.le_mul_of_pos_right m (by omega)
   have HO : Hid (O = (true, (List.range m).map fun j => (cutN zs (j * (4 * a + 4 * s)) (4 * a), cutN zs (j * (4 * a + 4 * s) + 4 * a) (4 * s)))) := Lib.hid (by
    have hd : N / (4 * a + 4 * s) = m := by rw [HNM.out, <- Nat.mul_add, hK, Nat.mul_div_mul_left _ _ (by omega), hm]
    have hn : ¬ ((a : Int) <= 0 \/ (s : Int) < 0 \/ N % (4 * a + 4 * s) ≠ 0) := by
     have : N % (4 * a + 4 * s) = 0 := by rw [HNM.out, <- Nat.mul_add, Nat.mul_mod_mul_left, hK, hrem]
     omega
    rw [HV.out, if_neg hn, hd]
    rfl)
   obtain ⟨F, hF⟩ : ∃ F : Nat -> Int × Int, F = fun j => (cutN zs (j * (4 * a + 4 * s)) (4 * a), cutN zs (j * (4 * a + 4 * s) + 4 * a) (4 * s)) := ⟨_, rfl⟩
   rw [<- hF] at HO
   have HF := Lib.hid hF
   have HMm := Lib.hid hMm
   have HmM : Hid (m <= 268435456) := Lib.hid (by have := HMB.out; omega)
   clear hrem hm hMm hF HV
   obtain ⟨ab, hab⟩ : ∃ ab, w2.heap.size = ab := ⟨_, rfl⟩
   rw [hab] at HAB4 b0
   have HLT : Hid (w.heap.size <= ab /\ ab < w3.heap.size) := Lib.hid ⟨by rw [<- hab]; exact HB2.out.size, (Array.getElem?_eq_some_iff.1 HAB4.out).1⟩
   obtain ⟨w4, hm1, hm2, hm3, hm4⟩ := make_wins w3 m (by have := HmM.out; omega) (m : Int) rfl
   obtain ⟨n0, hn0⟩ : ∃ n0, w3.heap.size = n0 := ⟨_, rfl⟩
   rw [hn0] at hm1 hm2 hm3 hm4 HLT HCEL
   obtain ⟨W6, hW6⟩ : ∃ W6, ((w4.alloc (.cells #[.slice (some ⟨n0, 0, none⟩) 0 m] 124)).alloc (.cells #[.slice A3 M c3] 87)).alloc (.cells #[.int .i64 K] 3) = W6 := ⟨_, rfl⟩
   have bX : Below w4.heap.size w4 (w4.alloc (.cells #[.slice (some ⟨n0, 0, none⟩) 0 m] 124)) := (Below.refl _ _).alloc (Nat.le_refl _) _
   have zX : (w4.alloc (.cells #[.slice (some ⟨n0, 0, none⟩) 0 m] 124)).heap.size = n0 + 2 := by simp [hm4]
   have gX := heap_alloc_new w4 (.cells #[.slice (some ⟨n0, 0, none⟩) 0 m] 124)
   rw [hm4] at gX
   have HCH := qeq_ A3 M c3 K hst (w4.alloc (.cells #[.slice (some ⟨n0, 0, none⟩) 0 m] 124))
   rw [zX, hW6] at HCH
   have b1 : (w4.alloc (.cells #[.slice (some ⟨n0, 0, none⟩) 0 m] 124)).cell? ⟨ab, 0, none⟩ = some (.int .i64 a) := Lib.cell?_alloc_some _ ((hm3.cell (p := ⟨ab, 0, none⟩) HLT.out.2).trans b0)
   have HFACT : Hid (W6.heap.size = n0 + 4 /\ Below n0 w3 W6 /\ WinI n0 A3 M c3 K (fun _ => False) (.slice (some ⟨n0, 0, none⟩) 0 m) [] W6) := Lib.hid (by
    generalize w4.alloc (.cells #[.slice (some ⟨n0, 0, none⟩) 0 m] 124) = WX at bX zX gX hW6
    have bY : Below WX.heap.size WX (WX.alloc (.cells #[.slice A3 M c3] 87)) := (Below.refl _ _).alloc (Nat.le_refl _) _
    have zY : (WX.alloc (.cells #[.slice A3 M c3] 87)).heap.size = n0 + 3 := by simp [zX]
    have gY := heap_alloc_new WX (.cells #[.slice A3 M c3] 87)
    rw [zX] at gY bY
    generalize WX.alloc (.cells #[.slice A3 M c3] 87) = WY at bY zY gY hW6
    have bZ : Below WY.heap.size WY (WY.alloc (.cells #[.int .i64 K] 3)) := (Below.refl _ _).alloc (Nat.le_refl _) _
    have gZ := heap_alloc_new WY (.cells #[.int .i64 K] 3)
    have zZ : (WY.alloc (.cells #[.int .i64 K] 3)).heap.size = n0 + 4 := by simp [zY]
    rw [zY] at gZ bZ
    rw [hW6] at bZ gZ zZ
    rw [hm4] at bX
    have b46 : Below (n0 + 1) w4 W6 := bX.trans ((bY.mono (by omega)).trans (bZ.mono (by omega)))
    refine ⟨zZ, hm3.trans (b46.mono (by omega)), (bZ.block _ (by omega)).trans ((bY.block _ (by omega)).trans gX), ⟨(bZ.block _ (by omega)).trans gY, gZ⟩, qez_ hm2 (by rw [hm4]; exact b46), fun j hj => ⟨fun h => h, .inl ?_⟩⟩
    simp [Value.ownBlock] at hj
    omega)
   have HAB6 : Hid (W6.heap[ab]? = some (.cells #[.int .i64 a] 3 (0, 0)) /\ Below w.heap.size w W6) := Lib.hid ⟨(HFACT.out.2.1.block _ HLT.out.2).trans HAB4.out, HB4.out.trans (HFACT.out.2.1.mono (by rw [<- hn0]; exact HB4.out.size))⟩
   have HWK := Lib.hid (qhb_ A3 c3 M K m n0 (n0 + 2) (u32s (qao_ zs)) W6 (HCEL.out.below HFACT.out.2.1) (by rw [HFACT.out.1]; omega) hst HMm.out ⟨hl1, hl2, by have := HMB.out; omega⟩)
   have HCHH := Lib.hid HCH
   have hlt0 : w.heap.size <= n0 := by have := HLT.out; omega
   have HM4 := Lib.hid hm4
   have HABL : Hid (ab < n0) := Lib.hid HLT.out.2
   clear hW6 bX zX gX HCH hm2 hm3 hm4 HCEL HAB4 HLT
   gi_wp2_with (refine ⟨trivial, rfl, (callsIn_wide.2 HCHH.out).mono ?_⟩; rintro e W7 ⟨rfl, rfl⟩)
   clear b0 b1 hm1 HCHH e2 k2 k3
   rw [HM4.out]
   refine qa3_ (gf := 145) (lb := #[.pointer (some ⟨n0 + 2, 0, none⟩), .pointer (some ⟨n0 + 3, 0, none⟩)]) rfl (enters_of Tryz.func145 (by kernel_rfl) rfl) HWK.out (Below.refl _ _) (by rw [HFACT.out.1]; omega) (fun Wx j args h => by obtain ⟨A, rfl, _⟩ := h; rfl) (n0 + 4) (by rw [HFACT.out.1]; exact Nat.le_refl _) (fun _ => False) (fun k h => h.elim)
    (fun Mk pre Wx => ((∃ v, WinI n0 A3 M c3 K Mk v (pre.map F) Wx) /\ Below w.heap.size w Wx) /\ Wx.heap[ab]? = some (.cells #[.int .i64 a] 3 (0, 0))) (fun c Mk pre Wx => False)
    (fun T T' s A C hs hB hT ht hst => by
     obtain ⟨⟨⟨v, h⟩, hb⟩, h2⟩ := hs
     exact ⟨⟨⟨v, h.turn hT ht⟩, hb.trans ((ht.below hT hB).mono (by omega))⟩, (ht.same _ (Array.getElem?_eq_some_iff.1 h2).1 (fun hm => by have := (hT _ hm).1; have := HABL.out; omega)).trans h2⟩)
    (fun c T T' s A C hs hB hT ht hst => hs) (fun Mk s W1 h => by obtain ⟨⟨⟨v, h⟩, hb⟩, h2⟩ := h; exact h.2.1) ⟨⟨⟨_, HFACT.out.2.2⟩, HAB6.out.2⟩, HAB6.out.1⟩ ?round ?done ?stop
   case round =>
    rintro l2 Mk pre j args Wr hM hu hsz hbn hI ⟨A', rfl, hcel⟩ hpre
    have hjm : j < m := by
     have := hpre.subset (show j ∈ pre ++ [j] by simp)
     simpa using this
    have hpl : pre.length < m := by
     have := hpre.length_le
     rw [List.length_append, List.length_singleton, List.length_range] at this
     omega
    obtain ⟨cs, hcs⟩ : ∃ cs, cs = ((qao_ zs).drop (j * K)).take K := ⟨_, rfl⟩
    have hjk : j * K + K <= M := by
     rw [HMm.out, <- Nat.succ_mul]
     exact Nat.mul_le_mul_right K hjm
    have hcsl : cs.length = K := by
     have h1 := HUL.out
     rw [u32s, List.length_map] at h1
     rw [hcs, List.length_take, List.length_drop, h1]
     omega
    have hcw := chunk_win zs M j a s (by rw [HNN.out]; exact HNM.out) (by rw [HK.out]; exact hjk) ha2 hs2 cs (by rw [HK.out]; exact hcs)
    obtain ⟨fx, fy, hFj⟩ : ∃ fx fy, F j = (fx, fy) := ⟨_, _, rfl⟩
    have hw1 : wideV (cs.take a) = fx := by rw [hcw.1]; have := congrArg Prod.fst hFj; rw [HF.out] at this; exact this
    have hw2 : wideV (cs.drop a) = fy := by rw [hcw.2]; have := congrArg Prod.snd hFj; rw [HF.out] at this; exact this
    have hcz : ∀ z ∈ cs, 0 <= z /\ z <= 4294967295 := fun z hz => HRG2.out z (by rw [hcs] at hz; exact List.mem_of_mem_drop (List.mem_of_mem_take hz))
    have hcel2 : Cel Wr n0 A' K (u32s cs) := by rw [hcs, qel_, qee_]; exact hcel
    have HCL := Lib.hid (fun (W : World) (hW : Cel W W.heap.size A' K (u32s cs)) => qnp_ A' K K a cs W hcsl hW hcz (by have := HK.out; omega) ha2 (by have := HK.out; omega) (Nat.le_refl _) (by have := HK.out; omega))
    rw [hw1, hw2] at HCL
    have HI := Lib.hid hI
    have HU := Lib.hid hu
    have HWS : Hid (n0 + 4 <= Wr.heap.size) := Lib.hid (by have := HFACT.out.1; omega)
    have HCE := Lib.hid hcel2
    have HFJ := Lib.hid hFj
    have HPL := Lib.hid hpl
    clear hjm hpl hcs hjk hcsl hcw hFj hw1 hw2 hcz hcel hcel2 hI hu hsz hbn hpre hM
    gi_wp2
    refine ⟨HI.out, Kp.refl _ _ _, ?_⟩
    intro W3 hi3 ht3 hcl3 hfz3
    obtain ⟨⟨⟨v3, hix3⟩, hbw3⟩, hab3⟩ := hi3
    obtain ⟨i1, i2, i3, i4⟩ := hix3
    obtain ⟨Av, cv, rfl, hcelv, hcv1, hcv2, hob⟩ := qa0_ i3
    have HIX3 : Hid (WinI n0 A3 M c3 K Mk (.slice Av (pre.map F).length cv) (pre.map F) W3) := Lib.hid ⟨i1, i2, i3, i4⟩
    have HU3 := Lib.hid (ht3.ups HU.out HWS.out)
    have HS3' : Hid (n0 + 4 <= W3.heap.size) := Lib.hid (Nat.le_trans HWS.out ht3.size)
    have HB3' := Lib.hid hbw3
    have HAB3 := Lib.hid hab3
    have c0 : W3.cell? ⟨n0 + 1, 0, none⟩ = some (.slice Av (pre.map F).length cv) := by rw [Lib.cell_of_heap i1]; rfl
    have c1' : W3.cell? ⟨ab, 0, none⟩ = some (.int .i64 a) := by rw [Lib.cell_of_heap hab3]; rfl
    have HC0 := Lib.hid (And.intro c0 c1')
    have CL := Lib.hid (HCL.out W3.drew ((HCE.out.keep (w' := W3.drew) (fun a _ => hcl3 a)).more (by have := HS3'.out; show n0 <= W3.heap.size; omega)))
    obtain ⟨PL, hPL⟩ : ∃ PL, (pre.map F).length = PL := ⟨_, rfl⟩
    have HPLL : Hid (PL < m) := Lib.hid (by rw [<- hPL, List.length_map]; exact HPL.out)
    have HIXP := Lib.hid hPL
    clear i1 i2 i3 i4 hcelv hcv1 hcv2 hob ht3 hcl3 hfz3 hbw3 hab3 c0 c1' HI HCL
    rw [hPL] at HIX3 HC0
    clear hPL
    gi_wp2_with fail
    refine qfl_ [6] (S := fun W => W.cell? ⟨n0 + 1, 0, none⟩ = some (.slice Av PL cv) /\ W.cell? ⟨ab, 0, none⟩ = some (.int .i64 a)) (by kernel_rfl) HC0.out (fun hHeld => ?_)
    refine tkI 0 hHeld fun _ => ?_
    refine tkI 1 hHeld fun _ => ?_
    refine tkI 2 hHeld fun _ => ?_
    refine qb1_ 3 (by kernel_rfl) rfl (by rfl) (fun K hK => ?_)
    refine ⟨fun _ _ => trivial, ?_⟩
    go_simp
    refine ⟨rfl, (CallsIn.inRound l2 (callsIn_wide.2 CL.out)).mono ?_⟩
    rintro e W4 ⟨rfl, hb4⟩
    have hb4' : Below W3.heap.size W3 W4 := (Below.refl W3.heap.size W3).drew.trans hb4
    have hstep := win_step (fx, fy) (xs := pre.map F) HIX3.out HU3.out HS3'.out hb4' (by rw [HIXP.out]; have := HPLL.out; have := HmM.out; omega)
    rw [HIXP.out] at hstep
    obtain ⟨A5, c5, w5, r5, hl5, hix5, hk5⟩ := hstep
    have HIX5 := Lib.hid hix5
    have HK5 := Lib.hid ((Kp.of_below (n := n0) hb4' (by have := HS3'.out; omega) HU3.out).trans hk5)
    have HR5 := Lib.hid r5
    have q0 : W4.cell? ⟨n0 + 1, 0, none⟩ = some (.slice Av PL cv) /\ W4.cell? ⟨ab, 0, none⟩ = some (.int .i64 a) := ⟨(hb4'.cell (p := ⟨n0 + 1, 0, none⟩) (by have := HS3'.out; show n0 + 1 < _; omega)).trans HC0.out.1, (hb4'.cell (p := ⟨ab, 0, none⟩) (by have := HS3'.out; have := HABL.out; show ab < _; omega)).trans HC0.out.2⟩
    have q1 : (W4.alloc (.cells #[.int .u64 fx, .int .u64 fy] 173)).cell? ⟨n0 + 1, 0, none⟩ = some (.slice Av PL cv) /\ (W4.alloc (.cells #[.int .u64 fx, .int .u64 fy] 173)).cell? ⟨ab, 0, none⟩ = some (.int .i64 a) := ⟨Lib.cell?_alloc_some _ q0.1, Lib.cell?_alloc_some _ q0.2⟩
    have hkk5 := hk5.below
    have q2 : w5.cell? ⟨n0 + 1, 0, none⟩ = some (.slice Av PL cv) := by rw [Lib.cell_of_heap hl5]; rfl
    have q2' : w5.cell? ⟨ab, 0, none⟩ = some (.int .i64 a) := by
     have h1 := (hkk5.cell (p := ⟨ab, 0, none⟩) HABL.out).trans q0.2
     have h2 : (w5.setCell ⟨n0 + 1, 0, none⟩ (.slice A5 (PL + 1) c5)).heap[ab]? = w5.heap[ab]? := Below.heap_setCell _ _ _ _ (by show ab ≠ n0 + 1; have := HABL.out; omega)
     exact (World.cell?_of_block h2).symm.trans h1
    have q3 := Lib.frozen_of_heap hl5 0
    have Q0 := Lib.hid q0
    have Q1 := Lib.hid q1
    have Q2 := Lib.hid (And.intro q2 q2')
    have Q3 := Lib.hid q3
    clear hb4 hb4' hl5 hix5 hk5 r5 q0 q1 q2 q2' q3 hkk5 CL
    dsimp only
    refine hK.out _ _ Q0.out (fun hHeld => ?_)
    clear hK K
    refine qb1_ 4 (by kernel_rfl) rfl (by rfl) (fun K hK => ?_)
    refine ⟨fun _ _ => trivial, ?_⟩
    go_simp
    refine hK.out _ _ Q1.out (fun hHeld => ?_)
    clear hK K
    refine qb1_ 5 (by kernel_rfl) rfl (by rfl) (fun K hK => ?_)
    refine qi1_ _ _ rfl _ _ rfl rfl HR5.out ?_
    simp only [Act.put, List.setIfInBounds_toArray, List.set_cons_zero, List.set_cons_succ]
    refine hK.out _ _ Q2.out (fun hHeld => ?_)
    clear hK K
    have q2 := Q2.out.1
    have q3 := Q3.out
    refine qk9_ 6 (by kernel_rfl) rfl (by rfl) (by kernel_rfl) (fun K hK => ?_)
    refine ⟨fun _ _ => trivial, ?_⟩
    go_simp
    refine hK.out _ _ ?_
    clear hK K
    refine qcg_ (by kernel_rfl) ?_ _
    clear hHeld
    gi_wp2
    exact ⟨HK5.out, ⟨⟨_, by rw [List.map_append, List.map_cons, List.map_nil, HFJ.out]; exact HIX5.out⟩, HB3'.out.trans (HK5.out.below.mono hlt0)⟩, (HK5.out.below.block _ HABL.out).trans HAB3.out⟩
   case done =>
    rintro D Mk Wd hM hu hsz hD ⟨⟨⟨v, hix⟩, hbw⟩, hab9⟩ hd
    obtain ⟨h1, h2, h3, h4⟩ := hix
    have hlen : ((List.range m).map F).length = m := by simp
    obtain ⟨Av, cv, rfl, hcel, hc1, hc2, hob⟩ := qa0_ h3
    have hDb := (hu D hD).1
    have hbd : ∀ k, k ≠ D -> (Wd.putObj D (.deferred none)).heap[k]? = Wd.heap[k]? := fun k hk => World.putObj_heap_other hk
    have HBF : Hid (Below w.heap.size w (Wd.putObj D (.deferred none))) := Lib.hid (hbw.trans ⟨rfl, rfl, rfl, by simp, fun k hk => hbd k (by omega)⟩)
    have hturn : Turn Mk Mk Wd (Wd.putObj D (.deferred none)) := Turn.putObj Wd hD _
    have h3' := (WinI.turn ⟨h1, h2, h3, h4⟩ hu hturn).2.2.1
    obtain ⟨Av', cv', e', hcel', _, _, _⟩ := qa0_ h3'
    simp only [Value.slice.injEq, true_and] at e'
    obtain ⟨rfl, rfl⟩ := e'
    rw [hlen] at h1 hcel' hc1
    have c0 : Wd.cell? ⟨n0 + 1, 0, none⟩ = some (.slice Av m cv) := by rw [Lib.cell_of_heap h1]; rfl
    have HSH := Lib.hid hcel'
    have HC9 := Lib.hid (And.intro hc1 hc2)
    have HFR : Hid ((Wd.putObj D (.deferred none)).ownsRow w.heap.size 173 2 (.slice Av m cv) m (flat2 (((List.range m).map F).map winV))) := Lib.hid (by
     have h := qjt_ h3' hlt0
     rwa [hlen] at h)
    clear h1 h2 h3 h4 hcel hob hturn h3' hcel' hbd hDb hu hsz hM hbw hab9 hc1 hc2 hlen
    gi_wp2
    refine ⟨by simp, .inl ⟨_, _, rfl, run_takeDeferred hd, ?_⟩⟩
    refine ⟨.tuple #[.slice Av m cv, .int .i64 0], by simp [results, Tryz.results91, go_sem], ?_⟩
    exact ⟨fun _ => ⟨Av, m, cv, rfl, by rw [HO.out]; exact HSH.out, HC9.out.1, HC9.out.2, by rw [HO.out]; exact HFR.out⟩, fun h => by (rw [HO.out] at h; cases h), HBF.out⟩
   case stop =>
    rintro D c Mk pre Wd hM hu hsz hD hpre h hd
    exact h.elim
  ·have hf : (decide (0 <= va) && decide (0 <= vs)) = false := by
    rw [Bool.and_eq_false_iff, decide_eq_false_iff_not, decide_eq_false_iff_not]
    omega
   obtain rfl := ho2 hf
   have HO : Hid (O = (false, [])) := Lib.hid (by rw [HV.out, if_pos (by omega)])
   clear ho1 ho2 hf hok
   gi_wp2
   refine ⟨.tuple #[.slice none 0 0, .int .i64 10], by simp [results, Tryz.results91, go_sem], ?_⟩
   exact ⟨fun h => by (rw [HO.out] at h; cases h), fun _ => ⟨none, 0, rfl, by omega⟩, HB2.out.trans ((Below.refl _ _).alloc HB2.out.size _)⟩
theorem regOK : RegOK := fun parent n w h1 h2 h3 h4 => (reg_own parent n w h1 h2 h3 h4).mono fun e w' ⟨a, b, c⟩ => ⟨fun h => by
 obtain ⟨A, m, c, q1, q2, q3, q4, _⟩ := a h
 exact ⟨A, m, c, q1, q2, q3, q4⟩, b, c⟩
end
end Go.Proofs.YtcfinbapfhhpgaaGreatDoor
