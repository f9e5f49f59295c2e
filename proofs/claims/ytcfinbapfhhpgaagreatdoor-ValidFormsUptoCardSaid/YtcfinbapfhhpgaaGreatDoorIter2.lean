/-
  Iter, part 2.
-/
import Derived.Test.YtcfinbapfhhpgaaGreatDoorIter1
import Derived.Test.YtcfinbapfhhpgaaGreatDoorBase5
import Derived.Test.YtcfinbapfhhpgaaGreatDoorBase4
import Derived.Laws.EntriesVeiled
import Derived.Test.YtcfinbapfhhpgaaGreatDoorBase6
import Derived.Test.YtcfinbapfhhpgaaGreatDoorBase8
namespace Go.Proofs.YtcfinbapfhhpgaaGreatDoor
open Go.RowKit
set_option linter.unusedVariables false
set_option linter.unusedSimpArgs false
set_option maxRecDepth 20000
set_option maxHeartbeats 16000000
section
attribute [local go_sem] Oper.semAt_some
def EncN (root : Nd) (n : Nat) (W : World) (p : List Nat) (args : Array Value) : Prop :=
 ∃ A c nd, args = #[.slice A p.length c, nd.val] /\ qaj_ root p = some nd /\ Cel W W.heap.size A p.length (ints p) /\ p.length <= c /\ c <= 9223372036854775807 /\ nd.In W n
def PAt (B : Nat) (T : Nat -> Prop) (W : World) (b l : Nat) (q : List Nat) : Prop :=
 ∃ v, W.heap[b]? = some (.cells #[v, .func (.yield l) #[] #[]] 212 (0, 0)) /\ T b /\ W.ownsRow B 3 1 v q.length (ints q) /\ ∀ k, v.ownBlock = some k -> T k /\ k ≠ b
theorem own_cut {w : World} {base n k : Nat} {e : TypeId} {v : Value} {q : List Nat} (h : w.ownsRow base e 1 v n (ints q)) (hk : k <= n) : ∃ A c, v = .slice A n c /\ k <= c /\ c <= 9223372036854775807 /\ n <= c /\ w.ownsRow base e 1 (.slice A k c) k (ints (q.take k)) /\ (Value.slice A k c).ownBlock = v.ownBlock := by
 have hq : q.length = n := by have := h.1; simpa using this
 rcases h.2 with ⟨rfl, hn⟩ | ⟨g, cap, cur, rfl, hb, hg, h1, h2, h3, h4⟩
 ·obtain rfl : k = 0 := by omega
  subst hn
  exact ⟨none, 0, rfl, Nat.le_refl _, by omega, Nat.le_refl _, ⟨by simp, .inl ⟨rfl, rfl⟩⟩, rfl⟩
 ·refine ⟨_, cap, rfl, by omega, by unfold maxLen at h2; omega, h1, ⟨by rw [List.length_map, List.length_take]; omega, .inr ⟨g, cap, cur, rfl, hb, hg, by omega, h2, h3, ?_⟩⟩, rfl⟩
  have e1 : (ints q).take k = ints (q.take k) := by simp [ints, List.map_take]
  rw [<- e1, <- h4, List.take_take]
  congr 1
  omega
section
variable {B : Nat} {T T' : Nat -> Prop} {W W' : World} {b l : Nat} {q : List Nat}
theorem PAt.kept (h : PAt B T W b l q) (hs : ∀ k, T k -> W'.heap[k]? = W.heap[k]?) (ht : ∀ k, T k -> T' k) : PAt B T' W' b l q := by
 obtain ⟨v, h1, h2, h3, h4⟩ := h
 refine ⟨v, (hs b h2).trans h1, ht b h2, ⟨h3.1, ?_⟩, fun k hk => ⟨ht k (h4 k hk).1, (h4 k hk).2⟩⟩
 rcases h3.2 with h | ⟨g, cap, cur, rfl, hb, hg, hr⟩
 ·exact .inl h
 ·exact .inr ⟨g, cap, cur, rfl, hb, (hs g (h4 g rfl).1).trans hg, hr⟩
end
theorem size_int8 (w : World) : (Go.sizeOf 3).run Tryz.prog w = .ok 1 w := by
 obtain ⟨i, h, _, h1, _⟩ := qaw_ qkj_
 simp [sizeOf, typeInfo, h, h1]
theorem pat_step {B : Nat} {T : Nat -> Prop} {W : World} {b l : Nat} {p s : List Nat} (h : PAt B T W b l (p ++ s)) (hu : Ups B T W) (hB : B <= W.heap.size) (hlen : p.length <= 268435456) (k0 k1 k2 : Value) (j : Nat) :
  ∃ Ap m cp A' c' w7 T', W.cell? ⟨b, 0, none⟩ = some (.slice Ap m cp) /\ p.length <= cp /\
   (Builtin.append_ #[56, 56] 56 #[.slice Ap p.length cp, .slice (some ⟨W.heap.size + 1, 0, none⟩) 1 1]).run Tryz.prog ((W.alloc (.cells #[k0, k1, k2] 27)).alloc (.cells #[.int .i64 (j : Int)] 3)) = .ok (.slice A' (p.length + 1) c') w7 /\
   w7.heap[b]? = some (.cells #[.slice Ap m cp, .func (.yield l) #[] #[]] 212 (0, 0)) /\ (w7.setCell ⟨b, 0, none⟩ (.slice A' (p.length + 1) c')).heap[W.heap.size]? = some (.cells #[k0, k1, k2] 27 (0, 0)) /\
   Turn T T' W (w7.setCell ⟨b, 0, none⟩ (.slice A' (p.length + 1) c')) /\ PAt B T' (w7.setCell ⟨b, 0, none⟩ (.slice A' (p.length + 1) c')) b l (p ++ [j]) := by
 obtain ⟨v, a1, a2, a3, a4⟩ := h
 obtain ⟨Ap, cp, rfl, hk1, hk2, _, hcut, hown⟩ := own_cut a3 (k := p.length) (by rw [List.length_append]; omega)
 rw [List.take_left] at hcut
 obtain ⟨w5, hw5⟩ : ∃ w5, w5 = W.alloc (.cells #[k0, k1, k2] 27) := ⟨_, rfl⟩
 obtain ⟨w6, hw6⟩ : ∃ w6, w6 = w5.alloc (.cells #[.int .i64 (j : Int)] 3) := ⟨_, rfl⟩
 have hs5 : w5.heap.size = W.heap.size + 1 := by rw [hw5]; simp
 have hs6 : w6.heap.size = W.heap.size + 2 := by rw [hw6]; simp [hs5]
 have hcut6 : w6.ownsRow B 3 1 (.slice Ap p.length cp) p.length (ints p) := by rw [hw6, hw5]; exact (hcut.alloc _).alloc _
 have hone := qie_ w5 j
 rw [<- hw6, hs5] at hone
 obtain ⟨v', w7, r7, g1, g2, g3⟩ := qd2_ (ys := [j]) 1 hcut6 hone (by simp; omega) (by omega) 56
 rw [hown] at g2 g3
 have hlt := g1.lt
 have g1' : w7.ownsRow B 3 1 v' (p ++ [j]).length (ints (p ++ [j])) := by have := g1; rw [List.length_map] at this; exact this
 obtain ⟨A', c', rfl, hcel, _, _, _⟩ := qai_ g1'
 rw [List.length_append, List.length_singleton] at r7 g1' g3 hlt
 have hbl : b < W.heap.size := (hu b a2).2
 have hb7 : w7.heap[b]? = W.heap[b]? := by
  have e1 := g2.block b (by omega) (fun e => (a4 b e.symm).2 rfl)
  rw [e1, hw6, Below.heap_alloc _ _ _ (by omega), hw5, Below.heap_alloc _ _ _ hbl]
 have hbk7 : w7.heap[W.heap.size]? = some (.cells #[k0, k1, k2] 27 (0, 0)) := by
  have e1 := g2.block W.heap.size (by omega) (fun e => by have := (hu _ (a4 _ e.symm).1).2; omega)
  rw [e1, hw6, Below.heap_alloc _ _ _ (by omega), hw5]
  exact heap_alloc_new _ _
 have hnew : ∀ k, (Value.slice A' (p.length + 1) c').ownBlock = some k -> (T k /\ k ≠ b) \/ (w6.heap.size <= k /\ k < w7.heap.size /\ k ≠ b) := fun k hk => by
  rcases g3 with e | e
  ·rw [e] at hk; exact .inl (a4 k hk)
  ·rw [e] at hk
   have hk' : w6.heap.size = k := Option.some.inj hk
   have := hlt k (by rw [e]; exact hk)
   exact .inr ⟨by omega, this.2, by omega⟩
 have hT : Turn T (fun k => T k \/ (Value.slice A' (p.length + 1) c').ownBlock = some k) W (w7.setCell ⟨b, 0, none⟩ (.slice A' (p.length + 1) c')) := by
  have t1 : Turn T T W w6 := Turn.of_below (by rw [hw6, hw5]; exact ((Below.refl _ W).alloc (Nat.le_refl _) _).alloc (by simp) _)
  have t2 : Turn T (fun k => T k \/ (Value.slice A' (p.length + 1) c').ownBlock = some k) w6 w7 := ⟨g2.os, g2.tape, g2.output, g2.size, fun k hk hn => g2.block k hk (fun e => hn (a4 k e.symm).1), fun k hk => .inl hk, fun k hk => by
   rcases hk with h | h
   ·exact .inl h
   ·exact (hnew k h).imp And.left (fun h => ⟨h.1, h.2.1⟩)⟩
  exact t1.trans (t2.trans (Turn.setCell w7 (b := b) (.inl a2) 0 _))
 refine ⟨Ap, _, cp, A', c', w7, _, by rw [Lib.cell_of_heap a1]; rfl, hk1, by rw [<- hw5, <- hw6]; exact r7, by rw [hb7, a1], ?_, hT, .slice A' (p.length + 1) c', ?_, .inl a2, ?_, fun k hk => ⟨.inr hk, (hnew k hk).elim And.right (fun h => h.2.2)⟩⟩
 ·rw [Below.heap_setCell _ _ _ _ (by show W.heap.size ≠ b; omega)]; exact hbk7
 ·simp [World.setCell, Array.getElem?_modify, hb7, a1]
 ·rw [List.length_append, List.length_singleton]
  refine g1'.kept (row := some b) ⟨rfl, rfl, rfl, by simp [World.setCell], fun k hk hne => Below.heap_setCell _ _ _ _ (fun e => hne (by rw [show k = b from e]))⟩ ?_
  rcases h : (Value.slice A' (p.length + 1) c').ownBlock with _ | k
  ·exact .inl rfl
  ·exact .inr (fun e => (hnew k h).elim (fun h2 => h2.2 (Option.some.inj e)) (fun h2 => h2.2.2 (Option.some.inj e)))
theorem in_append {F : Fence} {n : Nat} {P : Program} {w w' : World} {ops : Array Oper} {rest : List Oper} {o : Oper} {a : Act} {Q : Exit -> Act -> World -> Prop} (hg : o.guard = none) (s x : Operand) (t u : TypeId) (ho : o.op = .call { callee := .builtin .append, args := #[s, x], argTypes := #[t, u] })
  (y z : Value) (hs : a.eval s = y) (hx : a.eval x = z) {v : Value} (hr : (Builtin.append_ #[t, u] o.type #[y, z]).run P w = .ok v w') (hK : wpListIn F n P ops Q rest (a.put o.dst v) w') : wpListIn F n P ops Q (o :: rest) a w := by
 refine wpListIn_plain hg fun K hK' => ?_
 unfold Oper.wpIn
 refine ⟨?_, ?_⟩
 ·simp [Oper.about, ho, resolve, Target.leads, Sem.run_pure]
 ·rw [Oper.semAt_plain F _ _ (by rw [ho]; intro c hc'; cases hc')]
  simp only [execOp, ho, resolve, invoke, builtin, Sem.run_bind, Sem.run_pure, Result.andThen_ok, List.map_toArray, List.map_cons, List.map_nil, hs, hx, hr]
  exact hK' _ _ hK
section
variable (root : Nd) (l n B : Nat) (hnB : n <= B) (J Jx : (Nat -> Prop) -> List (List Nat) -> World -> Prop) (hJ : Abid B J) (hJx : Abid B Jx) (W0 : World)
 (hY : ∀ T pre x args W1, J T pre W1 -> Ups B T W1 -> B <= W1.heap.size -> Below n W0 W1 -> EncN root n W1 x args -> pre ++ [x] <+: qac_ root [] -> YieldAt Fence.wide 0 Tryz.prog l args W1 fun e W' =>
   Kp n T W1 W' /\ ((e = .returned (.bool true) /\ J T (pre ++ [x]) W') \/ (e = .returned (.bool false) /\ Jx T (pre ++ [x]) W')))
include hnB hJ hJx hY
theorem from_any : ∀ (x : Nd) (p : List Nat) (T : Nat -> Prop) (pre : List (List Nat)) (W : World) (b : Nat), qaj_ root p = some x -> x.In W n -> J T pre W -> Ups B T W -> B <= W.heap.size -> Below n W0 W -> PAt B T W b l p -> pre ++ qac_ x p <+: qac_ root [] -> p.length + heftN x <= 268435456 ->
  Calls Tryz.prog 102 #[.pointer (some ⟨b, 0, none⟩), x.val] W fun e W' => ∃ T', Ups B T' W' /\ W.heap.size <= W'.heap.size /\
   ((e = .returned (.bool true) /\ J T' (pre ++ qac_ x p) W' /\ (∃ s, PAt B T' W' b l (p ++ s)) /\ Below n W W') \/ (e = .returned (.bool false) /\ ∃ q, pre ++ q <+: qac_ root [] /\ Jx T' (pre ++ q) W')) := by
 refine Nd.ind ?_
 intro x ih p T pre W b hx hin hj hT hB hb0 hp hpre hz
 have HIH := Lib.hid ih
 have HX := Lib.hid hx
 have HIN := Lib.hid hin
 have HT0 := Lib.hid hT
 have HPRE := Lib.hid hpre
 have HZ := Lib.hid hz
 -- the node's box: the walk's own
 obtain ⟨T1, hT1⟩ : ∃ T1 : Nat -> Prop, T1 = fun j => T j \/ j = W.heap.size := ⟨_, rfl⟩
 have hal : Below W.heap.size W ((W.alloc (.cells #[.string x.name, x.pv, x.kv] 27)).drew) := ((Below.refl W.heap.size W).alloc (Nat.le_refl _) _).drew
 obtain ⟨W1, hW1⟩ : ∃ W1, W1 = (W.alloc (.cells #[.string x.name, x.pv, x.kv] 27)).drew := ⟨_, rfl⟩
 have hs1 : W1.heap.size = W.heap.size + 1 := by rw [hW1]; show ((W.alloc _).heap).size = _; simp
 have hbox : W1.heap[W.heap.size]? = some (.cells #[.string x.name, x.pv, x.kv] 27 (0, 0)) := by rw [hW1]; exact World.alloc_heap_new W _
 rw [<- hW1] at hal
 have ht1 : Turn T T1 W W1 := by rw [hT1]; exact Turn.own hal _ (by omega)
 have hu1 : Ups B T1 W1 := ht1.ups hT hB
 have hj1 : J T1 pre W1 := hJ _ _ _ _ _ hj hB hT ht1
 have hp1 : PAt B T1 W1 b l p := hp.kept (fun k hk => hal.block k (hT k hk).2) ht1.sub
 have hin1 : x.In W1 n := hin.under (hal.mono (by omega))
 obtain ⟨v, hv1, hv2, hv3, hv4⟩ := hp1
 obtain ⟨Av, cv, rfl, hcel, hl1, hl2, _⟩ := qai_ hv3
 have hy1 := hY T1 pre p #[.slice Av p.length cv, x.val] W1 hj1 hu1 (by omega) (hb0.trans (hal.mono (by omega))) ⟨Av, cv, x, rfl, hx, hcel, hl1, hl2, hin1⟩ (by
  rw [qa5_] at hpre
  obtain ⟨t, ht⟩ := hpre
  exact ⟨qaf_ x.kids p 0 ++ t, by rw [<- ht]; simp⟩)
 obtain ⟨fn, tmps, assign, body, hyr, hR⟩ := hy1
 have HR := Lib.hid hR
 have HP1 : Hid (PAt B T1 W1 b l p) := Lib.hid ⟨_, hv1, hv2, hv3, hv4⟩
 have HU1 := Lib.hid hu1
 have HT1b : Hid (T1 W.heap.size) := Lib.hid (by rw [hT1]; exact .inr rfl)
 have HW1 := Lib.hid hW1
 have HAL := Lib.hid hal
 have HBX := Lib.hid hbox
 have c0 : W1.cell? ⟨b, 0, none⟩ = some (.slice Av p.length cv) := by rw [Lib.cell_of_heap hv1]; rfl
 have c1 : W1.cell? ⟨b, 1, none⟩ = some (.func (.yield l) #[] #[]) := by rw [Lib.cell_of_heap hv1]; rfl
 have d0 : W1.cell? ⟨W.heap.size, 0, none⟩ = some (.string x.name) := by rw [Lib.cell_of_heap hbox]; rfl
 have d1 : W1.cell? ⟨W.heap.size, 1, none⟩ = some x.pv := by rw [Lib.cell_of_heap hbox]; rfl
 have d2 : W1.cell? ⟨W.heap.size, 2, none⟩ = some x.kv := by rw [Lib.cell_of_heap hbox]; rfl
 have HS : Hid (W1.cell? ⟨b, 0, none⟩ = some (.slice Av p.length cv) /\ W1.cell? ⟨b, 1, none⟩ = some (.func (.yield l) #[] #[]) /\ W1.cell? ⟨W.heap.size, 0, none⟩ = some (.string x.name) /\ W1.cell? ⟨W.heap.size, 1, none⟩ = some x.pv /\ W1.cell? ⟨W.heap.size, 2, none⟩ = some x.kv) := Lib.hid ⟨c0, c1, d0, d1, d2⟩
 have HHY := Lib.hid hY
 have HHJ := Lib.hid hJ
 have HHX := Lib.hid hJx
 have HS1 := Lib.hid hs1
 have HB := Lib.hid hB
 have HNB := Lib.hid hnB
 have HB0 := Lib.hid hb0
 have HYR := Lib.hid hyr
 have HT1S := Lib.hid ht1.sub
 clear hW1 hyr hR hcel hl1 hl2 hv1 hv2 hv3 hv4 hin1 hj1 hu1 ht1 hbox hs1 hal hT1 ih hx hin hT hpre hz hY hJ hJx hp hj hb0 hB hnB c0 c1 d0 d1 d2
 obtain ⟨nm, pa, pc, ps, ka, kc, ks⟩ := x
 obtain ⟨g, hg⟩ : ∃ g, g = W.heap.size := ⟨_, rfl⟩
 have HG := Lib.hid hg
 simp only [Nd.val, Nd.pv, Nd.kv, Nd.name, Nd.pa, Nd.pc, Nd.props, Nd.ka, Nd.kc, Nd.kids] at HS HYR HIH HW1 HBX ⊢
 rw [<- hg] at HS HBX HT1b
 clear hg
 refine (callsIn_wide (n := 0)).1 ?_
 refine callsIn_of_wp Tryz.func102 rfl trivial ?_ rfl
 simp only [Tryz.ntmps102, List.size_toArray, List.length_cons, List.length_nil, Nat.reduceAdd, Nat.reduceSub, Array.replicate_succ, Array.replicate_zero, List.push_toArray, List.append_toArray, List.nil_append, List.cons_append]
 gi_wp2_with fail
 refine qc2_ (S := fun W => W.cell? ⟨b, 0, none⟩ = some (.slice Av p.length cv) /\ W.cell? ⟨b, 1, none⟩ = some (.func (.yield l) #[] #[]) /\ W.cell? ⟨g, 0, none⟩ = some (.string nm) /\ W.cell? ⟨g, 1, none⟩ = some (.slice pa ps.length pc) /\ W.cell? ⟨g, 2, none⟩ = some (.slice ka ks.length kc)) (by kernel_rfl) (by rw [<- HW1.out]; exact HS.out) (fun hHeld => ?_)
 rw [<- HW1.out] at hHeld ⊢
 rw [<- HG.out]
 refine tkI 0 hHeld fun _ => ?_
 refine tkI 1 hHeld fun _ => ?_
 refine tkI 2 hHeld fun _ => ?_
 refine tkI 3 hHeld fun _ => ?_
 refine tkI 4 hHeld fun _ => ?_
 refine tkI 5 hHeld fun _ => ?_
 refine tkI 6 hHeld fun _ => ?_
 refine tkI 7 hHeld fun _ => ?_
 refine tkI 8 hHeld fun _ => ?_
 refine qb1_ 9 (by kernel_rfl) rfl (by rfl) (fun K hK => ?_)
 have hyr := HYR.out
 refine ⟨fun _ _ => trivial, ?_⟩
 go_simp
 refine ⟨by simp [Fence.wide], HR.out.mono ?_⟩
 clear HR HYR hyr
 rintro e W2 ⟨hk2, (⟨rfl, hj2⟩ | ⟨rfl, hx2⟩)⟩
 ·have q : ∀ r o, T1 r -> W2.cell? ⟨r, o, none⟩ = W1.cell? ⟨r, o, none⟩ := fun r o hr => World.cell?_of_block (hk2.same r hr)
  have HP2 : Hid (PAt B T1 W2 b l p) := Lib.hid (HP1.out.kept (fun k hk => hk2.same k hk) (fun _ h => h))
  have HTb : Hid (T1 b) := Lib.hid (by obtain ⟨_, _, h, _⟩ := HP1.out; exact h)
  have HS2 : Hid (W2.cell? ⟨b, 0, none⟩ = some (.slice Av p.length cv) /\ W2.cell? ⟨b, 1, none⟩ = some (.func (.yield l) #[] #[]) /\ W2.cell? ⟨g, 0, none⟩ = some (.string nm) /\ W2.cell? ⟨g, 1, none⟩ = some (.slice pa ps.length pc) /\ W2.cell? ⟨g, 2, none⟩ = some (.slice ka ks.length kc)) := Lib.hid (by
   obtain ⟨s0, s1, s2, s3, s4⟩ := HS.out
   exact ⟨(q _ _ HTb.out).trans s0, (q _ _ HTb.out).trans s1, (q _ _ HT1b.out).trans s2, (q _ _ HT1b.out).trans s3, (q _ _ HT1b.out).trans s4⟩)
  have HK2 := Lib.hid hk2
  have HJ2 := Lib.hid hj2
  clear hk2 hj2 q
  dsimp only
  refine hK.out _ _ HS2.out (fun hHeld => ?_)
  clear hK K
  refine tkI 10 hHeld fun _ => ?_
  refine qcg_ (by kernel_rfl) ?_ _
  clear hHeld
  obtain ⟨c0, c1, d0, d1, d2⟩ := HS2.out
  gi_wp2_with fail
  have HKC : Hid (∀ (wr : World), Below n W wr -> ∀ j (h : j < ks.length), ∃ kb ko, ka = some ⟨kb, ko, none⟩ /\ kb < n /\ wr.cell? ⟨kb, ko + j * 3, none⟩ = some (.string ks[j].name) /\ wr.cell? ⟨kb, ko + j * 3 + 1, none⟩ = some ks[j].pv /\ wr.cell? ⟨kb, ko + j * 3 + 2, none⟩ = some ks[j].kv) := Lib.hid (fun wr hb j h => (HIN.out.under hb).kcell (n := Nd.mk nm pa pc ps ka kc ks) h)
  have HKID : Hid (∀ j (h : j < ks.length), qaj_ root (p ++ [j]) = some ks[j] /\ ks[j].In W n /\ ks[j] ∈ ks /\ (pre ++ [p] ++ qaf_ (ks.take j) p 0) ++ qac_ ks[j] (p ++ [j]) <+: qac_ root [] /\ (p ++ [j]).length + heftN ks[j] <= 268435456) := Lib.hid (fun j h => by
   refine ⟨qg3_ HX.out h, HIN.out.kid (n := Nd.mk nm pa pc ps ka kc ks) (List.getElem_mem h), List.getElem_mem h, ?_, ?_⟩
   ·obtain ⟨t, ht⟩ := HPRE.out
    rw [qa5_] at ht
    have e : ks = ks.take (j + 1) ++ ks.drop (j + 1) := (List.take_append_drop _ _).symm
    have e2 : qaf_ (Nd.mk nm pa pc ps ka kc ks).kids p 0 = qaf_ (ks.take j) p 0 ++ qac_ ks[j] (p ++ [j]) ++ qaf_ (ks.drop (j + 1)) p (0 + (ks.take (j + 1)).length) := by
     show qaf_ ks p 0 = _
     rw [<- qbz_ ks p j h, <- qc3_, <- e]
    rw [e2] at ht
    exact ⟨qaf_ (ks.drop (j + 1)) p (0 + (ks.take (j + 1)).length) ++ t, by rw [<- ht]; simp only [List.append_assoc, List.cons_append, List.nil_append]⟩
   ·have h1 := qbh_ ks j h
    have h2 := qbb_ ks (j + 1)
    have h3 := HZ.out
    rw [heftN] at h3
    rw [List.length_append, List.length_singleton]
    omega)
  have HLAST : Hid (pre ++ qac_ (Nd.mk nm pa pc ps ka kc ks) p = pre ++ [p] ++ qaf_ ks p 0) := Lib.hid (by rw [qa5_]; simp [Nd.kids])
  have HPZ : Hid (p.length <= 268435456) := Lib.hid (by have := HZ.out; omega)
  obtain ⟨KL, hKL⟩ : ∃ KL, ks.length = KL := ⟨_, rfl⟩
  have HKL := Lib.hid hKL
  have hKB : KL <= 2199023255488 := by have h1 : ks.length * 64 <= 140737488351232 := HIN.out.name_le.2.2; omega
  rw [hKL] at d2 ⊢
  obtain ⟨pl, hpl⟩ : ∃ pl, p.length = pl := ⟨_, rfl⟩
  have HPL := Lib.hid hpl
  rw [hpl] at c0 ⊢
  clear hKL hpl HPRE HZ HX HIN
  gi_loopw [27] (fun i wr => ∃ (j : Nat) (Tj : Nat -> Prop), j <= KL /\ i = .int .i64 j /\ J Tj (pre ++ [p] ++ qaf_ (ks.take j) p 0) wr /\ (∃ s, PAt B Tj wr b l (p ++ s)) /\ Ups B Tj wr /\ B <= wr.heap.size /\ Below n W wr) (fun i _ => KL - (intOf i).toNat)
  case atStart =>
   have hz1 := HS1.out
   have hz2 := HK2.out.below.size
   have hz3 := HB.out
   exact ⟨0, T1, Nat.zero_le _, rfl, by simpa [qaf_] using HJ2.out, ⟨[], by simpa using HP2.out⟩, HU1.out.more hz2, by omega, (HAL.out.mono (Nat.le_trans HNB.out hz3)).trans HK2.out.below⟩
  case round =>
   clear c0 c1 d0 d1 d2 hHeld
   obtain ⟨j, Tj, hj, rfl, hjj, ⟨s, hpa⟩, hu, hbz, hbw⟩ := hrel
   by_cases hlt : j < KL
   ·have hjk : j < ks.length := by rw [HKL.out]; exact hlt
    obtain ⟨kb, ko, ek, _, e0, e1, e2⟩ := HKC.out wr hbw j hjk
    obtain rfl : ka = _ := ek
    obtain ⟨n1, n2, n3, n4, n5⟩ := HKID.out j hjk
    have HN := Lib.hid (qbz_ ks p j hjk)
    generalize ks[j] = K at *
    have HC := Lib.hid (HIH.out K n3 (p ++ [j]))
    obtain ⟨Ap, m, cp, A', c', w7, T', f0, f1, f2, f3, f4, f5, f6⟩ := pat_step hpa hu hbz HPZ.out (.string K.name) K.pv K.kv j
    have hbw3 : Below n W (w7.setCell ⟨b, 0, none⟩ (.slice A' (p.length + 1) c')) := hbw.trans ((f5.below hu hbz).mono HNB.out)
    have HC2 := Lib.hid (HC.out T' _ _ b n1 (n2.under hbw3) (HHJ.out _ _ _ _ _ hjj hbz hu f5) (f5.ups hu hbz) (Nat.le_trans hbz f5.size) (HB0.out.trans hbw3) f6 n4 n5)
    have HBW3 := Lib.hid hbw3
    have HSZ := Lib.hid (Nat.le_trans hbz f5.size)
    rw [HPL.out] at f1 f2 f4 HC2 HBW3 HSZ
    have g0 : w7.cell? ⟨b, 0, none⟩ = some (.slice Ap m cp) := by rw [Lib.cell_of_heap f3]; rfl
    have g1 := Lib.frozen_of_heap f3 0
    have k0 := Lib.cell_of_heap f4 0
    have k1 := Lib.cell_of_heap f4 1
    have k2 := Lib.cell_of_heap f4 2
    have sl := fun W => qkm_ Tryz.underlying56 size_int8 Ap m cp (pl : Int) pl rfl f1 W
    have f9 := Lib.cell?_alloc_some (.cells #[.string K.name, K.pv, K.kv] 27) f0
    clear hjj hpa hu hbz hbw f3 f4 f5 f6 n1 n2 n3 n4 n5 hbw3 HC hjk
    obtain ⟨kn, kpa, kpc, kps, kka, kkc, kks⟩ := K
    simp only [Nd.val, Nd.pv, Nd.kv, Nd.name, Nd.pa, Nd.pc, Nd.props, Nd.ka, Nd.kc, Nd.kids] at HC2 k0 k1 k2 e0 e1 e2 f2 f9
    generalize kks.length = kkl at *
    generalize kps.length = kpl at *
    gi_wp2_with (first
     | (refine in_append rfl _ _ _ _ rfl _ _ rfl rfl f2 ?_)
     | (refine ⟨trivial, rfl, (callsIn_wide.2 HC2.out).mono ?_⟩; rintro e W4 ⟨T4, hu4, hs4, (⟨rfl, hj4, hp4, hb4⟩ | ⟨rfl, q4, hq4, hx4⟩)⟩))
    ·go_roundw
     case rel => exact ⟨j + 1, T4, by omega, by go_num, by rw [HN.out, <- List.append_assoc]; exact hj4, by obtain ⟨s4, h4⟩ := hp4; exact ⟨[j] ++ s4, by rw [<- List.append_assoc]; exact h4⟩, hu4, Nat.le_trans HSZ.out hs4, HBW3.out.trans hb4⟩
     case measure => simp [intOf]; omega
    ·go_ret
     exact ⟨T4, hu4, by have := HBW3.out.size; omega, .inr ⟨rfl, [p] ++ qaf_ (ks.take j) p 0 ++ q4, by simpa using hq4, by simpa using hx4⟩⟩
   ·obtain rfl : j = KL := by omega
    have HEND := Lib.hid (show J Tj (pre ++ qac_ (Nd.mk nm pa pc ps ka kc ks) p) wr from by
     rw [HLAST.out]
     rw [List.take_of_length_le (by rw [HKL.out]; exact Nat.le_refl _)] at hjj
     exact hjj)
    have HU := Lib.hid hu
    have HPA : Hid (∃ s, PAt B Tj wr b l (p ++ s)) := Lib.hid ⟨s, hpa⟩
    have HBW := Lib.hid hbw
    clear hjj hpa hu hbw
    gi_wp2
    go_ret
    exact ⟨Tj, HU.out, HBW.out.size, .inl ⟨rfl, HEND.out, HPA.out, HBW.out⟩⟩
 ·have HTb : Hid (T1 b) := Lib.hid (by obtain ⟨_, _, h, _⟩ := HP1.out; exact h)
  have q : ∀ r o, T1 r -> W2.cell? ⟨r, o, none⟩ = W1.cell? ⟨r, o, none⟩ := fun r o hr => World.cell?_of_block (hk2.same r hr)
  have HS2 : Hid (W2.cell? ⟨b, 0, none⟩ = some (.slice Av p.length cv) /\ W2.cell? ⟨b, 1, none⟩ = some (.func (.yield l) #[] #[]) /\ W2.cell? ⟨g, 0, none⟩ = some (.string nm) /\ W2.cell? ⟨g, 1, none⟩ = some (.slice pa ps.length pc) /\ W2.cell? ⟨g, 2, none⟩ = some (.slice ka ks.length kc)) := Lib.hid (by
   obtain ⟨s0, s1, s2, s3, s4⟩ := HS.out
   exact ⟨(q _ _ HTb.out).trans s0, (q _ _ HTb.out).trans s1, (q _ _ HT1b.out).trans s2, (q _ _ HT1b.out).trans s3, (q _ _ HT1b.out).trans s4⟩)
  have HK2 := Lib.hid hk2
  have HX2 := Lib.hid hx2
  have HPF : Hid (pre ++ [p] <+: qac_ root []) := Lib.hid (by
   obtain ⟨t, ht⟩ := HPRE.out
   rw [qa5_] at ht
   exact ⟨_ ++ t, by rw [<- ht]; simp [Nd.kids]; rfl⟩)
  clear hk2 hx2 q
  dsimp only
  refine hK.out _ _ HS2.out (fun hHeld => ?_)
  clear hK K
  refine tkI 10 hHeld fun _ => ?_
  refine qcg_ (by kernel_rfl) ?_ _
  clear hHeld
  gi_wp2
  go_ret
  exact ⟨T1, HU1.out.more HK2.out.below.size, by have := HS1.out; have := HK2.out.below.size; omega, .inr ⟨rfl, [p], HPF.out, HX2.out⟩⟩
end
end
section
attribute [local go_sem] Oper.semAt_some
def tbox (t : Tr) : Obj := .cells #[.int .u32 t.boot, t.rv, .string t.root.name, t.root.pv, t.root.kv] 29
theorem qk6_ (t : Tr) (w : World) : Calls Tryz.prog 64 #[t.val] w fun e w' => e = .returned (.func (.func 101) #[] #[.pointer (some ⟨w.heap.size, 0, none⟩)]) /\ w' = w.alloc (tbox t) := by
 obtain ⟨boot, ra, rc, rs, ⟨nm, pa, pc, ps, ka, kc, ks⟩⟩ := t
 simp only [tbox, Tr.val, Tr.rv, Nd.val, Nd.pv, Nd.kv, Nd.name, Nd.pa, Nd.pc, Nd.props, Nd.ka, Nd.kc, Nd.kids]
 refine (callsIn_wide (n := 0)).1 ?_
 refine callsIn_of_wp Tryz.func64 rfl trivial ?_ rfl
 simp only [Tryz.ntmps64, List.size_toArray, List.length_cons, List.length_nil, Nat.reduceAdd, Nat.reduceSub, Array.replicate_succ, Array.replicate_zero, List.push_toArray, List.append_toArray, List.nil_append, List.cons_append]
 gi_wp2
 go_ret
 exact ⟨rfl, rfl⟩
theorem qgz_ (t : Tr) (n k : Nat) (w : World) (hin : t.In w n) (hn : n <= w.heap.size) (hk : w.heap[k]? = some (tbox t)) (hh : heftN t.root <= 134217728) :
  Walks Tryz.prog 101 #[.pointer (some ⟨k, 0, none⟩)] n (EncN t.root n) (qac_ t.root []) w := by
 intro l J Jx W hW hJ hJx hY h0
 have hkw : W.heap[k]? = some (tbox t) := (hW.block k (Array.getElem?_eq_some_iff.1 hk).1).trans hk
 obtain ⟨W1, hW1⟩ : ∃ W1, W1 = W.alloc (.cells #[.slice none 0 0, .func (.yield l) #[] #[]] 212) := ⟨_, rfl⟩
 have hs1 : W1.heap.size = W.heap.size + 1 := by rw [hW1]; simp
 have hal : Below W.heap.size W W1 := by rw [hW1]; exact (Below.refl _ W).alloc (Nat.le_refl _) _
 have ht : Turn (fun _ => False) (fun j => False \/ j = W.heap.size) W W1 := Turn.own hal _ (by omega)
 have hu : Ups W.heap.size (fun j => False \/ j = W.heap.size) W1 := ht.ups (fun k h => h.elim) (Nat.le_refl _)
 have hnW : n <= W.heap.size := Nat.le_trans hn hW.size
 have hin1 : t.root.In W1 n := hin.root.under ((hW.mono hn).trans (hal.mono hnW))
 have hp : PAt W.heap.size (fun j => False \/ j = W.heap.size) W1 W.heap.size l [] := ⟨.slice none 0 0, by rw [hW1]; exact heap_alloc_new _ _, .inr rfl, World.ownsRow_nil _ _ _ _, fun k hk => by simp [Value.ownBlock] at hk⟩
 have hf := from_any t.root l n W.heap.size hnW J Jx hJ hJx W (fun T pre x args W1 a b c d e f => hY T pre x args W1 a b c d e f) t.root [] _ [] W1 W.heap.size rfl hin1 (hJ _ _ _ _ _ h0 (Nat.le_refl _) (fun k h => h.elim) ht) hu (by omega) (hal.mono hnW) hp (by simp) (by simp; omega)
 have HF := Lib.hid hf
 have HSZ := Lib.hid hs1
 rw [hW1] at HF
 clear hf hs1 hW1 hal ht hu hin1 hp hY h0 hJ hJx hin hk hW hn hnW hh
 obtain ⟨boot, ra, rc, rs, ⟨nm, pa, pc, ps, ka, kc, ks⟩⟩ := t
 simp only [tbox, Tr.val, Tr.rv, Nd.val, Nd.pv, Nd.kv, Nd.name, Nd.pa, Nd.pc, Nd.props, Nd.ka, Nd.kc, Nd.kids] at HF hkw
 have d0 := Lib.cell?_alloc_some (.cells #[.slice none 0 0, .func (.yield l) #[] #[]] 212) ((Lib.cell_of_heap hkw 2).trans rfl)
 have d1 := Lib.cell?_alloc_some (.cells #[.slice none 0 0, .func (.yield l) #[] #[]] 212) ((Lib.cell_of_heap hkw 3).trans rfl)
 have d2 := Lib.cell?_alloc_some (.cells #[.slice none 0 0, .func (.yield l) #[] #[]] 212) ((Lib.cell_of_heap hkw 4).trans rfl)
 clear hkw
 refine (callsIn_wide (n := 0)).1 ?_
 refine callsIn_of_wp Tryz.func101 rfl trivial ?_ rfl
 simp only [Tryz.ntmps101, List.size_toArray, List.length_cons, List.length_nil, Nat.reduceAdd, Nat.reduceSub, Array.replicate_succ, Array.replicate_zero, List.push_toArray, List.append_toArray, List.nil_append, List.cons_append]
 gi_wp2_with (refine ⟨trivial, rfl, (callsIn_wide.2 HF.out).mono ?_⟩; rintro e W4 ⟨T4, hu4, hs4, (⟨rfl, hj4, _, _⟩ | ⟨rfl, q4, hq4, hx4⟩)⟩)
 ·go_end0
  refine ⟨⟨_, rfl⟩, T4, hu4, ?_, .inl (by simpa using hj4)⟩
  have := HSZ.out
  simp at hs4
  omega
 ·go_end0
  refine ⟨⟨_, rfl⟩, T4, hu4, ?_, .inr ⟨q4, by simpa using hq4, by simpa using hx4⟩⟩
  have := HSZ.out
  simp at hs4
  omega
end
section
attribute [local go_sem] Oper.semAt_some
def hOf (root : Nd) (p : List Nat) : Option (Int × List Nat) :=
 match qaj_ root p with
 | some x => if (oneV x qas_).2.1 = true then some ((oneV x qas_).1, p) else none
 | none => none
def EncH (W : World) (r : Int × List Nat) (args : Array Value) : Prop :=
 ∃ A c, args = #[.slice A r.2.length c, .int .u32 r.1] /\ Cel W W.heap.size A r.2.length (ints r.2) /\ r.2.length <= c /\ c <= 9223372036854775807 /\ 0 <= r.1 /\ r.1 <= 4294967295
theorem hOf_at {root x : Nd} {p : List Nat} (h : qaj_ root p = some x) : hOf root p = if (oneV x qas_).2.1 = true then some ((oneV x qas_).1, p) else none := by
 unfold hOf
 rw [h]
theorem hand_snoc {root : Nd} {pre : List (List Nat)} {p : List Nat} : (pre ++ [p]).filterMap (hOf root) = pre.filterMap (hOf root) ++ (hOf root p).toList := by
 rw [List.filterMap_append]
 congr 1
theorem qg1_ {root : Nd} {q es : List (List Nat)} (h : q <+: es) : q.filterMap (hOf root) <+: es.filterMap (hOf root) := by
 obtain ⟨t, rfl⟩ := h
 exact ⟨t.filterMap (hOf root), by rw [List.filterMap_append]⟩
theorem qhc_ (t : Tr) (w : World) : Calls Tryz.prog 40 #[t.val] w fun e w' => e = .returned (.func (.func 66) #[] #[.pointer (some ⟨w.heap.size, 0, none⟩)]) /\ w' = w.alloc (tbox t) := by
 obtain ⟨boot, ra, rc, rs, ⟨nm, pa, pc, ps, ka, kc, ks⟩⟩ := t
 simp only [tbox, Tr.val, Tr.rv, Nd.val, Nd.pv, Nd.kv, Nd.name, Nd.pa, Nd.pc, Nd.props, Nd.ka, Nd.kc, Nd.kids]
 refine (callsIn_wide (n := 0)).1 ?_
 refine callsIn_of_wp Tryz.func40 rfl trivial ?_ rfl
 simp only [Tryz.ntmps40, List.size_toArray, List.length_cons, List.length_nil, Nat.reduceAdd, Nat.reduceSub, Array.replicate_succ, Array.replicate_zero, List.push_toArray, List.append_toArray, List.nil_append, List.cons_append]
 gi_wp2
 go_ret
 exact ⟨rfl, rfl⟩
theorem qfa_ (t : Tr) (n k : Nat) (w : World) (hin : t.In w n) (hn : n <= w.heap.size) (hk : w.heap[k]? = some (tbox t)) (hh : heftN t.root <= 134217728) :
  Walks Tryz.prog 66 #[.pointer (some ⟨k, 0, none⟩)] n EncH ((qac_ t.root []).filterMap (hOf t.root)) w := by
 intro l J Jx W hW hJ hJx hY h0
 have hkw : W.heap[k]? = some (tbox t) := (hW.block k (Array.getElem?_eq_some_iff.1 hk).1).trans hk
 have hnW : n <= W.heap.size := Nat.le_trans hn hW.size
 obtain ⟨Wa, hWa⟩ : ∃ Wa, Wa = W.alloc (.cells #[.func (.yield l) #[] #[]] 153) := ⟨_, rfl⟩
 have hsa : Wa.heap.size = W.heap.size + 1 := by rw [hWa]; simp
 have hal : Below W.heap.size W Wa := by rw [hWa]; exact (Below.refl _ W).alloc (Nat.le_refl _) _
 have hya : Wa.heap[W.heap.size]? = some (.cells #[.func (.yield l) #[] #[]] 153 (0, 0)) := by rw [hWa]; exact heap_alloc_new _ _
 obtain ⟨Wb, hWb⟩ : ∃ Wb, Wb = Wa.alloc (tbox t) := ⟨_, rfl⟩
 have hsb : Wb.heap.size = W.heap.size + 2 := by rw [hWb]; simp [hsa]
 have hab : Below Wa.heap.size Wa Wb := by rw [hWb]; exact (Below.refl _ Wa).alloc (Nat.le_refl _) _
 have hbb : Below W.heap.size W Wb := hal.trans (hab.mono (by omega))
 have hyb : Wb.heap[W.heap.size]? = some (.cells #[.func (.yield l) #[] #[]] 153 (0, 0)) := (hab.block _ (by omega)).trans hya
 have hbx : Wb.heap[W.heap.size + 1]? = some (tbox t) := by rw [hWb, <- hsa]; exact heap_alloc_new _ _
 have htb : Turn (fun _ => False) (fun j => False \/ j = W.heap.size) W Wb := Turn.own hbb _ (by omega)
 have hinb : t.In Wb n := hin.under ((hW.mono hn).trans (hbb.mono hnW))
 have hNW := Lib.hid (qgz_ t n (W.heap.size + 1) Wb hinb (by omega) hbx hh)
 have HNA : Hid (Calls Tryz.prog 64 #[t.val] Wa fun e w' => e = .returned (.func (.func 101) #[] #[.pointer (some ⟨W.heap.size + 1, 0, none⟩)]) /\ w' = Wb) := Lib.hid (by have h := qk6_ t Wa; rw [hsa, <- hWb] at h; exact h)
 have HN := Lib.hid (show n <= Wb.heap.size by omega)
 have HNW := Lib.hid hnW
 have HSB := Lib.hid hsb
 have HYB := Lib.hid hyb
 have HBB := Lib.hid hbb
 have HUB := Lib.hid (htb.ups (B := W.heap.size) (fun k h => h.elim) (Nat.le_refl _))
 have HJB := Lib.hid (hJ _ _ _ _ _ h0 (Nat.le_refl _) (fun k h => h.elim) htb)
 have HY := Lib.hid hY
 have HJ := Lib.hid hJ
 have HJX := Lib.hid hJx
 have HH := Lib.hid hh
 obtain ⟨es, hes⟩ : ∃ es, qac_ t.root [] = es := ⟨_, rfl⟩
 rw [hes] at hNW HY ⊢
 have HSA := Lib.hid hsa
 have d0 := Lib.cell?_alloc_some (.cells #[.func (.yield l) #[] #[]] 153) ((Lib.cell_of_heap hkw 0).trans rfl)
 have d1 := Lib.cell?_alloc_some (.cells #[.func (.yield l) #[] #[]] 153) ((Lib.cell_of_heap hkw 1).trans rfl)
 have d2 := Lib.cell?_alloc_some (.cells #[.func (.yield l) #[] #[]] 153) ((Lib.cell_of_heap hkw 2).trans rfl)
 have d3 := Lib.cell?_alloc_some (.cells #[.func (.yield l) #[] #[]] 153) ((Lib.cell_of_heap hkw 3).trans rfl)
 have d4 := Lib.cell?_alloc_some (.cells #[.func (.yield l) #[] #[]] 153) ((Lib.cell_of_heap hkw 4).trans rfl)
 have HRT : Hid (∃ R, R = t.root) := Lib.hid ⟨_, rfl⟩
 obtain ⟨R, hR⟩ := HRT.out
 rw [<- hR] at hNW HY HH ⊢
 clear hWb hes hY hJ hJx hh hin hn hk hW h0 hal hya hab hbb hyb hbx htb hinb hnW hkw hsb HRT
 obtain ⟨boot, ra, rc, rs, ⟨nm, pa, pc, ps, ka, kc, ks⟩⟩ := t
 simp only [tbox, Tr.val, Tr.rv, Nd.val, Nd.pv, Nd.kv, Nd.name, Nd.pa, Nd.pc, Nd.props, Nd.ka, Nd.kc, Nd.kids] at HNA d0 d1 d2 d3 d4
 rw [hWa] at HNA
 clear hR
 refine (callsIn_wide (n := 0)).1 ?_
 refine callsIn_of_wp_marks Tryz.func66 rfl trivial ?_ rfl
 simp only [Tryz.ntmps66, List.size_toArray, List.length_cons, List.length_nil, Nat.reduceAdd, Nat.reduceSub, Array.replicate_succ, Array.replicate_zero, List.push_toArray, List.append_toArray, List.nil_append, List.cons_append]
 gi_wp2_with (refine ⟨trivial, rfl, (callsIn_wide.2 HNA.out).mono ?_⟩; rintro e W4 ⟨rfl, hW4⟩)
 clear hW4 HNA d0 d1 d2 d3 d4 W4
 refine qb9_ (gf := 101) (lb := #[.pointer (some ⟨W.heap.size + 1, 0, none⟩)]) rfl (enters_of Tryz.func101 (by kernel_rfl) rfl) hNW.out (Below.refl _ _) HN.out (fun Wx p args h => by obtain ⟨A, c, nd, rfl, _⟩ := h; rfl) W.heap.size HBB.out.size (fun j => False \/ j = W.heap.size) HUB.out
  (fun M pre Wx => J M (pre.filterMap (hOf R)) Wx /\ Wx.heap[W.heap.size]? = some (.cells #[.func (.yield l) #[] #[]] 153 (0, 0))) (fun c M pre Wx => c = .ret /\ Jx M (pre.filterMap (hOf R)) Wx)
  (fun T T' s A C hs hB hT ht hst => ⟨HJ.out _ _ _ _ _ hs.1 hB hT ht, (hst _ (.inr rfl)).trans hs.2⟩) (fun c T T' s A C hs hB hT ht hst => ⟨hs.1, HJX.out _ _ _ _ _ hs.2 hB hT ht⟩) ⟨HJB.out, HYB.out⟩ ?round ?done ?stop
 case round =>
  rintro l2 M pre p args Wr hM hu hsz hbn ⟨hj, hyx⟩ ⟨A, c, nd, rfl, hat, hcel, hc1, hc2, hndin⟩ hpre
  have hWsz : W.heap.size <= Wr.heap.size := Nat.le_trans HBB.out.size hsz
  have hMy : M W.heap.size := hM _ (.inr rfl)
  have hout := hOf_at hat
  have hsn : (pre ++ [p]).filterMap (hOf R) = pre.filterMap (hOf R) ++ (hOf R p).toList := hand_snoc
  have hpx : (pre ++ [p]).filterMap (hOf R) <+: es.filterMap (hOf R) := qg1_ hpre
  rw [hout] at hsn
  have hrg := qcd_ hndin qas_
  obtain ⟨hv, fl, er, hov⟩ : ∃ hv fl er, oneV nd qas_ = (hv, fl, er) := ⟨_, _, _, rfl⟩
  rw [hov] at hsn hrg
  -- the node's box of this round
  obtain ⟨Wc, hWc⟩ : ∃ Wc, Wc = Wr.alloc (.cells #[.string nd.name, nd.pv, nd.kv] 27) := ⟨_, rfl⟩
  have hcs : Wc.heap.size = Wr.heap.size + 1 := by rw [hWc]; simp
  have hbc : Below Wr.heap.size Wr Wc := by rw [hWc]; exact (Below.refl _ _).alloc (Nat.le_refl _) _
  have hcn : Wc.heap[Wr.heap.size]? = some (.cells #[.string nd.name, nd.pv, nd.kv] 27 (0, 0)) := by rw [hWc]; exact heap_alloc_new _ _
  have huc : Ups W.heap.size M Wc := hu.more (by omega)
  have hjc : J M (pre.filterMap (hOf R)) Wc := HJ.out _ _ _ _ _ hj hWsz hu (Turn.of_below hbc)
  have hyc : Wc.heap[W.heap.size]? = some (.cells #[.func (.yield l) #[] #[]] 153 (0, 0)) := (hbc.block _ (hu _ hMy).2).trans hyx
  have hkc : Kp n M Wr Wc := Kp.of_below hbc (Nat.le_trans HNW.out hWsz) hu
  have HIC := Lib.hid (And.intro hjc hyc)
  have HKC := Lib.hid hkc
  have HMY := Lib.hid hMy
  have HSN := Lib.hid hsn
  have HPX := Lib.hid hpx
  have HRG := Lib.hid hrg
  have HUC := Lib.hid huc
  have HCS := Lib.hid hcs
  have HCN := Lib.hid hcn
  have HWS := Lib.hid hWsz
  have HC12 := Lib.hid (And.intro hc1 hc2)
  have HCEL := Lib.hid ((hcel.below hbc).more (B' := Wc.heap.size) (by omega))
  have HBN : Hid (Below n Wb Wc) := Lib.hid (hbn.trans hkc.below)
  have HNI := Lib.hid (hndin.under hkc.below)
  have HONE := Lib.hid (fun Wx (h : nd.In Wx Wx.heap.size) => oneOK nd ⟨#[112, 104, 97, 110, 100, 108, 101]⟩ Wx h (by decide))
  have HOV : Hid (oneV nd ⟨#[112, 104, 97, 110, 100, 108, 101]⟩ = (hv, fl, er)) := Lib.hid hov
  clear hj hyx hat hcel hc1 hc2 hndin hpre hout hsn hpx hrg hov hcs hbc hcn huc hjc hyc hkc hMy hWsz hsz hu hbn hM
  obtain ⟨xn, xpa, xpc, xps, xka, xkc, xks⟩ := nd
  simp only [Nd.val, Nd.pv, Nd.kv, Nd.name, Nd.pa, Nd.pc, Nd.props, Nd.ka, Nd.kc, Nd.kids] at hWc HCN HONE ⊢
  gi_wp2
  rw [<- hWc]
  refine ⟨HIC.out, HKC.out, ?_⟩
  clear hWc
  intro W2 hj2 hy2 ht2 hcl2 hfz2
  have hW2s : Wc.heap.size <= W2.heap.size := ht2.size
  have hWc2 : W.heap.size <= Wc.heap.size := by have := HWS.out; have := HCS.out; omega
  have hin2 := (HNI.out.keep (w' := W2) (fun a _ => hcl2 a)).more (B' := W2.heap.size) (by have := HNW.out; omega)
  have HC := Lib.hid (HONE.out W2 hin2)
  have HU2 := Lib.hid (ht2.ups HUC.out hWc2)
  have HB2 : Hid (Below n Wb W2) := Lib.hid (HBN.out.trans ((ht2.below HUC.out hWc2).mono HNW.out))
  have HCEL2 := Lib.hid ((HCEL.out.keep (w' := W2) (fun a _ => hcl2 a)).more hW2s)
  have HJ2 := Lib.hid hj2
  have HY2 := Lib.hid hy2
  have HS2 : Hid (W.heap.size <= W2.heap.size) := Lib.hid (by omega)
  have b0 := (hcl2 ⟨Wr.heap.size, 0, none⟩).trans (Lib.cell_of_heap HCN.out 0)
  have b1 := (hcl2 ⟨Wr.heap.size, 1, none⟩).trans (Lib.cell_of_heap HCN.out 1)
  have b2 := (hcl2 ⟨Wr.heap.size, 2, none⟩).trans (Lib.cell_of_heap HCN.out 2)
  have e0 : (#[Value.string xn, .slice xpa xps.length xpc, .slice xka xks.length xkc] : Array Value)[0]? = some (.string xn) := rfl
  have e1 : (#[Value.string xn, .slice xpa xps.length xpc, .slice xka xks.length xkc] : Array Value)[1]? = some (.slice xpa xps.length xpc) := rfl
  have e2 : (#[Value.string xn, .slice xpa xps.length xpc, .slice xka xks.length xkc] : Array Value)[2]? = some (.slice xka xks.length xkc) := rfl
  rw [e0] at b0
  rw [e1] at b1
  rw [e2] at b2
  have hov := HOV.out
  obtain ⟨O, hO⟩ : ∃ O, oneV (Nd.mk xn xpa xpc xps xka xkc xks) ⟨#[112, 104, 97, 110, 100, 108, 101]⟩ = O := ⟨_, rfl⟩
  rw [hO] at HC hov
  subst hov
  clear hO HOV HONE
  simp only [qfz_] at HC
  clear e0 e1 e2 hj2 hy2 ht2 hcl2 hfz2 hin2 hWc2 hW2s
  cases fl
  ·gi_wp2_with (refine ⟨trivial, rfl, (CallsIn.inRound l2 (callsIn_wide.2 HC.out)).mono ?_⟩; rintro e W3 ⟨rfl, hb3⟩)
   have HB3 := Lib.hid hb3
   have HJ3 := Lib.hid (HJ.out _ _ _ _ _ HJ2.out HS2.out HU2.out (Turn.of_below hb3))
   have HY3 : Hid (W3.heap[W.heap.size]? = some (.cells #[.func (.yield l) #[] #[]] 153 (0, 0))) := Lib.hid ((hb3.block _ (Array.getElem?_eq_some_iff.1 HY2.out).1).trans HY2.out)
   have HK3 := Lib.hid (Kp.of_below hb3 (Nat.le_trans HNW.out HS2.out) HU2.out)
   have HSN2 := HSN.out
   simp only [Bool.false_eq_true, ↓reduceIte, Option.toList_none, List.append_nil] at HSN2
   have HSN3 := Lib.hid HSN2
   clear HSN2 b0 b1 b2 hb3
   refine ⟨fun _ h => (by cases h), ?_⟩
   gi_wp2
   exact ⟨HK3.out, by rw [HSN3.out]; exact HJ3.out, HY3.out⟩
  ·have HSN2 := HSN.out
   have HPX2 := HPX.out
   rw [HSN2] at HPX2
   simp only [↓reduceIte, Option.toList_some] at HSN2 HPX2
   have HSN3 := Lib.hid HSN2
   have HPX3 := Lib.hid HPX2
   have HC2 : Hid (Calls Tryz.prog 65 #[.agg #[.string xn, .slice xpa xps.length xpc, .slice xka xks.length xkc], .string ⟨#[112, 104, 97, 110, 100, 108, 101]⟩] W2 fun e W3 => ∃ fn tmps asg bd, e = .returned (.tuple #[.int .u32 hv, .bool true, .int .i64 er]) /\ Below W2.heap.size W2 W3 /\ W3.cell? ⟨W.heap.size, 0, none⟩ = some (.func (.yield l) #[] #[]) /\ (Instr.yield l #[.slice A p.length c, .int .u32 hv]).run Tryz.prog W3 = .ok (.round l fn tmps asg bd) W3 /\
     Hid (RoundIn Fence.wide 0 Tryz.prog l fn tmps asg bd W3 fun e W' => Kp n M W3 W' /\ ((e = .returned (.bool true) /\ J M (pre.filterMap (hOf R) ++ [(hv, p)]) W') \/ (e = .returned (.bool false) /\ Jx M (pre.filterMap (hOf R) ++ [(hv, p)]) W')))) := Lib.hid (HC.out.mono (by
    rintro e W3 ⟨rfl, hb3⟩
    have hj3 := HJ.out _ _ _ _ _ HJ2.out HS2.out HU2.out (Turn.of_below hb3)
    have hn3 := HNW.out
    have hs3 := HS2.out
    obtain ⟨fn, tmps, asg, bd, h1, h2⟩ := HY.out M (pre.filterMap (hOf R)) (hv, p) #[.slice A p.length c, .int .u32 hv] W3 hj3 (HU2.out.more hb3.size) (Nat.le_trans HS2.out hb3.size) (((HBB.out.mono HNW.out).trans HB2.out).trans (hb3.mono (by omega))) ⟨A, c, rfl, HCEL2.out.on hb3, HC12.out.1, HC12.out.2, HRG.out.1, HRG.out.2⟩ HPX3.out
    exact ⟨fn, tmps, asg, bd, rfl, hb3, (hb3.cell (p := ⟨W.heap.size, 0, none⟩) (Array.getElem?_eq_some_iff.1 HY2.out).1).trans (by rw [Lib.cell_of_heap HY2.out]; rfl), h1, Lib.hid h2⟩))
   clear HSN2 HPX2 HC
   gi_wp2_with (first
    | (refine ⟨trivial, rfl, (CallsIn.inRound l2 (callsIn_wide.2 HC2.out)).mono ?_⟩; clear HC2; rintro e W3 ⟨fn, tmps, asg, bd, rfl, hb3, y3, hyr, hR⟩)
    | (refine ⟨rfl, RoundIn.mono (F := Fence.wide.inRound l2) hR.out ?_⟩; clear hR hyr; rintro e W4 ⟨hk4, (⟨rfl, hj4⟩ | ⟨rfl, hx4⟩)⟩))
   ·exact ⟨(Kp.of_below hb3 (Nat.le_trans HNW.out HS2.out) HU2.out).trans hk4, by rw [HSN3.out]; exact hj4, (hk4.same _ HMY.out).trans ((hb3.block _ (Array.getElem?_eq_some_iff.1 HY2.out).1).trans HY2.out)⟩
   ·exact ⟨(Kp.of_below hb3 (Nat.le_trans HNW.out HS2.out) HU2.out).trans hk4, rfl, by rw [HSN3.out]; exact hx4⟩
 case done =>
  rintro D M Wd hM hu hsz hD ⟨hj, _⟩ hd
  have HF := Lib.hid (HJ.out _ _ _ _ _ hj (Nat.le_trans HBB.out.size hsz) hu (Turn.putObj Wd hD (.deferred none)))
  have HU : Hid (Ups W.heap.size M (Wd.putObj D (.deferred none))) := Lib.hid (hu.more (by simp))
  have HS : Hid (W.heap.size <= (Wd.putObj D (.deferred none)).heap.size) := Lib.hid (by have := HBB.out.size; simp; omega)
  gi_wp2
  refine ⟨by simp, .inl ⟨_, _, rfl, run_takeDeferred hd, ?_⟩⟩
  exact ⟨_, results_none rfl _ _ _, ⟨_, rfl⟩, M, HU.out, HS.out, .inl HF.out⟩
 case stop =>
  rintro D c M pre Wd hM hu hsz hD hpre ⟨rfl, hx⟩ hd
  have HF := Lib.hid (HJX.out _ _ _ _ _ hx (Nat.le_trans HBB.out.size hsz) hu (Turn.putObj Wd hD (.deferred none)))
  have HU : Hid (Ups W.heap.size M (Wd.putObj D (.deferred none))) := Lib.hid (hu.more (by simp))
  have HS : Hid (W.heap.size <= (Wd.putObj D (.deferred none)).heap.size) := Lib.hid (by have := HBB.out.size; simp; omega)
  gi_wp2
  refine ⟨by simp, .inl ⟨_, _, rfl, run_takeDeferred hd, ?_⟩⟩
  exact ⟨_, results_none rfl _ _ _, ⟨_, rfl⟩, M, HU.out, HS.out, .inr ⟨_, qg1_ hpre, HF.out⟩⟩
end
end Go.Proofs.YtcfinbapfhhpgaaGreatDoor
