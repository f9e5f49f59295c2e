/-
  Iter, part 8.
-/
import Derived.Test.YtcfinbapfhhpgaaGreatDoorIter7
namespace Go.Proofs.YtcfinbapfhhpgaaGreatDoor
open Go.RowKit
set_option linter.unusedVariables false
set_option linter.unusedSimpArgs false
set_option maxRecDepth 20000
set_option maxHeartbeats 16000000
section
attribute [local go_sem] Oper.semAt_some
theorem pre_len {m j : Nat} {pre : List Nat} (h : pre ++ [j] <+: List.range m) : pre.length = j /\ j < m := by
 obtain ⟨t, ht⟩ := h
 have h1 : (List.range m)[pre.length]? = some j := by rw [<- ht]; simp
 have h2 : pre.length < m := by
  have := congrArg List.length ht
  simp at this
  omega
 rw [List.getElem?_range h2] at h1
 have h3 := Option.some.inj h1
 omega
theorem qou_ {F : Fence} {n : Nat} {P : Program} {w w' : World} {o : Oper} {a : Act} {K : Act -> World -> Prop} {Q : Exit -> Act -> World -> Prop} {t u : TypeId} (s x : Operand) (ho : o.op = .call { callee := .builtin .append, args := #[s, x], argTypes := #[t, u] })
  (y z : Value) (hs : a.eval s = y) (hx : a.eval x = z) {v : Value} (hr : (Builtin.append_ #[t, u] o.type #[y, z]).run P w = .ok v w') (hK : K (a.put o.dst v) w') : o.wpIn F n P a w K Q := by
 unfold Oper.wpIn
 refine ⟨?_, ?_⟩
 ·simp [Oper.about, ho, resolve, Target.leads, Sem.run_pure]
 ·rw [Oper.semAt_plain F _ _ (by rw [ho]; intro c hc'; cases hc')]
  simp only [execOp, ho, resolve, invoke, builtin, Sem.run_bind, Sem.run_pure, Result.andThen_ok, List.map_toArray, List.map_cons, List.map_nil, hs, hx, hr]
  exact hK
def PBox (g r : Nat) (W : World) : Prop := W.heap[g]? = some (.cells #[.pointer (some ⟨r, 0, none⟩)] 218 (0, 0)) /\ W.heap[g + 1]? = some (.cells #[.slice none 0 0] 162 (0, 0)) /\ W.heap[g + 2]? = some (.cells #[.int .i64 0] 32 (0, 0))
theorem PBox.on {g r : Nat} {W W' : World} (h : PBox g r W) (k : Below (g + 3) W W') : PBox g r W' := ⟨(k.block _ (by omega)).trans h.1, (k.block _ (by omega)).trans h.2.1, (k.block _ (by omega)).trans h.2.2⟩
theorem qfh_ {W : World} {g : Nat} {v0 v1 : Value} {T U : TypeId} (h1 : W.heap[g + 1]? = some (.cells #[v0] T (0, 0))) (h2 : W.heap[g + 2]? = some (.cells #[v1] U (0, 0))) (u0 u1 : Value) :
  ((W.setCell ⟨g + 1, 0, none⟩ u0).setCell ⟨g + 2, 0, none⟩ u1).heap[g + 1]? = some (.cells #[u0] T (0, 0)) /\ ((W.setCell ⟨g + 1, 0, none⟩ u0).setCell ⟨g + 2, 0, none⟩ u1).heap[g + 2]? = some (.cells #[u1] U (0, 0)) /\
  (∀ k, k ≠ g + 1 -> k ≠ g + 2 -> ((W.setCell ⟨g + 1, 0, none⟩ u0).setCell ⟨g + 2, 0, none⟩ u1).heap[k]? = W.heap[k]?) /\ ((W.setCell ⟨g + 1, 0, none⟩ u0).setCell ⟨g + 2, 0, none⟩ u1).heap.size = W.heap.size /\ Below (g + 1) W ((W.setCell ⟨g + 1, 0, none⟩ u0).setCell ⟨g + 2, 0, none⟩ u1) := by
 refine ⟨?_, ?_, fun k k1 k2 => ?_, by simp [World.setCell], ((Below.refl _ _).setCell (p := ⟨g + 1, 0, none⟩) (Nat.le_refl _) _).setCell (p := ⟨g + 2, 0, none⟩) (by show g + 1 <= g + 2; omega) _⟩
 ·rw [Below.heap_setCell _ _ _ _ (by show g + 1 ≠ g + 2; omega)]
  simp [World.setCell, Array.getElem?_modify, h1]
 ·have e : (W.setCell ⟨g + 1, 0, none⟩ u0).heap[g + 2]? = some (.cells #[v1] U (0, 0)) := (Below.heap_setCell _ _ _ _ (by show g + 2 ≠ g + 1; omega)).trans h2
  simp [World.setCell, Array.getElem?_modify] at e ⊢
  simp [e]
 ·rw [Below.heap_setCell _ _ _ _ (by show k ≠ g + 2; exact k2), Below.heap_setCell _ _ _ _ (by show k ≠ g + 1; exact k1)]
theorem RdF.ty {w w' : World} {B r : Nat} {t : Tr} {D : Nat -> Prop} (h : RdF w B r t D) (hs : Sp w w') (hr : w'.heap[r]? = w.heap[r]?) (hm : ∀ (j : Nat) (es : Array MapEntry) (cl : Nat), w.heap[j]? = some (Obj.map es cl) -> w'.heap[j]? = w.heap[j]?) : RdF w' B r t D := by
 obtain ⟨h0, own, er, h1, h2⟩ := h
 refine ⟨h0, own, er, hr.trans h1, fun g hg => ?_⟩
 obtain ⟨h3, he, h4⟩ := h2 g hg
 obtain ⟨es, cl, h5⟩ := h4.heap
 exact ⟨h3, he, h4.sp (hm g es cl h5) hs⟩
theorem pres_ty {W W' : World} {g : Nat} {v0 v1 : Value} (h1 : W.heap[g + 1]? = some (.cells #[v0] 162 (0, 0))) (h2 : W.heap[g + 2]? = some (.cells #[v1] 32 (0, 0))) (ro : ∀ k, k ≠ g + 1 -> k ≠ g + 2 -> W'.heap[k]? = W.heap[k]?) : Sp W W' /\ ∀ (j : Nat) (es : Array MapEntry) (cl : Nat), W.heap[j]? = some (Obj.map es cl) -> W'.heap[j]? = W.heap[j]? := by
 refine ⟨fun j c e => ro j (fun q => ?_) (fun q => ?_), fun j es cl e => ro j (fun q => by rw [q, h1] at e; cases e) (fun q => by rw [q, h2] at e; cases e)⟩
 ·rw [q, h1] at e
  simp only [Option.some.injEq, Obj.cells.injEq] at e
  exact absurd e.2.1 (by decide)
 ·rw [q, h2] at e
  simp only [Option.some.injEq, Obj.cells.injEq] at e
  exact absurd e.2.1 (by decide)
def PI (t : Tr) (B r g gm : Nat) (L : List Int) (w W7 : World) (Mk : Nat -> Prop) (n : Nat) (Wx : World) : Prop := ∃ (ws : List (List Nat × Int)) (xs : List WireR) (v : Value), qbv_ t.root L n = .ok ws /\ xs.length = n /\ Wx.heap[gm]? = some (.cells #[v] 162 (0, 0)) /\ WRow Wx g v xs /\ (∀ j, v.ownBlock = some j -> ¬ Mk j /\ gm + 3 <= j) /\
 Wires Wx t.root (fun k => ¬ Mk k) xs ws /\ RdF Wx B r t (fun k => ¬ Mk k) /\ Tn B r w Wx /\ (∀ k, k < gm + 3 -> k ≠ r -> k ≠ gm -> Wx.heap[k]? = W7.heap[k]?) /\ gm + 3 <= Wx.heap.size
def PFin (t : Tr) (B r g gm : Nat) (L : List Int) (m : Nat) (w : World) (Mk : Nat -> Prop) (Wx : World) : Prop := ∃ er : Int, qbv_ t.root L m = .error er /\ Wx.heap[g + 1]? = some (.cells #[.slice none 0 0] 162 (0, 0)) /\ Wx.heap[g + 2]? = some (.cells #[.int .i64 er] 32 (0, 0)) /\ RdF Wx B r t (fun k => ¬ Mk k) /\ Tn B r w Wx /\ gm + 3 <= Wx.heap.size
section
variable {t : Tr} {B r g gm n m : Nat} {L : List Int} {w W7 W W' : World} {T T' : Nat -> Prop}
theorem qo9_ (ht : Turn T T' W W') : (∀ j, ¬ T j -> j < W.heap.size -> ¬ T' j) /\ ∀ j, ¬ T j -> j < W.heap.size -> W'.heap[j]? = W.heap[j]? :=
 ⟨fun j hj hl h => (ht.fresh j h).elim hj (fun h => by omega), fun j hj hl => ht.same j hl hj⟩
theorem PI.turn (h : PI t B r g gm L w W7 T n W) (ht : Turn T T' W W') (hT : Ups (gm + 3) T W) (hB : gm + 3 <= W.heap.size) (hr : r < gm) (hBg : B <= gm) (hw : w.heap.size <= gm) : PI t B r g gm L w W7 T' n W' := by
 obtain ⟨ws, xs, v, h1, h1', h2, h3, h4, h5, h6, h7, h8, h9⟩ := h
 have nt : ∀ k, k < gm + 3 -> ¬ T k := fun k hk h => by have := (hT k h).1; omega
 have st : ∀ k, k < gm + 3 -> W'.heap[k]? = W.heap[k]? := fun k hk => ht.same k (Nat.lt_of_lt_of_le hk hB) (nt k hk)
 obtain ⟨hs, hk⟩ := qo9_ ht
 refine ⟨ws, xs, v, h1, h1', (st _ (by omega)).trans h2, h3.keep (fun j e => hk j (h4 j e).1 (h3.lt j e).2), fun j e => ⟨hs j (h4 j e).1 (h3.lt j e).2, (h4 j e).2⟩, h5.keep hs hk, h6.keep hs (fun j hj hl => hj.elim (fun e => by rw [e]; exact st r (by omega)) (fun hj => hk j hj hl)),
  ⟨h7.below.trans ((ht.below hT hB).mono (by omega)), fun k hk' hkr => (st k (by omega)).trans (h7.same k hk' hkr)⟩, fun k h10 h11 h12 => (st k h10).trans (h8 k h10 h11 h12), Nat.le_trans h9 ht.size⟩
theorem PFin.turn (h : PFin t B r g gm L m w T W) (ht : Turn T T' W W') (hT : Ups (gm + 3) T W) (hB : gm + 3 <= W.heap.size) (hr : r < gm) (hBg : B <= gm) (hw : w.heap.size <= gm) (hg : g + 3 <= gm) : PFin t B r g gm L m w T' W' := by
 obtain ⟨er, h1, h2, h3, h6, h7, h9⟩ := h
 have nt : ∀ k, k < gm + 3 -> ¬ T k := fun k hk h => by have := (hT k h).1; omega
 have st : ∀ k, k < gm + 3 -> W'.heap[k]? = W.heap[k]? := fun k hk => ht.same k (Nat.lt_of_lt_of_le hk hB) (nt k hk)
 obtain ⟨hs, hk⟩ := qo9_ ht
 exact ⟨er, h1, (st _ (by omega)).trans h2, (st _ (by omega)).trans h3, h6.keep hs (fun j hj hl => hj.elim (fun e => by rw [e]; exact st r (by omega)) (fun hj => hk j hj hl)),
  ⟨h7.below.trans ((ht.below hT hB).mono (by omega)), fun k hk' hkr => (st k (by omega)).trans (h7.same k hk' hkr)⟩, Nat.le_trans h9 ht.size⟩
theorem PI.step (h : PI t B r g gm L w W7 T n W) {W4 : World} {b : Nat} {z : List Nat} {x : Nd} {l : Int} {h0 : Int} (hd0 : L.getD (n * 2) 0 = h0) (hd1 : L.getD (n * 2 + 1) 0 = l) (hih : qbo_ t.root h0 = .ok z) (hs : Spot W4 t.root (fun k => ¬ T k \/ W.heap.size <= k) b z x) (hrd : RdF W4 B r t (fun k => ¬ T k \/ W.heap.size <= k)) (htn : Tn B r W W4)
  (hT : Ups (gm + 3) T W) (hr : r < g) (hB : B <= g) (hg : g + 3 <= gm) (hw : w.heap.size = g) (hn : n <= 134217728) :
  ∃ Av cv A' c' w5, W4.heap[gm]? = some (.cells #[.slice Av n cv] 162 (0, 0)) /\ (Builtin.append_ #[162, 162] 162 #[.slice Av n cv, .slice (some ⟨W4.heap.size, 0, none⟩) 1 1]).run Tryz.prog (W4.drew.alloc (.cells #[.pointer (some ⟨b, 0, none⟩), .int .u32 l] 227)) = .ok (.slice A' (n + 1) c') w5 /\
   w5.heap[gm]? = some (.cells #[.slice Av n cv] 162 (0, 0)) /\ (∀ k, k < gm -> w5.heap[k]? = W4.heap[k]?) /\ Kp B T W (w5.setCell ⟨gm, 0, none⟩ (.slice A' (n + 1) c')) /\ PI t B r g gm L w W7 T (n + 1) (w5.setCell ⟨gm, 0, none⟩ (.slice A' (n + 1) c')) := by
 obtain ⟨ws, xs, v, p1, p1', p2, p3, p4, p5, p6, p7, p8, p9⟩ := h
 subst p1'
 have hsz4 := htn.below.size
 have hgm4 : W4.heap[gm]? = _ := (htn.same gm (by omega) (by omega)).trans p2
 have hv4 : ∀ j, v.ownBlock = some j -> W4.heap[j]? = W.heap[j]? := fun j e => htn.same j (p3.lt j e).2 (fun q => by have := (p4 j e).2; omega)
 have p3' : WRow W4.drew g v xs := p3.keep hv4
 obtain ⟨Av, cv, rfl, _⟩ := qe6_ p3
 obtain ⟨A', c', w5, r5, o5, b5, g5, e5⟩ := qkr_ p3' ⟨b, l⟩ (by omega) (by show g <= W4.heap.size; omega)
 have hlt5 := o5.lt
 have hs5 : W4.heap.size <= w5.heap.size := g5.size
 have hown : ∀ j, (Value.slice A' (xs.length + 1) c').ownBlock = some j -> ¬ T j /\ gm + 3 <= j := fun j hj => by
  rcases e5 with e | e
  ·exact p4 j (e.symm.trans hj)
  ·rw [e] at hj
   have hj := Option.some.inj hj
   have hd : W4.drew.heap.size = W4.heap.size := rfl
   exact ⟨fun hm => by have := (hT j hm).2; omega, by omega⟩
 have hb5 : ∀ k, k < W4.heap.size -> (Value.slice Av xs.length cv).ownBlock ≠ some k -> w5.heap[k]? = W4.heap[k]? := fun k hk hne => g5.block k hk (fun e => hne e.symm)
 have hgm5 : w5.heap[gm]? = some (.cells #[.slice Av xs.length cv] 162 (0, 0)) := (hb5 gm (by omega) (fun e => by have := (p4 gm e).2; omega)).trans hgm4
 have hset : ∀ k, k ≠ gm -> (w5.setCell ⟨gm, 0, none⟩ (.slice A' (xs.length + 1) c')).heap[k]? = w5.heap[k]? := fun k hk => Below.heap_setCell _ _ _ _ hk
 have hsp4 : Sp W W4 := htn.spF p6
 have hownT : ∀ j, (Value.slice Av xs.length cv).ownBlock = some j -> ∃ cur, W4.heap[j]? = some (.cells cur 227 (0, 0)) := fun j e => by
  rcases p3'.2 with ⟨e', _⟩ | ⟨g', cap, cur, e', hb', hg', _⟩
  ·rw [e'] at e; cases e
  ·rw [e'] at e
   cases e
   exact ⟨cur, hg'⟩
 have hspF : Sp W4 (w5.setCell ⟨gm, 0, none⟩ (.slice A' (xs.length + 1) c')) := fun j c e => by
  have hj := (Array.getElem?_eq_some_iff.1 e).1
  have h1 : j ≠ gm := fun q => by
   rw [q, hgm4] at e
   simp only [Option.some.injEq, Obj.cells.injEq] at e
   exact absurd e.2.1 (by decide)
  refine (hset j h1).trans (hb5 j hj (fun q => ?_))
  obtain ⟨cur, hc⟩ := hownT j q
  rw [hc] at e
  simp only [Option.some.injEq, Obj.cells.injEq] at e
  exact absurd e.2.1 (by decide)
 have hmF : ∀ (j : Nat) (es : Array MapEntry) (cl : Nat), W4.heap[j]? = some (Obj.map es cl) -> (w5.setCell ⟨gm, 0, none⟩ (.slice A' (xs.length + 1) c')).heap[j]? = W4.heap[j]? := fun j es cl e => by
  have hj := (Array.getElem?_eq_some_iff.1 e).1
  refine (hset j (fun q => by rw [q, hgm4] at e; cases e)).trans (hb5 j hj (fun q => ?_))
  obtain ⟨cur, hc⟩ := hownT j q
  rw [hc] at e
  cases e
 have hlow : ∀ k, k < gm + 3 -> k ≠ gm -> (w5.setCell ⟨gm, 0, none⟩ (.slice A' (xs.length + 1) c')).heap[k]? = W4.heap[k]? := fun k hk hne => (hset k hne).trans (hb5 k (by omega) (fun e => by have := (p4 k e).2; omega))
 have hsubT : ∀ j, (¬ T j \/ W.heap.size <= j) -> j < W4.heap.size -> ¬ T j := fun j hj _ => hj.elim id (fun h hm => by have := (hT j hm).2; omega)
 have hfsz : (w5.setCell ⟨gm, 0, none⟩ (.slice A' (xs.length + 1) c')).heap.size = w5.heap.size := by simp [World.setCell]
 have hBf : Below B W (w5.setCell ⟨gm, 0, none⟩ (.slice A' (xs.length + 1) c')) := (htn.below.trans ⟨g5.os, g5.tape, g5.output, g5.size, fun k hk => hb5 k (by omega) (fun e => by have := (p4 k e).2; omega)⟩).setCell (p := ⟨gm, 0, none⟩) (by show B <= gm; omega) _
 refine ⟨Av, cv, A', c', w5, hgm4, r5, hgm5, fun k hk => hb5 k (by omega) (fun e => by have := (p4 k e).2; omega), ⟨hBf, fun k hk => ?_⟩, ws ++ [(z, l)], xs ++ [⟨b, l⟩], .slice A' (xs.length + 1) c', ?_, by rw [List.length_append]; rfl, ?_, ?_, hown, ?_, ?_, ⟨p7.below.trans hBf, fun k hk hkr => ?_⟩, fun k hk hkr hkg => ?_, ?_⟩
 ·obtain ⟨q1, q2⟩ := hT k hk
  exact (hset k (by omega)).trans ((hb5 k (by omega) (fun e => (p4 k e).1 hk)).trans (htn.same k q2 (by omega)))
 ·rw [qbv_, p1]
  simp only
  rw [hd0, hd1, hih]
 ·simp [World.setCell, Array.getElem?_modify, hgm5]
 ·exact o5.keep (fun j e => hset j (fun q => by have := (hown j e).2; omega))
 ·refine Wires.snoc ?_ ((hs.sub (fun j hj hl => hsubT j hj hl)).sp hspF) l
  exact (p5.sp hsp4).sp hspF
 ·exact ((hrd.keep hsubT (fun _ _ _ => rfl)).ty hspF (hlow r (by omega) (by omega)) hmF)
 ·exact (hlow k (by omega) (by omega)).trans ((htn.same k (by omega) hkr).trans (p7.same k hk hkr))
 ·exact (hlow k hk hkg).trans ((htn.same k (by omega) hkr).trans (p8 k hk hkr hkg))
 ·rw [hfsz]; omega
theorem qju_ {D : Nat -> Prop} (hr : RdF w B r t D) (hg : w.heap.size = g) (hB : B <= g) (hb : Below g w W) : RdF W B r t D /\ Tn B r w W := by
 subst hg
 exact ⟨hr.on hb, Tn.of_below hb hB⟩
end
theorem qfk_ {w : World} {g : Nat} {v0 v1 : Value} {T U : TypeId} (h1 : w.heap[g + 1]? = some (.cells #[v0] T (0, 0))) (h2 : w.heap[g + 2]? = some (.cells #[v1] U (0, 0))) : w.cell? ⟨g + 1, 0, none⟩ = some v0 /\ w.cell? ⟨g + 1 + 1, 0, none⟩ = some v1 /\ w.frozen? ⟨g + 1, 0, none⟩ = false /\ w.frozen? ⟨g + 1 + 1, 0, none⟩ = false :=
 ⟨qad_ h1, qad_ (b := g + 2) h2, Lib.frozen_of_heap h1 0, Lib.frozen_of_heap (b := g + 2) h2 0⟩
theorem qpd_ (t : Tr) (B r : Nat) (A : Option Addr) (n c : Nat) (zs : List Int) (w : World) (hr : RdF w B r t (fun _ => True)) (hB : B <= w.heap.size) (hin : t.In w B) (hh : heftN t.root <= 134217728) (hs : Shows w w.heap.size A n zs) (hn : n <= 134217728) (hnc : n <= c) (hc : c <= 9223372036854775807) :
  Calls Tryz.prog 109 #[.pointer (some ⟨r, 0, none⟩), .slice A n c] w fun e w' => LinesF w' w.heap.size t.root (fun _ => True) (qi0_ t.root zs) e /\ RdF w' B r t (fun _ => True) /\ Tn B r w w' := by
 obtain ⟨XV, hXV⟩ : ∃ XV, qi0_ t.root zs = XV := ⟨_, rfl⟩
 have HXD := Lib.hid hXV.symm
 rw [hXV]
 clear hXV
 unfold qi0_ at HXD
 obtain ⟨g, hg⟩ : ∃ g, w.heap.size = g := ⟨_, rfl⟩
 have HG := Lib.hid hg
 have HR := Lib.hid hr
 have HH := Lib.hid hh
 have HIN := Lib.hid hin
 have HBG : Hid (B <= g) := Lib.hid (by omega)
 have HRG : Hid (r < g) := Lib.hid (by rw [<- hg]; exact hr.lt)
 have HLZ : Hid (zs.length = n) := Lib.hid hs.1
 have CC := Lib.hid (fun W (hW : Below w.heap.size w W) => qdi_ A n c zs W ((hs.below hW).more hW.size) (by omega) hnc hc)
 have hE : qbp_ zs = 0 \/ qbp_ zs = 4 := by unfold qbp_; split <;> simp
 have hul : (u32s (qao_ zs)).length <= 134217728 := by
  rw [List.length_map]
  unfold qao_
  split
  ·rw [List.length_map, List.length_range]; have := hs.1; omega
  ·simp
 have HRG2 : Hid (∀ v ∈ qao_ zs, 0 <= v /\ v <= 4294967295) := Lib.hid (by
  intro v hv
  unfold qao_ at hv
  split at hv
  ·obtain ⟨k, _, rfl⟩ := List.mem_map.1 hv
   exact qcy_ hs _
  ·cases hv)
 clear hr hB hin hh hs hn hnc hc
 generalize qao_ zs = L at *
 generalize qbp_ zs = E1 at *
 unfold qe1_ at CC
 obtain ⟨M, hM⟩ : ∃ M, (u32s L).length = M := ⟨_, rfl⟩
 have HML := Lib.hid hM
 have HLM : Hid (L.length = M) := Lib.hid (by rwa [List.length_map] at hM)
 rw [hM] at CC hul
 clear hM
 have HA3 : Hid (∀ W0, ((w.alloc (.cells #[.pointer (some ⟨r, 0, none⟩)] 218)).alloc (.cells #[.slice none 0 0] 162)).alloc (.cells #[.int .i64 0] 32) = W0 -> PBox g r W0 /\ Below g w W0 /\ W0.heap.size = g + 3) := Lib.hid (by
  rintro W0 rfl
  obtain ⟨z, a0, a1, a2, hb⟩ : _ /\ _ /\ _ /\ _ /\ _ := by
   have e1 : (w.alloc (.cells #[.pointer (some ⟨r, 0, none⟩)] 218)).heap.size = g + 1 := by simp [hg]
   have e2 : ((w.alloc (.cells #[.pointer (some ⟨r, 0, none⟩)] 218)).alloc (.cells #[.slice none 0 0] 162)).heap.size = g + 1 + 1 := by simp [hg]
   exact ⟨(by simp [hg] : (((w.alloc (.cells #[.pointer (some ⟨r, 0, none⟩)] 218)).alloc (.cells #[.slice none 0 0] 162)).alloc (.cells #[.int .i64 0] 32)).heap.size = g + 3),
    (by rw [Below.heap_alloc _ _ _ (by omega), Below.heap_alloc _ _ _ (by omega), <- hg]; exact heap_alloc_new _ _ : (((w.alloc (.cells #[.pointer (some ⟨r, 0, none⟩)] 218)).alloc (.cells #[.slice none 0 0] 162)).alloc (.cells #[.int .i64 0] 32)).heap[g]? = some (.cells #[.pointer (some ⟨r, 0, none⟩)] 218 (0, 0))),
    (by rw [Below.heap_alloc _ _ _ (by omega), <- e1]; exact heap_alloc_new _ _ : (((w.alloc (.cells #[.pointer (some ⟨r, 0, none⟩)] 218)).alloc (.cells #[.slice none 0 0] 162)).alloc (.cells #[.int .i64 0] 32)).heap[g + 1]? = some (.cells #[.slice none 0 0] 162 (0, 0))),
    (by rw [show g + 2 = g + 1 + 1 from rfl, <- e2]; exact heap_alloc_new _ _ : (((w.alloc (.cells #[.pointer (some ⟨r, 0, none⟩)] 218)).alloc (.cells #[.slice none 0 0] 162)).alloc (.cells #[.int .i64 0] 32)).heap[g + 2]? = some (.cells #[.int .i64 0] 32 (0, 0))),
    ((((Below.refl g w).alloc (by omega) _).alloc (by omega) _).alloc (by omega) _ : Below g w (((w.alloc (.cells #[.pointer (some ⟨r, 0, none⟩)] 218)).alloc (.cells #[.slice none 0 0] 162)).alloc (.cells #[.int .i64 0] 32)))⟩
  exact ⟨⟨a0, a1, a2⟩, hb, z⟩)
 rw [hg] at CC ⊢
 refine (callsIn_wide (n := 0)).1 ?_
 refine callsIn_of_wp_marks Tryz.func109 rfl trivial ?_ rfl
 simp only [Tryz.ntmps109, List.size_toArray, List.length_cons, List.length_nil, Nat.reduceAdd, Nat.reduceSub, Array.replicate_succ, Array.replicate_zero, List.push_toArray, List.append_toArray, List.nil_append, List.cons_append]
 gi_wp2_with fail
 generalize hW0 : ((w.alloc (.cells #[.pointer (some ⟨r, 0, none⟩)] 218)).alloc (.cells #[.slice none 0 0] 162)).alloc (.cells #[.int .i64 0] 32) = W0
 have HW := Lib.hid (HA3.out W0 hW0)
 clear hW0 HA3
 refine ⟨trivial, rfl, (callsIn_wide.2 (CC.out _ HW.out.2.1)).mono ?_⟩
 rintro e w2 ⟨⟨A2, c2, rfl, hcel2, hmc, hc2⟩, hb2⟩
 have HB2 := Lib.hid (HW.out.2.1.trans (hb2.mono (by have := HW.out.2.2; omega)))
 have HNB2 := Lib.hid (HW.out.1.on (hb2.mono (by have := HW.out.2.2; omega)))
 have HZ2 : Hid (g + 3 <= w2.heap.size) := Lib.hid (by have := HW.out.2.2; have := hb2.size; omega)
 have HCEL := Lib.hid hcel2
 clear hcel2 hb2 CC
 by_cases hE0 : E1 = 0
 rotate_left
 ·have q1 : (E1 != 0) = true := by rw [bne_iff_ne]; exact hE0
  have HNBW := HNB2
  have HBWW := HB2
  have HXV : Hid (XV = .error 4) := Lib.hid (by rw [HXD.out, if_pos (.inl hE0)])
  clear hE hE0
  obtain ⟨c20, c30, f20, f30⟩ := qfk_ HNBW.out.2.1 HNBW.out.2.2
  obtain ⟨r2, r3, ro, rs, rb⟩ := qfh_ HNBW.out.2.1 HNBW.out.2.2 (.slice none 0 0) (.int .i64 4)
  have HE := Lib.hid (And.intro (qad_ r2) (And.intro (qad_ r3) (qju_ HR.out HG.out HBG.out (HBWW.out.trans (rb.mono (by omega))))))
  clear r2 r3 ro rs rb
  gi_wp2
  obtain ⟨e20, e30, _⟩ := HE.out
  refine ⟨.tuple #[.slice none 0 0, .int .i64 4], by simp [results, Tryz.results109, go_sem, e20, e30], ?_⟩
  exact ⟨⟨_, _, rfl, by (rw [HXV.out]; exact ⟨rfl, rfl⟩)⟩, HE.out.2.2⟩
 subst hE0
 have HHM := Lib.hid hul
 by_cases hm2 : M % 2 = 0
 rotate_left
 ·have q1 : (((M : Int) % 2) != 0) = true := by rw [bne_iff_ne]; omega
  have HNBW := HNB2
  have HBWW := HB2
  have HXV : Hid (XV = .error 4) := Lib.hid (by rw [HXD.out, if_pos (.inr (by rw [HLM.out]; exact hm2))])
  clear hE hm2
  obtain ⟨c20, c30, f20, f30⟩ := qfk_ HNBW.out.2.1 HNBW.out.2.2
  obtain ⟨r2, r3, ro, rs, rb⟩ := qfh_ HNBW.out.2.1 HNBW.out.2.2 (.slice none 0 0) (.int .i64 4)
  have HE := Lib.hid (And.intro (qad_ r2) (And.intro (qad_ r3) (qju_ HR.out HG.out HBG.out (HBWW.out.trans (rb.mono (by omega))))))
  clear r2 r3 ro rs rb
  gi_wp2
  obtain ⟨e20, e30, _⟩ := HE.out
  refine ⟨.tuple #[.slice none 0 0, .int .i64 4], by simp [results, Tryz.results109, go_sem, e20, e30], ?_⟩
  exact ⟨⟨_, _, rfl, by (rw [HXV.out]; exact ⟨rfl, rfl⟩)⟩, HE.out.2.2⟩
 have q1 : (((M : Int) % 2) != 0) = false := by rw [bne_eq_false_iff_eq]; omega
 obtain ⟨m, hm⟩ : ∃ m, M = m * 2 := ⟨M / 2, by omega⟩
 have HMm := Lib.hid hm
 have HXL : Hid (XV = qbv_ t.root L m) := Lib.hid (by rw [HXD.out, if_neg (by rw [HLM.out]; omega), HLM.out, show M / 2 = m by omega])
 have HC2 := Lib.hid (And.intro hmc hc2)
 clear hE hm hm2 hmc hc2
 obtain ⟨gm, hgm⟩ : ∃ gm, w2.heap.size = gm := ⟨_, rfl⟩
 obtain ⟨W5, hW5⟩ : ∃ W5, w2.alloc (.cells #[.slice none 0 0] 162) = W5 := ⟨_, rfl⟩
 obtain ⟨W6, hW6⟩ : ∃ W6, (W5.alloc (.cells #[.slice A2 M c2] 87)).alloc (.cells #[.int .i64 2] 3) = W6 := ⟨_, rfl⟩
 have hz5 : W5.heap.size = gm + 1 := by rw [<- hW5]; simp [hgm]
 have hb5 : Below w2.heap.size w2 W5 := by rw [<- hW5]; exact (Below.refl _ _).alloc (Nat.le_refl _) _
 have hl5 : W5.heap[gm]? = some (.cells #[.slice none 0 0] 162 (0, 0)) := by rw [<- hW5, <- hgm]; exact heap_alloc_new _ _
 have HCH := qeq_ A2 M c2 2 (by omega) W5
 rw [hz5] at HCH
 have hb6 : Below W5.heap.size W5 W6 := by rw [<- hW6]; exact ((Below.refl _ _).alloc (Nat.le_refl _) _).alloc (by simp) _
 have hx1 : W6.heap[gm + 1]? = some (.cells #[.slice A2 M c2] 87 (0, 0)) := by
  rw [<- hW6, Below.heap_alloc _ _ _ (by simp [hz5]), <- hz5]; exact heap_alloc_new _ _
 have hx2 : W6.heap[gm + 1 + 1]? = some (.cells #[.int .i64 2] 3 (0, 0)) := by
  have e : (W5.alloc (.cells #[.slice A2 M c2] 87)).heap.size = gm + 1 + 1 := by simp [hz5]
  rw [<- hW6, <- e]; exact heap_alloc_new _ _
 have hz6 : W6.heap.size = gm + 3 := by rw [<- hW6]; simp [hz5]
 have HCHH : Hid (Calls Tryz.prog 114 #[.slice A2 M c2, .int .i64 2] W5 fun e w' => e = .returned (.func (.func 145) #[] #[.pointer (some ⟨gm + 1, 0, none⟩), .pointer (some ⟨gm + 1 + 1, 0, none⟩)]) /\ w' = W6) := Lib.hid (by rw [<- hW6]; exact HCH)
 have HGM : Hid (g + 3 <= gm) := Lib.hid (by have := HZ2.out; omega)
 have hb26 : Below w2.heap.size w2 W6 := hb5.trans (hb6.mono (by rw [hz5]; omega))
 have HB6 := Lib.hid (HB2.out.trans (hb26.mono (by have := HZ2.out; omega)))
 have HNB6 := Lib.hid (HNB2.out.on (hb26.mono HZ2.out))
 have HCEL6 := Lib.hid ((HCEL.out.below hb26).more (B' := gm) (by omega))
 have HX6 := Lib.hid (And.intro hx1 hx2)
 have HZ6 := Lib.hid hz6
 have HL6 := Lib.hid ((hb6.block gm (by omega)).trans hl5)
 have HRD6 := Lib.hid (qju_ HR.out HG.out HBG.out HB6.out)
 have HWK := Lib.hid (qd5_ A2 c2 M 2 m B (gm + 1) W6 (by rw [hz6]; have := HBG.out; have := HGM.out; omega) (by omega) HMm.out ⟨HC2.out.1, HC2.out.2, by have := HHM.out; omega⟩)
 clear hb6 hx1 hx2 hz6 HCH hW6 hz5 hb5 hl5 hb26
 gi_wp2_with (refine ⟨trivial, rfl, (callsIn_wide.2 HCHH.out).mono ?_⟩; rintro e W7 ⟨rfl, rfl⟩)
 clear HCHH
 refine qa3_ (gf := 145) (lb := #[.pointer (some ⟨gm + 1, 0, none⟩), .pointer (some ⟨gm + 1 + 1, 0, none⟩)]) rfl (enters_of Tryz.func145 (by kernel_rfl) rfl) HWK.out (Below.refl _ _) (by rw [HZ6.out]; have := HBG.out; have := HGM.out; omega) (fun Wx j args h => by obtain rfl : args = _ := h; rfl) (gm + 3) (by rw [HZ6.out]; exact Nat.le_refl _) (fun _ => False) (fun k h => h.elim)
  (fun Mk pre Wx => PI t B r g gm L w W7 Mk pre.length Wx) (fun c Mk pre Wx => c = .ret /\ PFin t B r g gm L m w Mk Wx)
  (fun T T' s A C hs hB hT ht hst => hs.turn ht hT hB (by have := HRG.out; have := HGM.out; omega) (by have := HBG.out; have := HGM.out; omega) (by rw [HG.out]; have := HGM.out; omega)) (fun c T T' s A C hs hB hT ht hst => ⟨hs.1, hs.2.turn ht hT hB (by have := HRG.out; have := HGM.out; omega) (by have := HBG.out; have := HGM.out; omega) (by rw [HG.out]; have := HGM.out; omega) HGM.out⟩)
  (fun Mk s W1 h => by
   obtain ⟨_, _, _, _, _, _, _, _, _, _, _, h8, _⟩ := h
   have h1 := HRG.out
   have h2 := HGM.out
   exact ⟨(h8 (gm + 1) (by omega) (by omega) (by omega)).trans HX6.out.1, (h8 (gm + 1 + 1) (by omega) (by omega) (by omega)).trans HX6.out.2⟩)
  ⟨[], [], .slice none 0 0, rfl, rfl, HL6.out, WRow.nil _ _, fun j e => (by cases e), Two.nil, HRD6.out.1.keep (fun _ _ _ h => h) (fun _ _ _ => rfl), HRD6.out.2, fun _ _ _ _ => rfl, by rw [HZ6.out]; exact Nat.le_refl _⟩ ?round ?done ?stop
 case round =>
  rintro l2 Mk pre j args Wr hM hu hsz hbn hI henc hpre
  obtain rfl : args = _ := henc
  obtain ⟨hpj, hjm⟩ := pre_len hpre
  have hj2 : j * 2 + 2 <= M := by rw [HMm.out]; omega
  gi_wp2
  refine ⟨hI, Kp.refl _ _ _, ?_⟩
  intro W3 hi3 ht3 hcl3 hfz3
  rw [hpj] at hi3
  have HU3 := Lib.hid (ht3.ups hu (by have := HZ6.out; omega))
  have HPI := Lib.hid hi3
  have HPJ := Lib.hid hpj
  have hi3' := hi3
  obtain ⟨ws, xs, v, p1, p1', p2, p3, p4, p5, p6, p7, p8, p9⟩ := hi3'
  have hS3 : gm + 3 <= W3.heap.size := p9
  have hA2 : ∀ b o, A2 = some ⟨b, o, none⟩ -> b ≠ r := fun b o e q => by
   obtain ⟨b', o', e', hb', hc'⟩ := HCEL6.out.2 (by omega)
   rw [e] at e'
   simp only [Option.some.injEq, Addr.mk.injEq, and_true] at e'
   obtain ⟨rfl, rfl⟩ := e'
   obtain ⟨own, er, hrb⟩ := HRD6.out.1.rd
   have h1 := hc' 1 (by omega)
   rw [List.getElem?_map, List.getElem?_eq_getElem (by rw [HLM.out]; omega)] at h1
   subst q
   exact qhv_ hrb _ _ h1
  have hcel3 : Cel W3 gm A2 M (u32s L) := ⟨HCEL6.out.1, fun h0 => by
   obtain ⟨b, o, e, hb, hc⟩ := HCEL6.out.2 h0
   exact ⟨b, o, e, hb, fun i hi => (World.cell?_of_block (a := ⟨b, o + i, none⟩) (p8 b (by omega) (hA2 b o e) (by omega))).trans (hc i hi)⟩⟩
  obtain ⟨eb, eo, eA, heb, hec⟩ := (hcel3.chunk hj2).at_ (by omega)
  have hne : eb ≠ r := by
   obtain ⟨b, o, e, _, _⟩ := HCEL6.out.2 (by omega)
   have h1 := hA2 b o e
   rw [e] at eA
   have e2 : cutAt (some ⟨b, o, none⟩) (j * 2 + 2) (j * 2) = some ⟨b, o + j * 2, none⟩ := by
    unfold cutAt
    rw [if_neg (by omega)]
    simp [qbc_]
   rw [e2] at eA
   simp only [Option.some.injEq, Addr.mk.injEq, and_true] at eA
   omega
  have hv : ∀ i, i < 2 -> W3.cell? ⟨eb, eo + i, none⟩ = some (.int .u32 (L.getD (j * 2 + i) 0)) /\ 0 <= L.getD (j * 2 + i) 0 /\ L.getD (j * 2 + i) 0 <= 4294967295 := fun i hi => by
   have hLl := HLM.out
   rw [List.getD_eq_getElem?_getD, List.getElem?_eq_getElem (by omega : j * 2 + i < L.length), Option.getD_some]
   refine ⟨?_, HRG2.out _ (List.getElem_mem _)⟩
   rw [hec i hi, List.getElem?_take_of_lt hi, List.getElem?_drop, List.getElem?_map, List.getElem?_eq_getElem (by omega)]
   rfl
  obtain ⟨e0, hv0⟩ := hv 0 (by omega)
  obtain ⟨e1, _⟩ := hv 1 (by omega)
  rw [Nat.add_zero, Nat.add_zero] at e0
  rw [Nat.add_zero] at hv0
  obtain ⟨v0, hv0e⟩ : ∃ v, L.getD (j * 2) 0 = v := ⟨_, rfl⟩
  obtain ⟨v1, hv1e⟩ : ∃ v, L.getD (j * 2 + 1) 0 = v := ⟨_, rfl⟩
  rw [hv0e] at e0 hv0
  rw [hv1e] at e1
  have HV := Lib.hid (And.intro hv0e hv1e)
  have hg1 := HGM.out
  have hrr := HRG.out
  have l0 := qad_ ((p8 g (by omega) (by omega) (by omega)).trans HNB6.out.1)
  have hb1 := (p8 (g + 1) (by omega) (by omega) (by omega)).trans HNB6.out.2.1
  have hb2 := (p8 (g + 2) (by omega) (by omega) (by omega)).trans HNB6.out.2.2
  have CL := Lib.hid (qfo_ t B r (fun k => ¬ Mk k) v0 W3.drew (p6.keep (w' := W3.drew) (fun _ h _ => h) (fun _ _ _ => rfl)) (by have h2 := HBG.out; show B <= W3.heap.size; omega) (HIN.out.under p7.below.drew) HH.out hv0)
  have HF3 := Lib.hid (And.intro heb (And.intro hne (And.intro hS3 (And.intro e1 (And.intro hb1 hb2)))))
  have HPM : Hid (qbv_ t.root L j = .ok ws /\ j < m /\ Tn B r w W3 /\ RdF W3 B r t (fun k => ¬ Mk k)) := Lib.hid ⟨p1, hjm, p7, p6⟩
  rw [eA]
  clear hM hu hsz hbn hI hpre hpj hjm hj2 ht3 hcl3 hfz3 hec hv heb eA hv0e hv1e hv0 hcel3 hA2 hi3 p1 p1' p2 p3 p4 p5 p6 p7 p8 p9 hS3 hne hb1 hb2 xs v e1
  gi_wp2_with fail
  refine qc2_ (S := fun W => W.cell? ⟨eb, eo, none⟩ = some (.int .u32 v0) /\ W.cell? ⟨g, 0, none⟩ = some (.pointer (some ⟨r, 0, none⟩))) (by kernel_rfl) ⟨e0, l0⟩ (fun hHeld => ?_)
  have HE0 := Lib.hid (And.intro e0 l0)
  clear e0 l0
  refine tkI 0 hHeld fun _ => ?_
  refine tkI 1 hHeld fun _ => ?_
  refine tkI 2 hHeld fun _ => ?_
  refine tkI 3 hHeld fun _ => ?_
  refine qb1_ 4 (by kernel_rfl) rfl (by rfl) (fun K hK => ?_)
  refine ⟨fun _ _ => trivial, ?_⟩
  go_simp
  refine ⟨rfl, (CallsIn.inRound l2 (callsIn_wide.2 CL.out)).mono ?_⟩
  rintro e W4 ⟨hfo, hrd4, htn4⟩
  obtain ⟨p, er, rfl, hgood⟩ := FindF.out hfo
  have htn : Tn B r W3 W4 := ⟨(Below.refl B W3).drew.trans htn4.below, fun k hk hkr => htn4.same k hk hkr⟩
  have e0 : W4.cell? ⟨eb, eo, none⟩ = some (.int .u32 v0) := (World.cell?_of_block (a := ⟨eb, eo, none⟩) (htn.same eb (by have h1 := HF3.out.1; have h2 := HF3.out.2.2.1; omega) HF3.out.2.1)).trans HE0.out.1
  have l0 : W4.cell? ⟨g, 0, none⟩ = some (.pointer (some ⟨r, 0, none⟩)) := (World.cell?_of_block (a := ⟨g, 0, none⟩) (htn.same g (by have h2 := HF3.out.2.2.1; omega) (by omega))).trans HE0.out.2
  have HGOOD := Lib.hid hgood
  have HRD4 := Lib.hid hrd4
  have HTN := Lib.hid htn
  clear hfo hrd4 htn4 hgood htn CL
  refine hK.out _ _ ⟨e0, l0⟩ (fun hHeld => ?_)
  clear hK K e0 l0
  refine tkI 5 hHeld fun _ => ?_
  refine tkI 6 hHeld fun _ => ?_
  refine tkI 7 hHeld fun _ => ?_
  refine tkI 8 hHeld fun _ => ?_
  refine tkI 9 hHeld fun _ => ?_
  refine qcg_ (by kernel_rfl) ?_ _
  clear hHeld
  obtain ⟨ih, hih⟩ : ∃ ih, qbo_ t.root v0 = ih := ⟨_, rfl⟩
  have hgd := HGOOD.out
  rw [hih] at hgd
  have HIH := Lib.hid hih
  clear hih
  cases ih with
  | error e' =>
   obtain rfl : er = e' := hgd
   have he : er ≠ 0 := qek_ HIH.out
   have q1 : (er != 0) = true := by rw [bne_iff_ne]; exact he
   have hb1 := (HTN.out.same (g + 1) (by have h2 := HF3.out.2.2.1; omega) (by omega)).trans HF3.out.2.2.2.2.1
   have hb2 := (HTN.out.same (g + 2) (by have h2 := HF3.out.2.2.1; omega) (by omega)).trans HF3.out.2.2.2.2.2
   obtain ⟨c20, c30, f20, f30⟩ := qfk_ hb1 hb2
   obtain ⟨r2, r3, ro, rs, rb⟩ := qfh_ hb1 hb2 (.slice none 0 0) (.int .i64 er)
   have HFIN : Hid (Kp B Mk W3 ((W4.setCell ⟨g + 1, 0, none⟩ (.slice none 0 0)).setCell ⟨g + 2, 0, none⟩ (.int .i64 er)) /\ PFin t B r g gm L m w Mk ((W4.setCell ⟨g + 1, 0, none⟩ (.slice none 0 0)).setCell ⟨g + 2, 0, none⟩ (.int .i64 er))) := Lib.hid (by
    have hBg := HBG.out
    have h3 := HF3.out.2.2.1
    refine ⟨⟨HTN.out.below.trans (rb.mono (by omega)), fun k hk => ?_⟩, er, ?_, r2, r3, ?_, ⟨HPM.out.2.2.1.below.trans (HTN.out.below.trans (rb.mono (by omega))), fun k hk hkr => ?_⟩, by rw [rs]; exact Nat.le_trans h3 HTN.out.below.size⟩
    ·obtain ⟨q1, q2⟩ := HU3.out k hk
     exact (ro k (by omega) (by omega)).trans (HTN.out.same k q2 (by omega))
    ·obtain ⟨d, hd⟩ := Nat.exists_eq_add_of_lt HPM.out.2.1
     have h5 : qbv_ t.root L (j + 1) = .error er := by
      rw [qbv_, HPM.out.1]
      simp only
      rw [HV.out.1, HIH.out]
     rw [hd, show j + d + 1 = j + 1 + d by omega]
     exact qgx_ h5 d
    ·obtain ⟨g1, g2⟩ := pres_ty hb1 hb2 ro
     exact (HRD4.out.keep (D' := fun k => ¬ Mk k) (fun k hk hl => hk.elim id (fun h hm => by have h4 := (HU3.out k hm).2; have h5 : W3.drew.heap.size = W3.heap.size := rfl; omega)) (fun _ _ _ => rfl)).ty g1 (ro r (by omega) (by omega)) g2
    ·rw [HG.out] at hk
     exact (ro k (by omega) (by omega)).trans ((HTN.out.same k (by omega) hkr).trans (HPM.out.2.2.1.same k (by rw [HG.out]; exact hk) hkr)))
   clear hb1 hb2 r2 r3 ro rs rb he
   gi_wp2
   exact ⟨HFIN.out.1, rfl, HFIN.out.2⟩
  | ok z =>
   obtain ⟨rfl, b, x, rfl, hsp⟩ := hgd
   obtain ⟨Av, cv, A', c', w5, s1, s2, s3, s4, s5, s6⟩ := HPI.out.step HV.out.1 HV.out.2 HIH.out hsp HRD4.out HTN.out HU3.out HRG.out HBG.out HGM.out HG.out (by have := HPM.out.2.1; have := HMm.out; have := HHM.out; omega)
   have e1 : W4.cell? ⟨eb, eo + 1, none⟩ = some (.int .u32 v1) := (World.cell?_of_block (a := ⟨eb, eo + 1, none⟩) (HTN.out.same eb (by have h1 := HF3.out.1; have h2 := HF3.out.2.2.1; omega) HF3.out.2.1)).trans HF3.out.2.2.2.1
   have q0 : W4.drew.cell? ⟨gm, 0, none⟩ = some (.slice Av j cv) /\ W4.drew.cell? ⟨eb, eo + 1, none⟩ = some (.int .u32 v1) := ⟨qad_ s1, e1⟩
   have q1 : (W4.drew.alloc (.cells #[.pointer (some ⟨b, 0, none⟩), .int .u32 v1] 227)).cell? ⟨gm, 0, none⟩ = some (.slice Av j cv) /\ (W4.drew.alloc (.cells #[.pointer (some ⟨b, 0, none⟩), .int .u32 v1] 227)).cell? ⟨eb, eo + 1, none⟩ = some (.int .u32 v1) := ⟨Lib.cell?_alloc_some _ q0.1, Lib.cell?_alloc_some _ q0.2⟩
   have q2 : w5.cell? ⟨gm, 0, none⟩ = some (.slice Av j cv) /\ w5.cell? ⟨eb, eo + 1, none⟩ = some (.int .u32 v1) := ⟨qad_ s3, (World.cell?_of_block (a := ⟨eb, eo + 1, none⟩) (s4 eb HF3.out.1)).trans e1⟩
   have Q0 := Lib.hid q0
   have Q1 := Lib.hid q1
   have Q2 := Lib.hid q2
   have Q3 := Lib.hid (Lib.frozen_of_heap s3 0)
   have HR5 := Lib.hid s2
   have HFIN := Lib.hid (And.intro s5 s6)
   clear s1 s2 s3 s4 s5 s6 e1 q0 q1 q2 hsp
   gi_wp2_with fail
   refine qfl_ [8] (S := fun W => W.cell? ⟨gm, 0, none⟩ = some (.slice Av j cv) /\ W.cell? ⟨eb, eo + 1, none⟩ = some (.int .u32 v1)) (by kernel_rfl) Q0.out (fun hHeld => ?_)
   refine tkI 0 hHeld fun _ => ?_
   refine tkI 1 hHeld fun _ => ?_
   refine tkI 2 hHeld fun _ => ?_
   refine tkI 3 hHeld fun _ => ?_
   refine tkI 4 hHeld fun _ => ?_
   refine tkI 5 hHeld fun _ => ?_
   refine qb1_ 6 (by kernel_rfl) rfl (by rfl) (fun K hK => ?_)
   refine ⟨fun _ _ => trivial, ?_⟩
   go_simp
   refine hK.out _ _ Q1.out (fun hHeld => ?_)
   clear hK K
   refine qb1_ 7 (by kernel_rfl) rfl (by rfl) (fun K hK => ?_)
   refine qou_ _ _ rfl _ _ rfl rfl HR5.out ?_
   simp only [Act.put, List.setIfInBounds_toArray, List.set_cons_zero, List.set_cons_succ]
   refine hK.out _ _ Q2.out (fun hHeld => ?_)
   clear hK K
   have q2 := Q2.out.1
   have q3 := Q3.out
   refine qk9_ 8 (by kernel_rfl) rfl (by rfl) (by kernel_rfl) (fun K hK => ?_)
   refine ⟨fun _ _ => trivial, ?_⟩
   go_simp
   refine hK.out _ _ ?_
   clear hK K
   refine qcg_ (by kernel_rfl) ?_ _
   clear hHeld
   gi_wp2
   exact ⟨HFIN.out.1, by (show PI t B r g gm L w W7 Mk (pre ++ [j]).length _; rw [show (pre ++ [j]).length = j + 1 by rw [List.length_append, HPJ.out]; rfl]; exact HFIN.out.2)⟩
 case done =>
  rintro Dd Mk Wd hM hu hsz hD hI hd
  rw [List.length_range] at hI
  obtain ⟨ws, xs, v, p1, p1', p2, p3, p4, p5, p6, p7, p8, p9⟩ := hI
  have hg1 := HGM.out
  have hrr := HRG.out
  have hDb := (hu Dd hD).1
  have hb1 := (p8 (g + 1) (by omega) (by omega) (by omega)).trans HNB6.out.2.1
  have hb2 := (p8 (g + 2) (by omega) (by omega) (by omega)).trans HNB6.out.2.2
  obtain ⟨Av, cv, rfl, _⟩ := qe6_ p3
  rw [p1'] at p2 p3 p4
  obtain ⟨c20, c30, f20, f30⟩ := qfk_ hb1 hb2
  obtain ⟨r2, r3, ro, rs, rb⟩ := qfh_ hb1 hb2 (.slice Av m cv) (.int .i64 0)
  obtain ⟨g1, g2⟩ := pres_ty hb1 hb2 ro
  have c0 : Wd.cell? ⟨gm, 0, none⟩ = some (.slice Av m cv) := qad_ p2
  have HD2 := Lib.hid ((ro Dd (by omega) (by omega)).trans hd)
  have HE : Hid ((((Wd.setCell ⟨g + 1, 0, none⟩ (.slice Av m cv)).setCell ⟨g + 2, 0, none⟩ (.int .i64 0)).putObj Dd (.deferred none)).cell? ⟨g + 1, 0, none⟩ = some (.slice Av m cv) /\ (((Wd.setCell ⟨g + 1, 0, none⟩ (.slice Av m cv)).setCell ⟨g + 2, 0, none⟩ (.int .i64 0)).putObj Dd (.deferred none)).cell? ⟨g + 1 + 1, 0, none⟩ = some (.int .i64 0) /\
    WRow (((Wd.setCell ⟨g + 1, 0, none⟩ (.slice Av m cv)).setCell ⟨g + 2, 0, none⟩ (.int .i64 0)).putObj Dd (.deferred none)) g (.slice Av m cv) xs /\ Wires (((Wd.setCell ⟨g + 1, 0, none⟩ (.slice Av m cv)).setCell ⟨g + 2, 0, none⟩ (.int .i64 0)).putObj Dd (.deferred none)) t.root (fun _ => True) xs ws /\
    RdF (((Wd.setCell ⟨g + 1, 0, none⟩ (.slice Av m cv)).setCell ⟨g + 2, 0, none⟩ (.int .i64 0)).putObj Dd (.deferred none)) B r t (fun _ => True) /\ Tn B r w (((Wd.setCell ⟨g + 1, 0, none⟩ (.slice Av m cv)).setCell ⟨g + 2, 0, none⟩ (.int .i64 0)).putObj Dd (.deferred none))) := Lib.hid (by
   have hBg := HBG.out
   have p3' : WRow Wd g (.slice Av m cv) xs := p3
   have w2 : WRow ((Wd.setCell ⟨g + 1, 0, none⟩ (.slice Av m cv)).setCell ⟨g + 2, 0, none⟩ (.int .i64 0)) g (.slice Av m cv) xs := p3'.keep (fun j e => ro j (by have := (p4 j e).2; omega) (by have := (p4 j e).2; omega))
   have w5 := p5.sp g1
   have w6 := p6.ty g1 (ro r (by omega) (by omega)) g2
   generalize (Wd.setCell ⟨g + 1, 0, none⟩ (.slice Av m cv)).setCell ⟨g + 2, 0, none⟩ (.int .i64 0) = We at r2 r3 ro rs rb w2 w5 w6 ⊢
   have pt : ∀ k, k ≠ Dd -> (We.putObj Dd (.deferred none)).heap[k]? = We.heap[k]? := fun k hk => World.putObj_heap_other hk
   refine ⟨qad_ ((pt (g + 1) (by omega)).trans r2), qad_ (b := g + 2) ((pt (g + 2) (by omega)).trans r3), w2.keep (fun j e => pt j (fun q => (p4 j e).1 (by rw [q]; exact hD))), w5.keep (fun _ _ _ => trivial) (fun j hj _ => pt j (fun q => hj (by rw [q]; exact hD))), w6.keep (fun _ _ _ => trivial) (fun j hj _ => pt j (fun q => hj.elim (fun e => by omega) (fun hj => hj (by rw [q]; exact hD)))), ⟨p7.below.trans ((rb.mono (by omega)).trans ⟨rfl, rfl, rfl, by simp, fun k hk => pt k (by omega)⟩), fun k hk hkr => ?_⟩⟩
   rw [HG.out] at hk
   exact (pt k (by omega)).trans ((ro k (by omega) (by omega)).trans (p7.same k (by rw [HG.out]; exact hk) hkr)))
  have HXO : Hid (XV = .ok ws) := Lib.hid (by rw [HXL.out, p1])
  clear hM hu hsz hD hd p1 p1' p2 p3 p4 p5 p6 p7 p8 p9 hb1 hb2 r2 r3 ro rs rb g1 g2 hDb hrr
  gi_wp2
  refine ⟨by simp, .inl ⟨_, _, rfl, run_takeDeferred HD2.out, ?_⟩⟩
  obtain ⟨e20, e30, hrest⟩ := HE.out
  refine ⟨.tuple #[.slice Av m cv, .int .i64 0], by simp [results, Tryz.results109, go_sem, e20, e30], ?_⟩
  exact ⟨⟨_, _, rfl, by (rw [HXO.out]; exact ⟨rfl, xs, hrest.1, hrest.2.1⟩)⟩, hrest.2.2⟩
 case stop =>
  rintro Dd c Mk pre Wd hM hu hsz hD hpre ⟨rfl, hf⟩ hd
  have hf2 := hf.turn (Turn.putObj Wd hD (.deferred none)) hu (by have := HZ6.out; omega) (by have := HRG.out; have := HGM.out; omega) (by have := HBG.out; have := HGM.out; omega) (by rw [HG.out]; have := HGM.out; omega) HGM.out
  obtain ⟨er, h1, h2, h3, h4, h5, _⟩ := hf2
  have HE := Lib.hid (And.intro (qad_ h2) (qad_ h3))
  have HXO : Hid (XV = .error er) := Lib.hid (by rw [HXL.out, h1])
  have HRD := Lib.hid (And.intro h4.all h5)
  have HDD := Lib.hid hd
  clear hM hu hsz hD hpre hf hd h1 h2 h3 h4 h5
  gi_wp2
  refine ⟨by simp, .inl ⟨_, _, rfl, run_takeDeferred HDD.out, ?_⟩⟩
  obtain ⟨e20, e30⟩ := HE.out
  replace e30 : (Wd.putObj Dd (.deferred none)).cell? ⟨g + 1 + 1, 0, none⟩ = some (.int .i64 er) := e30
  refine ⟨.tuple #[.slice none 0 0, .int .i64 er], by simp [results, Tryz.results109, go_sem, e20, e30], ?_⟩
  exact ⟨⟨_, _, rfl, by (rw [HXO.out]; exact ⟨rfl, rfl⟩)⟩, HRD.out⟩
end
end Go.Proofs.YtcfinbapfhhpgaaGreatDoor
