/-
  Iter, part 1.
-/
import Derived.RangeFuncNested
import Derived.RangeFuncBound
import Derived.RangeFuncCalls
import Derived.RangeFuncLeaves
import Derived.Shelf.Abstract
import Derived.Shelf.RegionOpen
import Derived.WalkKit
import Derived.OwnWalkIn
import Derived.TacticsInMore
import Derived.LoopNIn
import Derived.LoopIn
import Derived.Test.YtcfinbapfhhpgaaGreatDoorBase1
import Derived.OrdersIn
namespace Go.Proofs.YtcfinbapfhhpgaaGreatDoor
open Go.RowKit
set_option linter.unusedVariables false
set_option linter.unusedSimpArgs false
set_option maxRecDepth 20000
set_option maxHeartbeats 16000000
section
structure Turn (T T' : Nat -> Prop) (W W' : World) : Prop where
 os : W'.os = W.os
 tape : W'.tape = W.tape
 output : W'.output = W.output
 size : W.heap.size <= W'.heap.size
 same : ∀ k, k < W.heap.size -> ¬ T k -> W'.heap[k]? = W.heap[k]?
 sub : ∀ k, T k -> T' k
 fresh : ∀ k, T' k -> T k \/ (W.heap.size <= k /\ k < W'.heap.size)
def Ups (B : Nat) (T : Nat -> Prop) (W : World) : Prop := ∀ k, T k -> B <= k /\ k < W.heap.size
structure Kp (n : Nat) (T : Nat -> Prop) (W W' : World) : Prop where
 below : Below n W W'
 same : ∀ k, T k -> W'.heap[k]? = W.heap[k]?
def Abid {β : Type} (B : Nat) (J : (Nat -> Prop) -> β -> World -> Prop) : Prop := ∀ T T' s W W', J T s W -> B <= W.heap.size -> Ups B T W -> Turn T T' W W' -> J T' s W'
def AbidX {β : Type} (B : Nat) (M0 : Nat -> Prop) (J : (Nat -> Prop) -> β -> World -> Prop) : Prop := ∀ T T' s W W', J T s W -> B <= W.heap.size -> Ups B T W -> Turn T T' W W' -> (∀ k, M0 k -> W'.heap[k]? = W.heap[k]?) -> J T' s W'
section
variable {T T' T'' : Nat -> Prop} {W W' W'' : World} {B n : Nat}
theorem Turn.trans (h : Turn T T' W W') (k : Turn T' T'' W' W'') : Turn T T'' W W'' :=
 ⟨k.os.trans h.os, k.tape.trans h.tape, k.output.trans h.output, Nat.le_trans h.size k.size, fun i hi hn =>
  (k.same i (Nat.lt_of_lt_of_le hi h.size) (fun h2 => (h.fresh i h2).elim hn (fun h3 => absurd h3.1 (Nat.not_le_of_lt hi)))).trans (h.same i hi hn),
  fun i hi => k.sub i (h.sub i hi), fun i hi => (k.fresh i hi).elim (fun h2 => (h.fresh i h2).imp id (fun h3 => ⟨h3.1, Nat.lt_of_lt_of_le h3.2 k.size⟩)) (fun h2 => .inr ⟨Nat.le_trans h.size h2.1, h2.2⟩)⟩
theorem Turn.of_below (h : Below W.heap.size W W') : Turn T T W W' := ⟨h.os, h.tape, h.output, h.size, fun k hk _ => h.block k hk, fun _ h => h, fun _ h => .inl h⟩
theorem Turn.below (h : Turn T T' W W') (hT : Ups B T W) (hB : B <= W.heap.size) : Below B W W' :=
 ⟨h.os, h.tape, h.output, h.size, fun k hk => h.same k (Nat.lt_of_lt_of_le hk hB) (fun hk' => absurd (hT k hk').1 (Nat.not_le_of_lt hk))⟩
theorem Turn.ups (h : Turn T T' W W') (hT : Ups B T W) (hB : B <= W.heap.size) : Ups B T' W' := fun k hk => (h.fresh k hk).elim (fun h2 => ⟨(hT k h2).1, Nat.lt_of_lt_of_le (hT k h2).2 h.size⟩) (fun h2 => ⟨Nat.le_trans hB h2.1, h2.2⟩)
theorem Turn.own (h : Below W.heap.size W W') (k : Nat) (hk : W.heap.size <= k /\ k < W'.heap.size) : Turn T (fun j => T j \/ j = k) W W' :=
 ⟨h.os, h.tape, h.output, h.size, fun j hj _ => h.block j hj, fun _ h => .inl h, fun j hj => hj.imp id (fun e => by rw [e]; exact hk)⟩
theorem Turn.setCell (W : World) {b : Nat} (hb : T b) (o : Nat) (v : Value) : Turn T T W (W.setCell ⟨b, o, none⟩ v) :=
 ⟨rfl, rfl, rfl, by simp [World.setCell], fun k _ hk => Below.heap_setCell _ _ _ _ (fun e => hk (by rw [e]; exact hb)), fun _ h => h, fun _ h => .inl h⟩
theorem Turn.putObj (W : World) {l : Nat} (hl : T l) (o : Obj) : Turn T T W (W.putObj l o) :=
 ⟨rfl, rfl, rfl, by simp, fun k _ hk => World.putObj_heap_other (fun e => hk (by rw [e]; exact hl)), fun _ h => h, fun _ h => .inl h⟩
theorem Ups.more (hT : Ups B T W) (h : W.heap.size <= W'.heap.size) : Ups B T W' := fun k hk => ⟨(hT k hk).1, Nat.lt_of_lt_of_le (hT k hk).2 h⟩
theorem Kp.refl (n : Nat) (T : Nat -> Prop) (W : World) : Kp n T W W := ⟨Below.refl _ _, fun _ _ => rfl⟩
theorem Kp.trans (h : Kp n T W W') (k : Kp n T W' W'') : Kp n T W W'' := ⟨h.below.trans k.below, fun i hi => (k.same i hi).trans (h.same i hi)⟩
theorem Kp.of_below (h : Below W.heap.size W W') (hn : n <= W.heap.size) (hT : Ups B T W) : Kp n T W W' := ⟨h.mono hn, fun k hk => h.block k (hT k hk).2⟩
theorem Kp.setCell (W : World) {b : Nat} (hn : n <= b) (hb : ¬ T b) (o : Nat) (v : Value) : Kp n T W (W.setCell ⟨b, o, none⟩ v) :=
 ⟨(Below.refl n W).setCell (p := ⟨b, o, none⟩) hn v, fun k hk => Below.heap_setCell _ _ _ _ (fun e => hb (by have e' : k = b := e; rw [<- e']; exact hk))⟩
theorem Kp.grown {row : Option Nat} (hg : W.grownBy W' row) (hT : Ups B T W) (hn : n <= W.heap.size) (hr : ∀ k, row = some k -> n <= k /\ ¬ T k) : Kp n T W W' :=
 ⟨(Below.refl n W).grown hg hn (fun k e => (hr k e).1), fun k hk => hg.block k (hT k hk).2 (fun e => (hr k e.symm).2 hk)⟩
theorem cell_loop {l : Nat} {r r' : Loop} (h : W.heap[l]? = some (.loop r)) (a : Addr) : (W.putObj l (.loop r')).cell? a = W.cell? a := by
 by_cases e : a.block = l
 ·have h1 : (W.putObj l (.loop r')).heap[a.block]? = some (.loop r') := by rw [e]; exact World.putObj_heap_same (Array.getElem?_eq_some_iff.1 h).1
  have h2 : W.heap[a.block]? = some (.loop r) := by rw [e]; exact h
  unfold World.cell?
  rw [h1, h2]
 ·exact World.cell?_of_block (World.putObj_heap_other e)
theorem qlz_ {l : Nat} {r r' : Loop} (h : W.heap[l]? = some (.loop r)) (a : Addr) : (W.putObj l (.loop r')).frozen? a = W.frozen? a := by
 by_cases e : a.block = l
 ·have h1 : (W.putObj l (.loop r')).heap[a.block]? = some (.loop r') := by rw [e]; exact World.putObj_heap_same (Array.getElem?_eq_some_iff.1 h).1
  have h2 : W.heap[a.block]? = some (.loop r) := by rw [e]; exact h
  unfold World.frozen?
  rw [h1, h2]
 ·exact World.frozen?_of_block (World.putObj_heap_other e)
end
def Walks {α : Type} (P : Program) (gf : Nat) (lb : Array Value) (n : Nat) (Enc : World -> α -> Array Value -> Prop) (es : List α) (w0 : World) : Prop :=
 ∀ (l : Nat) (J Jx : (Nat -> Prop) -> List α -> World -> Prop) (W : World), Below w0.heap.size w0 W -> Abid W.heap.size J -> Abid W.heap.size Jx ->
  (∀ T pre x args W1, J T pre W1 -> Ups W.heap.size T W1 -> W.heap.size <= W1.heap.size -> Below n W W1 -> Enc W1 x args -> pre ++ [x] <+: es -> YieldAt Fence.wide 0 P l args W1 fun e W' =>
   Kp n T W1 W' /\ ((e = .returned (.bool true) /\ J T (pre ++ [x]) W') \/ (e = .returned (.bool false) /\ Jx T (pre ++ [x]) W'))) ->
  J (fun _ => False) [] W ->
  Calls P gf (#[.func (.yield l) #[] #[]] ++ lb) W fun e W' => (∃ v, e = .returned v) /\ ∃ T, Ups W.heap.size T W' /\ W.heap.size <= W'.heap.size /\ (J T es W' \/ ∃ pre, pre <+: es /\ Jx T pre W')
def WalksX {α : Type} (X : World -> Prop) (P : Program) (gf : Nat) (lb : Array Value) (n : Nat) (Enc : World -> α -> Array Value -> Prop) (es : List α) (w0 : World) : Prop :=
 ∀ (l : Nat) (J Jx : (Nat -> Prop) -> List α -> World -> Prop) (W : World), Below w0.heap.size w0 W -> Abid W.heap.size J -> Abid W.heap.size Jx -> (∀ T s W1, J T s W1 -> X W1) ->
  (∀ T pre x args W1, J T pre W1 -> Ups W.heap.size T W1 -> W.heap.size <= W1.heap.size -> Below n W W1 -> Enc W1 x args -> pre ++ [x] <+: es -> YieldAt Fence.wide 0 P l args W1 fun e W' =>
   Kp n T W1 W' /\ ((e = .returned (.bool true) /\ J T (pre ++ [x]) W') \/ (e = .returned (.bool false) /\ Jx T (pre ++ [x]) W'))) ->
  J (fun _ => False) [] W ->
  Calls P gf (#[.func (.yield l) #[] #[]] ++ lb) W fun e W' => (∃ v, e = .returned v) /\ ∃ T, Ups W.heap.size T W' /\ W.heap.size <= W'.heap.size /\ (J T es W' \/ ∃ pre, pre <+: es /\ Jx T pre W')
def qok_ {α : Type} (n : Nat) (I : (Nat -> Prop) -> List α -> World -> Prop) (Ix : Code -> (Nat -> Prop) -> List α -> World -> Prop) (M : Nat -> Prop) (xs : List α) (W : World) : Exit -> Act -> World -> Prop
 | .normal, _, W' => Kp n M W W' /\ I M xs W'
 | .ret, _, W' => Kp n M W W' /\ Ix .ret M xs W'
 | .exit id, _, W' => Kp n M W W' /\ Ix (.exit id) M xs W'
 | .goto t, _, W' => Kp n M W W' /\ Ix (.goto t) M xs W'
 | .panic _, _, _ => False
 | .outgrown, _, _ => False
theorem qa3_ {X : World -> Prop} {P : Program} {α : Type} {g : Operand} {ps : Array Tmp} {assign body : Code} {Q : Exit -> Act -> World -> Prop} {a : Act} {w : World} {m : Nat}
  {gf : Nat} {lb : Array Value} (hg : a.eval g = .func (.func gf) #[] lb) (eg : ∀ args w, (callFunc gf args).run P w = .ok (.enter gf args) w)
  {n : Nat} {Enc : World -> α -> Array Value -> Prop} {es : List α} {w0 : World} (hseq : WalksX X P gf lb n Enc es w0) (hb0 : Below w0.heap.size w0 w) (hn : n <= w.heap.size) (hps : ∀ W x args, Enc W x args -> args.size = ps.size)
  (B : Nat) (hB : B <= w.heap.size) (M0 : Nat -> Prop) (hM0 : Ups B M0 w)
  (I : (Nat -> Prop) -> List α -> World -> Prop) (Ix : Code -> (Nat -> Prop) -> List α -> World -> Prop) (hI : AbidX B M0 I) (hIx : ∀ c, AbidX B M0 (Ix c)) (hIX : ∀ M s W, I M s W -> X W) (h0 : I M0 [] w)
  (hround : ∀ (l : Nat) (M : Nat -> Prop) (pre : List α) (x : α) (args : Array Value) (W : World), (∀ k, M0 k -> M k) -> Ups B M W -> w.heap.size <= W.heap.size -> Below n w W -> I M pre W -> Enc W x args -> pre ++ [x] <+: es ->
   assign.wpIn (Fence.wide.inRound l) 0 P (Exit.then (fun a₁ W₁ => I M pre W₁ /\ Kp n M W W₁ /\ ∀ W₂, I M pre W₂ -> Turn M M W₁ W₂ -> (∀ p, W₂.cell? p = W₁.cell? p) -> (∀ p, W₂.frozen? p = W₁.frozen? p) -> body.wpIn (Fence.wide.inRound l) 0 P (qok_ n I Ix M (pre ++ [x]) W₂) a₁ W₂) (fun _ _ _ => False))
    { tmps := (ps.zip args).foldl (fun t (p, v) => t.setIfInBounds p v) a.tmps, defers := [] } W)
  (hdone : ∀ (D : Nat) (M : Nat -> Prop) (W : World), (∀ k, M0 k -> M k) -> Ups B M W -> w.heap.size <= W.heap.size -> M D -> I M es W -> W.heap[D]? = some (.deferred (some [])) -> Q .normal { a with defers := { target := .collected D, args := #[] } :: a.defers } W)
  (hstop : ∀ (D : Nat) (c : Code) (M : Nat -> Prop) (pre : List α) (W : World), (∀ k, M0 k -> M k) -> Ups B M W -> w.heap.size <= W.heap.size -> M D -> pre <+: es -> Ix c M pre W -> W.heap[D]? = some (.deferred (some [])) -> c.wpIn Fence.wide m P Q { a with defers := { target := .collected D, args := #[] } :: a.defers } W) :
  (Code.rangeFunc g ps assign body).wpIn Fence.wide m P Q a w := by
 refine wpIn_rangeFunc ?_
 intro fn hfn
 obtain ⟨rec, hrec⟩ : ∃ rec : LoopState -> Option Code -> Loop, rec = fun st pe => { state := st, pending := pe, fn, tmps := a.tmps, params := ps, assign, body, defers := w.heap.size } := ⟨_, rfl⟩
 obtain ⟨W1, hW1⟩ : ∃ W1, (w.alloc (.deferred (some []))).alloc (.loop (rec .ready none)) = W1 := ⟨_, rfl⟩
 have hL1 : W1.heap[w.heap.size + 1]? = some (.loop (rec .ready none)) := by
  rw [<- hW1]; have := World.alloc_heap_new (w.alloc (.deferred (some []))) (.loop (rec .ready none)); rwa [World.size_alloc] at this
 have hK1 : W1.heap[w.heap.size]? = some (.deferred (some [])) := by
  rw [<- hW1]; exact (Below.heap_alloc _ _ _ (by simp)).trans (World.alloc_heap_new w _)
 have hS1 : W1.heap.size = w.heap.size + 2 := by rw [<- hW1]; simp
 have hbw : Below w.heap.size w W1 := by rw [<- hW1]; exact ((Below.refl _ w).alloc (Nat.le_refl _) _).alloc (by simp) _
 obtain ⟨R, hR⟩ : ∃ R : (Nat -> Prop) -> Nat -> Prop, R = fun T k => M0 k \/ (k = w.heap.size \/ k = w.heap.size + 1) \/ T k := ⟨_, rfl⟩
 have hRM : ∀ T k, M0 k -> R T k := fun T k h => by rw [hR]; exact .inl h
 have hRT : ∀ T k, T k -> R T k := fun T k h => by rw [hR]; exact .inr (.inr h)
 have hR0 : ∀ T, R T w.heap.size := fun T => by rw [hR]; exact .inr (.inl (.inl rfl))
 have hR1 : ∀ T, R T (w.heap.size + 1) := fun T => by rw [hR]; exact .inr (.inl (.inr rfl))
 have hRU : ∀ T W, W1.heap.size <= W.heap.size -> Ups W1.heap.size T W -> Ups B (R T) W := fun T W hs hT k hk => by
  rw [hR] at hk
  rcases hk with h | (h | h) | h
  ·exact ⟨(hM0 k h).1, by have := (hM0 k h).2; omega⟩
  ·omega
  ·omega
  ·have := hT k h; omega
 have hRR : ∀ T T' W W', Turn T T' W W' -> Turn (R T) (R T') W W' := fun T T' W W' h => ⟨h.os, h.tape, h.output, h.size, fun k hk hn => h.same k hk (fun h2 => hn (hRT T k h2)), fun k hk => by
  rw [hR] at hk ⊢
  exact hk.imp id (fun h2 => h2.imp id (h.sub k)), fun k hk => by
  rw [hR] at hk ⊢
  rcases hk with h2 | h2 | h2
  ·exact .inl (.inl h2)
  ·exact .inl (.inr (.inl h2))
  ·exact (h.fresh k h2).imp (fun h3 => .inr (.inr h3)) id⟩
 have hI1 : I (R fun _ => False) [] W1 := by
  refine hI _ _ _ _ _ h0 hB hM0 ⟨hbw.os, hbw.tape, hbw.output, hbw.size, fun k hk _ => hbw.block k hk, hRM _, fun k hk => ?_⟩ (fun k hk => hbw.block k (hM0 k hk).2)
  rw [hR] at hk
  rcases hk with h | h | h
  ·exact .inl h
  ·exact .inr (by omega)
  ·exact h.elim
 refine ⟨w.heap.size + 1, [{ target := .collected w.heap.size, args := #[] }], W1, { target := .fn (.func gf) lb, args := #[.func (.yield (w.heap.size + 1)) #[] #[]] }, W1, gf,
  #[.func (.yield (w.heap.size + 1)) #[] #[]] ++ lb, W1, ?_, ?_, ?_, ?_, fun h => by simp [Fence.wide] at h, ?_⟩
 ·rw [<- hW1, hrec]; exact run_enterLoop_outer _ _ _ _ _
 ·simp only [resolve, hg]
  simp [go_sem]
 ·intro f' hf'; exact trivial
 ·simp [invoke, go_sem, eg]
 refine callsIn_wide.2 ?_
 have keepR : ∀ {T T' : Nat -> Prop} {A C : World} {k : Nat} {o : Obj}, Ups W1.heap.size T A -> k < W1.heap.size -> A.heap[k]? = some o -> Turn T T' A C -> C.heap[k]? = some o := fun hT hk h ht =>
  (ht.same _ (Array.getElem?_eq_some_iff.1 h).1 (fun h2 => by have := (hT _ h2).1; omega)).trans h
 have stay : ∀ {T T' : Nat -> Prop} {A C : World}, Ups W1.heap.size T A -> W1.heap.size <= A.heap.size -> Turn T T' A C -> ∀ k, M0 k -> C.heap[k]? = A.heap[k]? := fun hT hsz ht k hk => ht.same k (by have := (hM0 k hk).2; omega) (fun h2 => by have := (hT _ h2).1; have := (hM0 k hk).2; omega)
 have put : ∀ (A : World) (o : Obj) (k : Nat), M0 k -> (A.putObj (w.heap.size + 1) o).heap[k]? = A.heap[k]? := fun A o k hk => World.putObj_heap_other (by have := (hM0 k hk).2; omega)
 refine (hseq (w.heap.size + 1)
  (fun T pre W => I (R T) pre W /\ W.heap[w.heap.size + 1]? = some (.loop (rec .ready none)) /\ W.heap[w.heap.size]? = some (.deferred (some [])))
  (fun T pre W => ∃ c, Ix c (R T) pre W /\ W.heap[w.heap.size + 1]? = some (.loop (rec .done (some c))) /\ W.heap[w.heap.size]? = some (.deferred (some [])))
  W1 (hb0.trans (hbw.mono hb0.size))
  (fun T T' s A C hs hsz hT ht => ⟨hI _ _ _ _ _ hs.1 (by omega) (hRU T A hsz hT) (hRR _ _ _ _ ht) (stay hT hsz ht), keepR hT (by omega) hs.2.1 ht, keepR hT (by omega) hs.2.2 ht⟩)
  (fun T T' s A C hs hsz hT ht => by
   obtain ⟨c, hc, hl, hk⟩ := hs
   exact ⟨c, hIx c _ _ _ _ _ hc (by omega) (hRU T A hsz hT) (hRR _ _ _ _ ht) (stay hT hsz ht), keepR hT (by omega) hl ht, keepR hT (by omega) hk ht⟩)
  (fun T s W1 h => hIX _ _ _ h.1)
  ?_ ⟨hI1, hL1, hK1⟩).mono ?_
 ·rintro T pre x args W ⟨hi, hl, hk⟩ hT hsz hbn henc hpre
  have hTR := hRU T W hsz hT
  have hy := run_yield (P := P) (args := args) hl (by rw [hrec]; exact hps W x args henc)
  rw [hrec] at hy
  refine ⟨fn, _, assign, body, hy, roundIn_of_wpIn hfn (wpIn_mono (hround _ (R T) pre x args W (hRM T) hTR (by omega) ((hbw.mono hn).trans hbn) hi henc hpre) ?_)⟩
  rintro e a₁ Wa hp
  cases e with
  | normal =>
   obtain ⟨hia, hka, hbody⟩ := hp
   have hla : Wa.heap[w.heap.size + 1]? = some (.loop (rec .ready none)) := (hka.same _ (hR1 T)).trans hl
   have hkk : Wa.heap[w.heap.size]? = some (.deferred (some [])) := (hka.same _ (hR0 T)).trans hk
   have hlt := (Array.getElem?_eq_some_iff.1 hla).1
   have hTa : Ups B (R T) Wa := hTR.more hka.below.size
   refine ⟨_, run_beginRound hla (by rw [hrec]), ?_⟩
   obtain ⟨Wb, hWb⟩ : ∃ Wb, Wa.putObj (w.heap.size + 1) (.loop { rec .ready none with state := .busy }) = Wb := ⟨_, rfl⟩
   have hlb : Wb.heap[w.heap.size + 1]? = some (.loop { rec .ready none with state := .busy }) := by rw [<- hWb]; exact World.putObj_heap_same hlt
   have hkb : Wb.heap[w.heap.size]? = some (.deferred (some [])) := by rw [<- hWb]; exact (World.putObj_heap_other (by omega)).trans hkk
   have htb : Turn (R T) (R T) Wa Wb := by rw [<- hWb]; exact Turn.putObj Wa (hR1 T) _
   have hsb : Wb.heap.size = Wa.heap.size := by rw [<- hWb]; simp
   have hbo := hbody Wb (hI _ _ _ _ _ hia (by have := hka.below.size; omega) hTa htb (fun k hk => by rw [<- hWb]; exact put Wa _ k hk)) htb (fun p => by rw [<- hWb]; exact cell_loop hla p) (fun p => by rw [<- hWb]; exact qlz_ hla p)
   rw [hWb]
   refine wpIn_mono hbo ?_
   have oth : ∀ k, (k < n \/ T k) -> Wb.heap[k]? = Wa.heap[k]? := fun k hk => by
    rw [<- hWb]
    exact World.putObj_heap_other (by
     rcases hk with h | h
     ·omega
     ·have := (hT k h).1; omega)
   have kab : Kp n T W Wb := ⟨hka.below.trans ⟨htb.os, htb.tape, htb.output, htb.size, fun k hk => oth k (.inl hk)⟩, fun k hk => (oth k (.inr hk)).trans (hka.same k (hRT T k hk))⟩
   have fin : ∀ (jump : Option Code) (W3 : World), Kp n (R T) Wb W3 -> ∃ W4, (Instr.endRound (w.heap.size + 1) jump).run P W3 = .ok (.bool jump.isNone) W4 /\ (∀ k, M0 k -> W4.heap[k]? = W3.heap[k]?) /\ Turn (R T) (R T) W3 W4 /\ Ups B (R T) W3 /\ B <= W3.heap.size /\ Kp n T W W4 /\
     W4.heap[w.heap.size + 1]? = some (.loop (rec (if jump.isNone then .ready else .done) jump)) /\ W4.heap[w.heap.size]? = some (.deferred (some [])) := fun jump W3 hk3 => by
    have hl3 := (hk3.same _ (hR1 T)).trans hlb
    have hlt3 := (Array.getElem?_eq_some_iff.1 hl3).1
    have hr := run_endRound (P := P) jump hl3
    have hsz3 := hk3.below.size
    have hsza := hka.below.size
    refine ⟨_, hr, put W3 _, Turn.putObj W3 (hR1 T) _, hTa.more (by omega), by omega, ?_, ?_, ?_⟩
    ·have oth3 : ∀ k, (k < n \/ T k) -> (W3.putObj (w.heap.size + 1) (.loop { rec .ready none with state := if jump.isNone then .ready else .done, pending := jump })).heap[k]? = W3.heap[k]? := fun k hk => World.putObj_heap_other (by
      rcases hk with h | h
      ·omega
      ·have := (hT k h).1; omega)
     refine ⟨kab.below.trans (hk3.below.trans ⟨rfl, rfl, rfl, by simp, fun k hk => ?_⟩), fun k hk => ?_⟩
     ·have := oth3 k (.inl hk); simpa using this
     ·have := oth3 k (.inr hk)
      refine Eq.trans (by simpa using this) ((hk3.same k (hRT T k hk)).trans (kab.same k hk))
    ·have := World.putObj_heap_same (w := W3) (r := w.heap.size + 1) (o := .loop { rec .ready none with state := if jump.isNone then .ready else .done, pending := jump }) hlt3
     rw [hrec] at this ⊢
     exact this
    ·exact (World.putObj_heap_other (by omega)).trans ((hk3.same _ (hR0 T)).trans hkb)
   rintro e a3 W3 hp
   cases e with
   | normal =>
    obtain ⟨hk3, hi3⟩ := hp
    obtain ⟨W4, hr, hs4, ht4, hu3, hs3, hk4, hl4, hd4⟩ := fin none W3 hk3
    exact ⟨_, _, hr, hk4, .inl ⟨rfl, hI _ _ _ _ _ hi3 hs3 hu3 ht4 hs4, hl4, hd4⟩⟩
   | ret =>
    obtain ⟨hk3, hi3⟩ := hp
    obtain ⟨W4, hr, hs4, ht4, hu3, hs3, hk4, hl4, hd4⟩ := fin (some .ret) W3 hk3
    exact ⟨_, _, hr, hk4, .inr ⟨rfl, .ret, hIx _ _ _ _ _ _ hi3 hs3 hu3 ht4 hs4, hl4, hd4⟩⟩
   | exit id =>
    obtain ⟨hk3, hi3⟩ := hp
    obtain ⟨W4, hr, hs4, ht4, hu3, hs3, hk4, hl4, hd4⟩ := fin (some (.exit id)) W3 hk3
    exact ⟨_, _, hr, hk4, .inr ⟨rfl, .exit id, hIx _ _ _ _ _ _ hi3 hs3 hu3 ht4 hs4, hl4, hd4⟩⟩
   | goto t =>
    obtain ⟨hk3, hi3⟩ := hp
    obtain ⟨W4, hr, hs4, ht4, hu3, hs3, hk4, hl4, hd4⟩ := fin (some (.goto t)) W3 hk3
    exact ⟨_, _, hr, hk4, .inr ⟨rfl, .goto t, hIx _ _ _ _ _ _ hi3 hs3 hu3 ht4 hs4, hl4, hd4⟩⟩
   | panic ch => exact hp.elim
   | outgrown => exact hp.elim
  | ret => exact hp.elim
  | exit id => exact hp.elim
  | goto t => exact hp.elim
  | panic ch => exact hp.elim
  | outgrown => exact hp.elim
 ·rintro e W2 ⟨⟨v, rfl⟩, T, hT, hsz, (⟨hi, hl, hk⟩ | ⟨pre, hpre, c, hi, hl, hk⟩)⟩
  ·refine ⟨none, _, by have := run_endLoop (P := P) hl (by rw [hrec]; simp); rw [hrec] at this; exact this, ?_⟩
   exact hdone _ (R T) _ (hRM T) ((hRU T W2 hsz hT).more (by simp)) (by simp; omega) (hR0 T) (hI _ _ _ _ _ hi (by omega) (hRU T W2 hsz hT) (Turn.putObj W2 (hR1 T) _) (put W2 _)) ((World.putObj_heap_other (by omega)).trans hk)
  ·refine ⟨some c, _, by have := run_endLoop (P := P) hl (by rw [hrec]; simp); rw [hrec] at this; exact this, ?_⟩
   exact hstop _ c (R T) pre _ (hRM T) ((hRU T W2 hsz hT).more (by simp)) (by simp; omega) (hR0 T) hpre (hIx c _ _ _ _ _ hi (by omega) (hRU T W2 hsz hT) (Turn.putObj W2 (hR1 T) _) (put W2 _)) ((World.putObj_heap_other (by omega)).trans hk)
theorem qb9_ {P : Program} {α : Type} {g : Operand} {ps : Array Tmp} {assign body : Code} {Q : Exit -> Act -> World -> Prop} {a : Act} {w : World} {m : Nat}
  {gf : Nat} {lb : Array Value} (hg : a.eval g = .func (.func gf) #[] lb) (eg : ∀ args w, (callFunc gf args).run P w = .ok (.enter gf args) w)
  {n : Nat} {Enc : World -> α -> Array Value -> Prop} {es : List α} {w0 : World} (hseq : Walks P gf lb n Enc es w0) (hb0 : Below w0.heap.size w0 w) (hn : n <= w.heap.size) (hps : ∀ W x args, Enc W x args -> args.size = ps.size)
  (B : Nat) (hB : B <= w.heap.size) (M0 : Nat -> Prop) (hM0 : Ups B M0 w)
  (I : (Nat -> Prop) -> List α -> World -> Prop) (Ix : Code -> (Nat -> Prop) -> List α -> World -> Prop) (hI : AbidX B M0 I) (hIx : ∀ c, AbidX B M0 (Ix c)) (h0 : I M0 [] w)
  (hround : ∀ (l : Nat) (M : Nat -> Prop) (pre : List α) (x : α) (args : Array Value) (W : World), (∀ k, M0 k -> M k) -> Ups B M W -> w.heap.size <= W.heap.size -> Below n w W -> I M pre W -> Enc W x args -> pre ++ [x] <+: es ->
   assign.wpIn (Fence.wide.inRound l) 0 P (Exit.then (fun a₁ W₁ => I M pre W₁ /\ Kp n M W W₁ /\ ∀ W₂, I M pre W₂ -> Turn M M W₁ W₂ -> (∀ p, W₂.cell? p = W₁.cell? p) -> (∀ p, W₂.frozen? p = W₁.frozen? p) -> body.wpIn (Fence.wide.inRound l) 0 P (qok_ n I Ix M (pre ++ [x]) W₂) a₁ W₂) (fun _ _ _ => False))
    { tmps := (ps.zip args).foldl (fun t (p, v) => t.setIfInBounds p v) a.tmps, defers := [] } W)
  (hdone : ∀ (D : Nat) (M : Nat -> Prop) (W : World), (∀ k, M0 k -> M k) -> Ups B M W -> w.heap.size <= W.heap.size -> M D -> I M es W -> W.heap[D]? = some (.deferred (some [])) -> Q .normal { a with defers := { target := .collected D, args := #[] } :: a.defers } W)
  (hstop : ∀ (D : Nat) (c : Code) (M : Nat -> Prop) (pre : List α) (W : World), (∀ k, M0 k -> M k) -> Ups B M W -> w.heap.size <= W.heap.size -> M D -> pre <+: es -> Ix c M pre W -> W.heap[D]? = some (.deferred (some [])) -> c.wpIn Fence.wide m P Q { a with defers := { target := .collected D, args := #[] } :: a.defers } W) :
  (Code.rangeFunc g ps assign body).wpIn Fence.wide m P Q a w :=
 qa3_ (X := fun _ => True) hg eg (fun l J Jx W a b c _ d e => hseq l J Jx W a b c d e) hb0 hn hps B hB M0 hM0 I Ix hI hIx (fun _ _ _ _ => trivial) h0 hround hdone hstop
end
section
variable {F : Fence} {n : Nat} {P : Program} {ops : Array Oper} {l : List Oper} {Q : Exit -> Act -> World -> Prop} {S : World -> Prop} {fr : List Nat}
def qc8_ (F : Fence) (n : Nat) (P : Program) (ops : Array Oper) (Q : Exit -> Act -> World -> Prop) (S : World -> Prop) (fr : List Nat) : Nat -> Array Bool -> Act -> World -> Prop
 | 0, listed, a, w => Region.ready .any ops listed = [] /\ Q .normal a w
 | fuel + 1, listed, a, w => (Region.ready .any ops listed = [] -> Q .normal a w) /\
  ∀ i ∈ Region.ready .any ops listed, wpOpIn F n P ops Q i (fun a' w' => (fr.contains i = false -> S w') /\ qc8_ F n P ops Q S fr fuel (listed.setIfInBounds i true) a' w') a w
theorem qka_ : ∀ (fuel : Nat) (listed : Array Bool) (a : Act) (w : World), qc8_ F n P ops Q S fr fuel listed a w -> wpAnyIn F n P .any ops Q fuel listed a w
 | 0, _, _, _, h => h
 | fuel + 1, _, _, _, h => ⟨h.1, fun i hi => wpOpIn_mono (fun a' w' h' => qka_ fuel _ a' w' h'.2) (h.2 i hi)⟩
theorem op_yields (hF : ∀ f, F.fn f) {i : Nat} {o : Oper} {v : Value} {a : Act} (hi : ops[i]? = some o) (hd : ∀ c, o.op ≠ .defer c) (hy : YieldsIf P ops S o v a) {K : Act -> World -> Prop} {w : World} (hS : S w) (h : K (a.put o.dst v) w) : wpOpIn F n P ops Q i K a w := by
 unfold wpOpIn
 simp only [hi]
 rcases hy with ⟨hw, hv⟩ | ⟨hw, rfl⟩
 ·rw [if_pos hw]
  unfold Oper.wpIn
  rw [Oper.semAt_plain F _ _ hd, hv w hS]
  exact ⟨fun f _ => hF f, h⟩
 ·rw [if_neg (by rw [hw]; simp)]
  exact ⟨fun f _ => hF f, h⟩
theorem op_past (hF : ∀ f, F.fn f) {j : Nat} {oi oj : Oper} {v : Value} (hj : ops[j]? = some oj) (hd : ∀ c, oj.op ≠ .defer c) (hap : oi.apart ops oj = true) (hsi : ∀ cs b, oi.op ≠ .select cs b) (hsj : ∀ cs b, oj.op ≠ .select cs b)
  (hQ : ∀ c a w, Q (.panic c) (a.put oi.dst v) w -> Q (.panic c) a w) {K : Act -> World -> Prop} {a : Act} {w : World} (hy : YieldsIf P ops S oi v a) (h : wpOpIn F n P ops Q j K (a.put oi.dst v) w) :
  wpOpIn F n P ops Q j (fun a' w' => YieldsIf P ops S oi v a' /\ K (a'.put oi.dst v) w') a w := by
 obtain ⟨h1, h2, h3⟩ := Oper.apart_spec hap
 have keep : ∀ u, YieldsIf P ops S oi v (a.put oj.dst u) := fun u => hy.of_same (execOp_put oi hsi a oj.dst u h3) (wanted_put oi a oj.dst u h3)
 have turn : ∀ u (w'' : World), K ((a.put oi.dst v).put oj.dst u) w'' -> K ((a.put oj.dst u).put oi.dst v) w'' := fun u w'' hk => by rw [<- Act.put_comm a v u h2]; exact hk
 unfold wpOpIn at *
 simp only [hj] at *
 rw [wanted_put oj a oi.dst v h1] at h
 by_cases hw : Region.wanted oj (yielded ops a.tmps) = true
 ·rw [if_pos hw] at h ⊢
  unfold Oper.wpIn at *
  refine ⟨fun f _ => hF f, ?_⟩
  have h := h.2
  rw [Oper.semAt_plain F _ _ hd, execOp_put oj hsj a oi.dst v h1] at h
  rw [Oper.semAt_plain F _ _ hd]
  generalize (execOp a.eval oj).run P w = r at *
  cases r with
  | halt x w' =>
   cases x <;> simp only [Oper.uponIn] at h ⊢
   exact hQ _ _ _ h
  | ok x w' =>
   cases x with
   | value u => exact ⟨keep u, turn u w' h⟩
   | skip => exact ⟨keep undef, turn undef w' h⟩
   | defer d =>
    simp only [Oper.uponIn] at h ⊢
    refine ⟨hy.of_same (a' := ({ a with defers := d :: a.defers } : Act).put oj.dst undef) ((execOp_put oi hsi { a with defers := d :: a.defers } oj.dst undef h3).trans rfl) ((wanted_put oi { a with defers := d :: a.defers } oj.dst undef h3).trans rfl), ?_⟩
    rw [<- Act.put_comm _ v undef h2, <- Act.put_defers]
    exact h
   | enter f args =>
    simp only [Oper.uponIn] at h ⊢
    refine ⟨h.1, h.2.mono fun e w'' he => ?_⟩
    cases e with
    | returned u => exact ⟨keep u, turn u w'' he⟩
    | panicked c => exact hQ _ _ _ he
    | outgrown => exact he
   | row row args =>
    simp only [Oper.uponIn] at h ⊢
    exact ⟨h.1, h.2.mono fun u w'' he => ⟨keep u, turn u w'' he⟩⟩
   | round l f tmps assign body =>
    simp only [Oper.uponIn] at h ⊢
    refine ⟨h.1, h.2.mono fun e w'' he => ?_⟩
    cases e with
    | returned u => exact ⟨keep u, turn u w'' he⟩
    | panicked c => exact hQ _ _ _ he
    | outgrown => exact he
   | _ => simp only [Oper.uponIn] at h
 ·rw [if_neg hw] at h ⊢
  exact ⟨fun f _ => hF f, keep undef, turn undef w h.2⟩
theorem ql9_ (hF : ∀ f, F.fn f) {i : Nat} {oi : Oper} {v : Value} (hi : ops[i]? = some oi) (hd : ∀ (j : Nat) (o : Oper) c, ops[j]? = some o -> o.op ≠ .defer c) (hsel : ∀ (j : Nat) (o : Oper) cs b, ops[j]? = some o -> o.op ≠ .select cs b)
  (hQ : ∀ c a w, Q (.panic c) (a.put oi.dst v) w -> Q (.panic c) a w) (hfr : ∀ (j : Nat) (o : Oper), ops[j]? = some o -> fr.contains j = true -> ∃ e ∈ o.after, Region.binds .any e = true /\ e.on = i) : ∀ (fuel : Nat) (listed : Array Bool) (a : Act) (w : World),
   (∀ j oj, ops[j]? = some oj -> j ≠ i -> listed.getD j true = false -> (∀ e ∈ oj.after, Region.binds .any e = true -> e.on ≠ i) -> oi.apart ops oj = true) ->
   i ∈ Region.ready .any ops listed -> YieldsIf P ops S oi v a -> S w ->
   qc8_ F n P ops Q S fr fuel (listed.setIfInBounds i true) (a.put oi.dst v) w -> qc8_ F n P ops Q S fr (fuel + 1) listed a w := by
 have self : ∀ fuel (listed : Array Bool) a w, YieldsIf P ops S oi v a -> S w -> qc8_ F n P ops Q S fr fuel (listed.setIfInBounds i true) (a.put oi.dst v) w -> wpOpIn F n P ops Q i (fun a' w' => (fr.contains i = false -> S w') /\ qc8_ F n P ops Q S fr fuel (listed.setIfInBounds i true) a' w') a w :=
  fun fuel listed a w hy hS H => op_yields hF hi (fun c => hd i oi c hi) hy hS ⟨fun _ => hS, H⟩
 intro fuel
 induction fuel with
 | zero =>
  intro listed a w _ hr hy hS H
  refine ⟨fun h => by rw [h] at hr; exact absurd hr List.not_mem_nil, fun j hj => ?_⟩
  by_cases hji : j = i
  ·subst hji; exact self 0 listed a w hy hS H
  ·have h0 := ready_mono hj hji
   rw [H.1] at h0
   exact absurd h0 List.not_mem_nil
 | succ fuel ih =>
  intro listed a w hfree hr hy hS H
  refine ⟨fun h => by rw [h] at hr; exact absurd hr List.not_mem_nil, fun j hj => ?_⟩
  by_cases hji : j = i
  ·subst hji; exact self _ listed a w hy hS H
  obtain ⟨hjun, oj, hoj, hall⟩ := mem_ready.1 hj
  have hnot : ∀ e ∈ oj.after, Region.binds .any e = true -> e.on ≠ i := fun e he hb heq => by
   have g1 := hall e he hb
   have g0 := (mem_ready.1 hr).1
   rw [heq] at g1
   rcases Nat.lt_or_ge i listed.size with h' | h'
   ·simp [h'] at g0 g1; rw [g0] at g1; cases g1
   ·simp [Array.getElem?_eq_none h'] at g1
  have hneed : fr.contains j = false := by
   rcases h : fr.contains j with _ | _
   ·rfl
   ·obtain ⟨e, he, hb, heq⟩ := hfr j oj hoj h
    exact absurd heq (hnot e he hb)
  refine wpOpIn_mono (fun a' w' g => ⟨fun _ => g.2.1 hneed, ih (listed.setIfInBounds j true) a' w' (fun k ok hk hki hun hno => hfree k ok hk hki ?_ hno) (ready_mono hr (Ne.symm hji)) g.1 (g.2.1 hneed) ?_⟩)
   (op_past hF hoj (fun c => hd j oj c hoj) (hfree j oj hoj hji hjun hnot) (fun cs b => hsel i oi cs b hi) (fun cs b => hsel j oj cs b hoj) hQ hy (H.2 j (ready_mono hj hji)))
  ·by_cases hjk : j = k
   ·subst hjk; exact hjun
   ·rw [getD_set_ne true hjk] at hun; exact hun
  ·rw [Array.setIfInBounds_comm _ _ hji]; exact g.2.2
def qnq_ (ops : List Oper) : Bool := ops.all fun o => match o.op with | .defer _ => false | _ => true
theorem qj0_ (h : qnq_ l = true) : ∀ (j : Nat) (o : Oper) c, l.toArray[j]? = some o -> o.op ≠ .defer c := fun j o c hj e => by
 have := List.all_eq_true.1 h o (List.mem_of_getElem? (by simpa using hj))
 rw [e] at this
 cases this
def frOk (l : List Oper) (fr : List Nat) (i : Nat) : Bool := fr.all fun j => match l[j]? with | some o => o.after.toList.any fun e => Region.binds .any e && decide (e.on = i) | none => true
theorem frOk_spec {i : Nat} (h : frOk l fr i = true) : ∀ (j : Nat) (o : Oper), l.toArray[j]? = some o -> fr.contains j = true -> ∃ e ∈ o.after, Region.binds .any e = true /\ e.on = i := fun j o hj hc => by
 have h1 := List.all_eq_true.1 h j (by simpa using hc)
 have h2 : l[j]? = some o := by simpa using hj
 rw [h2] at h1
 obtain ⟨e, he, h3⟩ := List.any_eq_true.1 h1
 simp only [Bool.and_eq_true, decide_eq_true_eq] at h3
 exact ⟨e, by simpa using he, h3.1, h3.2⟩
theorem in_take (i : Nat) {oi : Oper} {v : Value} {fuel : Nat} {listed : Array Bool} {a : Act} {w : World} (hF : ∀ f, F.fn f) (hi : l[i]? = some oi) (hnd : qnq_ l = true) (hs : Region.noSelect l.toArray = true) (hf : Region.free .any l.toArray listed i = true)
  (hr : (Region.ready .any l.toArray listed).contains i = true) (hQ : ∀ c a w, Q (.panic c) (a.put oi.dst v) w -> Q (.panic c) a w) (hw : Region.wanted oi (yielded l.toArray a.tmps) = true) (hfr : frOk l fr i = true)
  (hS : S w) (hy : ∀ w, S w -> (execOp a.eval oi).run P w = .ok (.value v) w) (h : S w -> qc8_ F n P l.toArray Q S fr fuel (listed.setIfInBounds i true) (a.put oi.dst v) w) : qc8_ F n P l.toArray Q S fr (fuel + 1) listed a w :=
 ql9_ hF (by simpa using hi) (qj0_ hnd) (Region.noSelect_spec hs) hQ (frOk_spec hfr) fuel listed a w (Region.free_spec (by simpa using hi) hf) (by simpa using hr) (.inl ⟨hw, hy⟩) hS (h hS)
theorem tkI (i : Nat) {oi : Oper} {v : Value} {fuel : Nat} {listed : Array Bool} {a a' : Act} {w : World} (hS : S w) (h : S w -> qc8_ F n P l.toArray Q S fr fuel (listed.setIfInBounds i true) a' w)
  (hF : ∀ f, F.fn f := by exact fun _ => trivial) (hi : l[i]? = some oi := by rfl) (hnd : qnq_ l = true := by kernel_rfl) (hs : Region.noSelect l.toArray = true := by kernel_rfl) (hf : Region.free .any l.toArray listed i = true := by kernel_rfl)
  (hr : (Region.ready .any l.toArray listed).contains i = true := by kernel_rfl) (hQ : ∀ c a w, Q (.panic c) (a.put oi.dst v) w -> Q (.panic c) a w := by exact fun _ _ _ h => h) (hw : Region.wanted oi (yielded l.toArray a.tmps) = true := by rfl) (hfr : frOk l fr i = true := by kernel_rfl)
  (hy : ∀ w, S w -> (execOp a.eval oi).run P w = .ok (.value v) w := by (intro w hSw; (try dsimp only at hSw); go_simp; (try with_reducible rfl)))
  (ha : a.put oi.dst v = a' := by (simp only [Act.put, List.setIfInBounds_toArray, List.set_cons_zero, List.set_cons_succ]; rfl)) : qc8_ F n P l.toArray Q S fr (fuel + 1) listed a w :=
 in_take i hF hi hnd hs hf hr hQ hw hfr hS hy (by rw [ha]; exact h)
theorem qb1_ (i : Nat) {oi : Oper} {fuel : Nat} {listed : Array Bool} {a : Act} {w : World} (hr : Region.ready .any l.toArray listed = [i]) (hi : l[i]? = some oi) (hw : Region.wanted oi (yielded l.toArray a.tmps) = true)
  (h : ∀ K : Act -> World -> Prop, Shut (∀ a w, S w -> (S w -> qc8_ F n P l.toArray Q S fr fuel (listed.setIfInBounds i true) a w) -> K a w) -> Oper.wpIn F n P oi a w K Q) : qc8_ F n P l.toArray Q S fr (fuel + 1) listed a w := by
 refine ⟨fun h0 => (by rw [hr] at h0; cases h0), fun j hj => ?_⟩
 rw [hr] at hj
 obtain rfl := List.mem_singleton.1 hj
 unfold wpOpIn
 rw [show l.toArray[j]? = some oi by simpa using hi]
 simp only
 rw [if_pos hw]
 exact h _ (fun a w hS hk => ⟨fun _ => hS, hk hS⟩)
theorem qk9_ (i : Nat) {oi : Oper} {fuel : Nat} {listed : Array Bool} {a : Act} {w : World} (hr : Region.ready .any l.toArray listed = [i]) (hi : l[i]? = some oi) (hw : Region.wanted oi (yielded l.toArray a.tmps) = true) (hc : fr.contains i = true)
  (h : ∀ K : Act -> World -> Prop, Shut (∀ a w, qc8_ F n P l.toArray Q S fr fuel (listed.setIfInBounds i true) a w -> K a w) -> Oper.wpIn F n P oi a w K Q) : qc8_ F n P l.toArray Q S fr (fuel + 1) listed a w := by
 refine ⟨fun h0 => (by rw [hr] at h0; cases h0), fun j hj => ?_⟩
 rw [hr] at hj
 obtain rfl := List.mem_singleton.1 hj
 unfold wpOpIn
 rw [show l.toArray[j]? = some oi by simpa using hi]
 simp only
 rw [if_pos hw]
 exact h _ (fun a w hk => ⟨fun e => (by rw [hc] at e; cases e), hk⟩)
theorem qcg_ {listed : Array Bool} {a : Act} {w : World} (hr : Region.ready .any ops listed = []) (h : Q .normal a w) : ∀ fuel, qc8_ F n P ops Q S fr fuel listed a w
 | 0 => ⟨hr, h⟩
 | _ + 1 => ⟨fun _ => h, by rw [hr]; simp⟩
theorem qc2_ {id : Nat} {a : Act} {w : World} (hm : P.follows .mixedOrders = true) (hS : S w.drew) (h : S w.drew -> qc8_ F n P ops Q S [] ops.size (Array.replicate ops.size false) a w.drew) : (Code.region id ops true).wpIn F n P Q a w :=
 wpIn_region_any hm (qka_ _ _ _ _ (h hS))
theorem qfl_ (fr : List Nat) {id : Nat} {a : Act} {w : World} (hm : P.follows .mixedOrders = true) (hS : S w.drew) (h : S w.drew -> qc8_ F n P ops Q S fr ops.size (Array.replicate ops.size false) a w.drew) : (Code.region id ops true).wpIn F n P Q a w :=
 wpIn_region_any hm (qka_ _ _ _ _ (h hS))
end
end Go.Proofs.YtcfinbapfhhpgaaGreatDoor
