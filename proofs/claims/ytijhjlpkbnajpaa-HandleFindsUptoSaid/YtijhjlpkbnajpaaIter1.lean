/-
  Iter, part 1: what the proofs of this claim lean on.
-/
import Derived.RangeFuncNested
import Derived.RangeFuncBound
import Derived.RangeFuncCalls
import Derived.RangeFuncLeaves
import Derived.Shelf.Abstract
import Derived.Shelf.RegionOpen
import Derived.WalkKit
import Derived.OwnWalkIn
import Derived.TacticsInMore
import Derived.LoopNIn
import Derived.LoopIn
import Derived.Test.YtijhjlpkbnajpaaBase1
import Derived.OrdersIn
import Derived.Test.YtijhjlpkbnajpaaBase4
import Derived.Test.YtijhjlpkbnajpaaBase3
import Derived.Laws.EntriesVeiled

/-! A range over a function whose iterator keeps memory of its own: which blocks are the iterator's is told by a set that grows; a round leaves them alone, and the iterator leaves all others alone. -/
namespace Go.Proofs.Ytijhjlpkbnajpaa
open Go.RowKit
set_option linter.unusedVariables false

/-- What the owner of the blocks T does: blocks that are not T's stay; T may gain new blocks. -/
structure Turn (T T' : Nat → Prop) (W W' : World) : Prop where
  os : W'.os = W.os
  tape : W'.tape = W.tape
  output : W'.output = W.output
  size : W.heap.size ≤ W'.heap.size
  same : ∀ k, k < W.heap.size → ¬ T k → W'.heap[k]? = W.heap[k]?
  sub : ∀ k, T k → T' k
  fresh : ∀ k, T' k → T k ∨ (W.heap.size ≤ k ∧ k < W'.heap.size)
/-- T's blocks are there, from B on. -/
def Ups (B : Nat) (T : Nat → Prop) (W : World) : Prop := ∀ k, T k → B ≤ k ∧ k < W.heap.size
/-- What somebody else does: what lay below n stays, and so do T's blocks. -/
structure Kp (n : Nat) (T : Nat → Prop) (W W' : World) : Prop where
  below : Below n W W'
  same : ∀ k, T k → W'.heap[k]? = W.heap[k]?
/-- An invariant that the owner of T does not disturb. -/
def Abid {β : Type} (B : Nat) (J : (Nat → Prop) → β → World → Prop) : Prop := ∀ T T' s W W', J T s W → B ≤ W.heap.size → Ups B T W → Turn T T' W W' → J T' s W'

/-- The same, where moreover the blocks M0 stay. -/
def AbidX {β : Type} (B : Nat) (M0 : Nat → Prop) (J : (Nat → Prop) → β → World → Prop) : Prop := ∀ T T' s W W', J T s W → B ≤ W.heap.size → Ups B T W → Turn T T' W W' → (∀ k, M0 k → W'.heap[k]? = W.heap[k]?) → J T' s W'
theorem Abid.withX {β : Type} {B : Nat} {J : (Nat → Prop) → β → World → Prop} (h : Abid B J) (M0 : Nat → Prop) : AbidX B M0 J := fun T T' s W W' a b c d _ => h T T' s W W' a b c d

section
variable {T T' T'' : Nat → Prop} {W W' W'' : World} {B n : Nat}
theorem Turn.refl (T : Nat → Prop) (W : World) : Turn T T W W := ⟨rfl, rfl, rfl, Nat.le_refl _, fun _ _ _ => rfl, fun _ h => h, fun _ h => .inl h⟩
theorem Turn.trans (h : Turn T T' W W') (k : Turn T' T'' W' W'') : Turn T T'' W W'' :=
  ⟨k.os.trans h.os, k.tape.trans h.tape, k.output.trans h.output, Nat.le_trans h.size k.size, fun i hi hn =>
    (k.same i (Nat.lt_of_lt_of_le hi h.size) (fun h2 => (h.fresh i h2).elim hn (fun h3 => absurd h3.1 (Nat.not_le_of_lt hi)))).trans (h.same i hi hn),
    fun i hi => k.sub i (h.sub i hi), fun i hi => (k.fresh i hi).elim (fun h2 => (h.fresh i h2).imp id (fun h3 => ⟨h3.1, Nat.lt_of_lt_of_le h3.2 k.size⟩)) (fun h2 => .inr ⟨Nat.le_trans h.size h2.1, h2.2⟩)⟩
/-- All that a call does that lays only new blocks, none of them the owner's. -/
theorem Turn.of_below (h : Below W.heap.size W W') : Turn T T W W' := ⟨h.os, h.tape, h.output, h.size, fun k hk _ => h.block k hk, fun _ h => h, fun _ h => .inl h⟩
theorem Turn.below (h : Turn T T' W W') (hT : Ups B T W) (hB : B ≤ W.heap.size) : Below B W W' :=
  ⟨h.os, h.tape, h.output, h.size, fun k hk => h.same k (Nat.lt_of_lt_of_le hk hB) (fun hk' => absurd (hT k hk').1 (Nat.not_le_of_lt hk))⟩
theorem Turn.ups (h : Turn T T' W W') (hT : Ups B T W) (hB : B ≤ W.heap.size) : Ups B T' W' := fun k hk => (h.fresh k hk).elim (fun h2 => ⟨(hT k h2).1, Nat.lt_of_lt_of_le (hT k h2).2 h.size⟩) (fun h2 => ⟨Nat.le_trans hB h2.1, h2.2⟩)
/-- The owner lays a new block, and keeps it. -/
theorem Turn.own (h : Below W.heap.size W W') (k : Nat) (hk : W.heap.size ≤ k ∧ k < W'.heap.size) : Turn T (fun j => T j ∨ j = k) W W' :=
  ⟨h.os, h.tape, h.output, h.size, fun j hj _ => h.block j hj, fun _ h => .inl h, fun j hj => hj.imp id (fun e => by rw [e]; exact hk)⟩
theorem Turn.setCell (W : World) {b : Nat} (hb : T b) (o : Nat) (v : Value) : Turn T T W (W.setCell ⟨b, o, none⟩ v) :=
  ⟨rfl, rfl, rfl, by simp [World.setCell], fun k _ hk => Below.heap_setCell _ _ _ _ (fun e => hk (by rw [e]; exact hb)), fun _ h => h, fun _ h => .inl h⟩
/-- The record of a loop turns. -/
theorem Turn.putObj (W : World) {l : Nat} (hl : T l) (o : Obj) : Turn T T W (W.putObj l o) :=
  ⟨rfl, rfl, rfl, by simp, fun k _ hk => World.putObj_heap_other (fun e => hk (by rw [e]; exact hl)), fun _ h => h, fun _ h => .inl h⟩
theorem Ups.more (hT : Ups B T W) (h : W.heap.size ≤ W'.heap.size) : Ups B T W' := fun k hk => ⟨(hT k hk).1, Nat.lt_of_lt_of_le (hT k hk).2 h⟩
theorem Kp.refl (n : Nat) (T : Nat → Prop) (W : World) : Kp n T W W := ⟨Below.refl _ _, fun _ _ => rfl⟩
theorem Kp.trans (h : Kp n T W W') (k : Kp n T W' W'') : Kp n T W W'' := ⟨h.below.trans k.below, fun i hi => (k.same i hi).trans (h.same i hi)⟩
/-- All that a call does that lays only new blocks. -/
theorem Kp.of_below (h : Below W.heap.size W W') (hn : n ≤ W.heap.size) (hT : Ups B T W) : Kp n T W W' := ⟨h.mono hn, fun k hk => h.block k (hT k hk).2⟩
theorem Kp.sub (h : Kp n T W W') (hs : ∀ k, T' k → T k) : Kp n T' W W' := ⟨h.below, fun k hk => h.same k (hs k hk)⟩
theorem Kp.less {n' : Nat} (h : Kp n T W W') (hn : n' ≤ n) : Kp n' T W W' := ⟨h.below.mono hn, h.same⟩
/-- A store into a block that is not T's. -/
theorem Kp.setCell (W : World) {b : Nat} (hn : n ≤ b) (hb : ¬ T b) (o : Nat) (v : Value) : Kp n T W (W.setCell ⟨b, o, none⟩ v) :=
  ⟨(Below.refl n W).setCell (p := ⟨b, o, none⟩) hn v, fun k hk => Below.heap_setCell _ _ _ _ (fun e => hb (by have e' : k = b := e; rw [← e']; exact hk))⟩
/-- Of a growing row that is not T's. -/
theorem Kp.grown {row : Option Nat} (hg : W.grownBy W' row) (hT : Ups B T W) (hn : n ≤ W.heap.size) (hr : ∀ k, row = some k → n ≤ k ∧ ¬ T k) : Kp n T W W' :=
  ⟨(Below.refl n W).grown hg hn (fun k e => (hr k e).1), fun k hk => hg.block k (hT k hk).2 (fun e => (hr k e.symm).2 hk)⟩
theorem Turn.grown {row : Option Nat} (hg : W.grownBy W' row) (hr : ∀ k, row = some k → T k) : Turn T T W W' :=
  ⟨hg.os, hg.tape, hg.output, hg.size, fun k hk hn => hg.block k hk (fun e => hn (hr k e.symm)), fun _ h => h, fun _ h => .inl h⟩
theorem cell_loop {l : Nat} {r r' : Loop} (h : W.heap[l]? = some (.loop r)) (a : Addr) : (W.putObj l (.loop r')).cell? a = W.cell? a := by
  by_cases e : a.block = l
  · have h1 : (W.putObj l (.loop r')).heap[a.block]? = some (.loop r') := by rw [e]; exact World.putObj_heap_same (Array.getElem?_eq_some_iff.1 h).1
    have h2 : W.heap[a.block]? = some (.loop r) := by rw [e]; exact h
    unfold World.cell?
    rw [h1, h2]
  · exact World.cell?_of_block (World.putObj_heap_other e)
theorem frozen_loop {l : Nat} {r r' : Loop} (h : W.heap[l]? = some (.loop r)) (a : Addr) : (W.putObj l (.loop r')).frozen? a = W.frozen? a := by
  by_cases e : a.block = l
  · have h1 : (W.putObj l (.loop r')).heap[a.block]? = some (.loop r') := by rw [e]; exact World.putObj_heap_same (Array.getElem?_eq_some_iff.1 h).1
    have h2 : W.heap[a.block]? = some (.loop r) := by rw [e]; exact h
    unfold World.frozen?
    rw [h1, h2]
  · exact World.frozen?_of_block (World.putObj_heap_other e)
end

/-- Where no depth is asked the numbers are all one. -/
theorem yield_any {m : Nat} (m' : Nat) {P : Program} {l : Nat} {args : Array Value} {W : World} {R : Ending → World → Prop} (h : YieldAt Fence.wide m P l args W R) : YieldAt Fence.wide m' P l args W R := by
  obtain ⟨fn, tmps, assign, body, hy, hR⟩ := h
  exact ⟨fn, tmps, assign, body, hy, hR.1, fun c cs _ => hR.2 c cs (room_wide _)⟩

/-- The contract of an iterator: es come, one by one, in order; or a part of them, where a round has said 'no more'. -/
def Walks {α : Type} (P : Program) (gf : Nat) (lb : Array Value) (n : Nat) (Enc : World → α → Array Value → Prop) (es : List α) (w0 : World) : Prop :=
  ∀ (l : Nat) (J Jx : (Nat → Prop) → List α → World → Prop) (W : World), Below w0.heap.size w0 W → Abid W.heap.size J → Abid W.heap.size Jx →
    (∀ T pre x args W1, J T pre W1 → Ups W.heap.size T W1 → W.heap.size ≤ W1.heap.size → Below n W W1 → Enc W1 x args → pre ++ [x] <+: es → YieldAt Fence.wide 0 P l args W1 fun e W' =>
      Kp n T W1 W' ∧ ((e = .returned (.bool true) ∧ J T (pre ++ [x]) W') ∨ (e = .returned (.bool false) ∧ Jx T (pre ++ [x]) W'))) →
    J (fun _ => False) [] W →
    Calls P gf (#[.func (.yield l) #[] #[]] ++ lb) W fun e W' => (∃ v, e = .returned v) ∧ ∃ T, Ups W.heap.size T W' ∧ W.heap.size ≤ W'.heap.size ∧ (J T es W' ∨ ∃ pre, pre <+: es ∧ Jx T pre W')
theorem Walks.later {α : Type} {P : Program} {gf : Nat} {lb : Array Value} {n : Nat} {Enc : World → α → Array Value → Prop} {es : List α} {w0 w1 : World} (h : Walks P gf lb n Enc es w0) (hb : Below w0.heap.size w0 w1) : Walks P gf lb n Enc es w1 :=
  fun l J Jx W hW hJ hJx hY h0 => h l J Jx W (hb.trans (hW.mono hb.size)) hJ hJx hY h0

/-- How the body of a round may be left. -/
def roundEnd {α : Type} (n : Nat) (I : (Nat → Prop) → List α → World → Prop) (Ix : Code → (Nat → Prop) → List α → World → Prop) (M : Nat → Prop) (xs : List α) (W : World) : Exit → Act → World → Prop
  | .normal, _, W' => Kp n M W W' ∧ I M xs W'
  | .ret, _, W' => Kp n M W W' ∧ Ix .ret M xs W'
  | .exit id, _, W' => Kp n M W W' ∧ Ix (.exit id) M xs W'
  | .goto t, _, W' => Kp n M W W' ∧ Ix (.goto t) M xs W'
  | .panic _, _, _ => False
  | .outgrown, _, _ => False

set_option maxHeartbeats 1000000 in
/-- The statement 'for .. := range g { body }', where g's iterator has its contract. -/
theorem rangeFunc_iter {P : Program} {α : Type} {g : Operand} {ps : Array Tmp} {assign body : Code} {Q : Exit → Act → World → Prop} {a : Act} {w : World} {m : Nat}
    {gf : Nat} {lb : Array Value} (hg : a.eval g = .func (.func gf) #[] lb) (eg : ∀ args w, (callFunc gf args).run P w = .ok (.enter gf args) w)
    {n : Nat} {Enc : World → α → Array Value → Prop} {es : List α} {w0 : World} (hseq : Walks P gf lb n Enc es w0) (hb0 : Below w0.heap.size w0 w) (hn : n ≤ w.heap.size) (hps : ∀ W x args, Enc W x args → args.size = ps.size)
    (B : Nat) (hB : B ≤ w.heap.size) (M0 : Nat → Prop) (hM0 : Ups B M0 w)
    (I : (Nat → Prop) → List α → World → Prop) (Ix : Code → (Nat → Prop) → List α → World → Prop) (hI : AbidX B M0 I) (hIx : ∀ c, AbidX B M0 (Ix c)) (h0 : I M0 [] w)
    (hround : ∀ (l : Nat) (M : Nat → Prop) (pre : List α) (x : α) (args : Array Value) (W : World), (∀ k, M0 k → M k) → Ups B M W → w.heap.size ≤ W.heap.size → Below n w W → I M pre W → Enc W x args → pre ++ [x] <+: es →
      assign.wpIn (Fence.wide.inRound l) 0 P (Exit.then (fun a₁ W₁ => I M pre W₁ ∧ Kp n M W W₁ ∧ ∀ W₂, I M pre W₂ → Turn M M W₁ W₂ → (∀ p, W₂.cell? p = W₁.cell? p) → (∀ p, W₂.frozen? p = W₁.frozen? p) → body.wpIn (Fence.wide.inRound l) 0 P (roundEnd n I Ix M (pre ++ [x]) W₂) a₁ W₂) (fun _ _ _ => False))
        { tmps := (ps.zip args).foldl (fun t (p, v) => t.setIfInBounds p v) a.tmps, defers := [] } W)
    (hdone : ∀ (D : Nat) (M : Nat → Prop) (W : World), (∀ k, M0 k → M k) → Ups B M W → w.heap.size ≤ W.heap.size → M D → I M es W → W.heap[D]? = some (.deferred (some [])) → Q .normal { a with defers := { target := .collected D, args := #[] } :: a.defers } W)
    (hstop : ∀ (D : Nat) (c : Code) (M : Nat → Prop) (pre : List α) (W : World), (∀ k, M0 k → M k) → Ups B M W → w.heap.size ≤ W.heap.size → M D → pre <+: es → Ix c M pre W → W.heap[D]? = some (.deferred (some [])) → c.wpIn Fence.wide m P Q { a with defers := { target := .collected D, args := #[] } :: a.defers } W) :
    (Code.rangeFunc g ps assign body).wpIn Fence.wide m P Q a w := by
  refine wpIn_rangeFunc ?_
  intro fn hfn
  obtain ⟨rec, hrec⟩ : ∃ rec : LoopState → Option Code → Loop, rec = fun st pe => { state := st, pending := pe, fn, tmps := a.tmps, params := ps, assign, body, defers := w.heap.size } := ⟨_, rfl⟩
  obtain ⟨W1, hW1⟩ : ∃ W1, (w.alloc (.deferred (some []))).alloc (.loop (rec .ready none)) = W1 := ⟨_, rfl⟩
  have hL1 : W1.heap[w.heap.size + 1]? = some (.loop (rec .ready none)) := by
    rw [← hW1]; have := World.alloc_heap_new (w.alloc (.deferred (some []))) (.loop (rec .ready none)); rwa [World.size_alloc] at this
  have hK1 : W1.heap[w.heap.size]? = some (.deferred (some [])) := by
    rw [← hW1]; exact (Below.heap_alloc _ _ _ (by simp)).trans (World.alloc_heap_new w _)
  have hS1 : W1.heap.size = w.heap.size + 2 := by rw [← hW1]; simp
  have hbw : Below w.heap.size w W1 := by rw [← hW1]; exact ((Below.refl _ w).alloc (Nat.le_refl _) _).alloc (by simp) _
  obtain ⟨R, hR⟩ : ∃ R : (Nat → Prop) → Nat → Prop, R = fun T k => M0 k ∨ (k = w.heap.size ∨ k = w.heap.size + 1) ∨ T k := ⟨_, rfl⟩
  have hRM : ∀ T k, M0 k → R T k := fun T k h => by rw [hR]; exact .inl h
  have hRT : ∀ T k, T k → R T k := fun T k h => by rw [hR]; exact .inr (.inr h)
  have hR0 : ∀ T, R T w.heap.size := fun T => by rw [hR]; exact .inr (.inl (.inl rfl))
  have hR1 : ∀ T, R T (w.heap.size + 1) := fun T => by rw [hR]; exact .inr (.inl (.inr rfl))
  have hRU : ∀ T W, W1.heap.size ≤ W.heap.size → Ups W1.heap.size T W → Ups B (R T) W := fun T W hs hT k hk => by
    rw [hR] at hk
    rcases hk with h | (h | h) | h
    · exact ⟨(hM0 k h).1, by have := (hM0 k h).2; omega⟩
    · omega
    · omega
    · have := hT k h; omega
  have hRR : ∀ T T' W W', Turn T T' W W' → Turn (R T) (R T') W W' := fun T T' W W' h => ⟨h.os, h.tape, h.output, h.size, fun k hk hn => h.same k hk (fun h2 => hn (hRT T k h2)), fun k hk => by
    rw [hR] at hk ⊢
    exact hk.imp id (fun h2 => h2.imp id (h.sub k)), fun k hk => by
    rw [hR] at hk ⊢
    rcases hk with h2 | h2 | h2
    · exact .inl (.inl h2)
    · exact .inl (.inr (.inl h2))
    · exact (h.fresh k h2).imp (fun h3 => .inr (.inr h3)) id⟩
  have hI1 : I (R fun _ => False) [] W1 := by
    refine hI _ _ _ _ _ h0 hB hM0 ⟨hbw.os, hbw.tape, hbw.output, hbw.size, fun k hk _ => hbw.block k hk, hRM _, fun k hk => ?_⟩ (fun k hk => hbw.block k (hM0 k hk).2)
    rw [hR] at hk
    rcases hk with h | h | h
    · exact .inl h
    · exact .inr (by omega)
    · exact h.elim
  refine ⟨w.heap.size + 1, [{ target := .collected w.heap.size, args := #[] }], W1, { target := .fn (.func gf) lb, args := #[.func (.yield (w.heap.size + 1)) #[] #[]] }, W1, gf,
    #[.func (.yield (w.heap.size + 1)) #[] #[]] ++ lb, W1, ?_, ?_, ?_, ?_, fun h => by simp [Fence.wide] at h, ?_⟩
  · rw [← hW1, hrec]; exact run_enterLoop_outer _ _ _ _ _
  · simp only [resolve, hg]
    simp [go_sem]
  · intro f' hf'; exact trivial
  · simp [invoke, go_sem, eg]
  refine callsIn_wide.2 ?_
  have keepR : ∀ {T T' : Nat → Prop} {A C : World} {k : Nat} {o : Obj}, Ups W1.heap.size T A → k < W1.heap.size → A.heap[k]? = some o → Turn T T' A C → C.heap[k]? = some o := fun hT hk h ht =>
    (ht.same _ (Array.getElem?_eq_some_iff.1 h).1 (fun h2 => by have := (hT _ h2).1; omega)).trans h
  have stay : ∀ {T T' : Nat → Prop} {A C : World}, Ups W1.heap.size T A → W1.heap.size ≤ A.heap.size → Turn T T' A C → ∀ k, M0 k → C.heap[k]? = A.heap[k]? := fun hT hsz ht k hk => ht.same k (by have := (hM0 k hk).2; omega) (fun h2 => by have := (hT _ h2).1; have := (hM0 k hk).2; omega)
  have put : ∀ (A : World) (o : Obj) (k : Nat), M0 k → (A.putObj (w.heap.size + 1) o).heap[k]? = A.heap[k]? := fun A o k hk => World.putObj_heap_other (by have := (hM0 k hk).2; omega)
  refine (hseq (w.heap.size + 1)
    (fun T pre W => I (R T) pre W ∧ W.heap[w.heap.size + 1]? = some (.loop (rec .ready none)) ∧ W.heap[w.heap.size]? = some (.deferred (some [])))
    (fun T pre W => ∃ c, Ix c (R T) pre W ∧ W.heap[w.heap.size + 1]? = some (.loop (rec .done (some c))) ∧ W.heap[w.heap.size]? = some (.deferred (some [])))
    W1 (hb0.trans (hbw.mono hb0.size))
    (fun T T' s A C hs hsz hT ht => ⟨hI _ _ _ _ _ hs.1 (by omega) (hRU T A hsz hT) (hRR _ _ _ _ ht) (stay hT hsz ht), keepR hT (by omega) hs.2.1 ht, keepR hT (by omega) hs.2.2 ht⟩)
    (fun T T' s A C hs hsz hT ht => by
      obtain ⟨c, hc, hl, hk⟩ := hs
      exact ⟨c, hIx c _ _ _ _ _ hc (by omega) (hRU T A hsz hT) (hRR _ _ _ _ ht) (stay hT hsz ht), keepR hT (by omega) hl ht, keepR hT (by omega) hk ht⟩)
    ?_ ⟨hI1, hL1, hK1⟩).mono ?_
  · rintro T pre x args W ⟨hi, hl, hk⟩ hT hsz hbn henc hpre
    have hTR := hRU T W hsz hT
    have hy := run_yield (P := P) (args := args) hl (by rw [hrec]; exact hps W x args henc)
    rw [hrec] at hy
    refine ⟨fn, _, assign, body, hy, roundIn_of_wpIn hfn (wpIn_mono (hround _ (R T) pre x args W (hRM T) hTR (by omega) ((hbw.mono hn).trans hbn) hi henc hpre) ?_)⟩
    rintro e a₁ Wa hp
    cases e with
    | normal =>
      obtain ⟨hia, hka, hbody⟩ := hp
      have hla : Wa.heap[w.heap.size + 1]? = some (.loop (rec .ready none)) := (hka.same _ (hR1 T)).trans hl
      have hkk : Wa.heap[w.heap.size]? = some (.deferred (some [])) := (hka.same _ (hR0 T)).trans hk
      have hlt := (Array.getElem?_eq_some_iff.1 hla).1
      have hTa : Ups B (R T) Wa := hTR.more hka.below.size
      refine ⟨_, run_beginRound hla (by rw [hrec]), ?_⟩
      obtain ⟨Wb, hWb⟩ : ∃ Wb, Wa.putObj (w.heap.size + 1) (.loop { rec .ready none with state := .busy }) = Wb := ⟨_, rfl⟩
      have hlb : Wb.heap[w.heap.size + 1]? = some (.loop { rec .ready none with state := .busy }) := by rw [← hWb]; exact World.putObj_heap_same hlt
      have hkb : Wb.heap[w.heap.size]? = some (.deferred (some [])) := by rw [← hWb]; exact (World.putObj_heap_other (by omega)).trans hkk
      have htb : Turn (R T) (R T) Wa Wb := by rw [← hWb]; exact Turn.putObj Wa (hR1 T) _
      have hsb : Wb.heap.size = Wa.heap.size := by rw [← hWb]; simp
      have hbo := hbody Wb (hI _ _ _ _ _ hia (by have := hka.below.size; omega) hTa htb (fun k hk => by rw [← hWb]; exact put Wa _ k hk)) htb (fun p => by rw [← hWb]; exact cell_loop hla p) (fun p => by rw [← hWb]; exact frozen_loop hla p)
      rw [hWb]
      refine wpIn_mono hbo ?_
      have oth : ∀ k, (k < n ∨ T k) → Wb.heap[k]? = Wa.heap[k]? := fun k hk => by
        rw [← hWb]
        exact World.putObj_heap_other (by
          rcases hk with h | h
          · omega
          · have := (hT k h).1; omega)
      have kab : Kp n T W Wb := ⟨hka.below.trans ⟨htb.os, htb.tape, htb.output, htb.size, fun k hk => oth k (.inl hk)⟩, fun k hk => (oth k (.inr hk)).trans (hka.same k (hRT T k hk))⟩
      have fin : ∀ (jump : Option Code) (W3 : World), Kp n (R T) Wb W3 → ∃ W4, (Instr.endRound (w.heap.size + 1) jump).run P W3 = .ok (.bool jump.isNone) W4 ∧ (∀ k, M0 k → W4.heap[k]? = W3.heap[k]?) ∧ Turn (R T) (R T) W3 W4 ∧ Ups B (R T) W3 ∧ B ≤ W3.heap.size ∧ Kp n T W W4 ∧
          W4.heap[w.heap.size + 1]? = some (.loop (rec (if jump.isNone then .ready else .done) jump)) ∧ W4.heap[w.heap.size]? = some (.deferred (some [])) := fun jump W3 hk3 => by
        have hl3 := (hk3.same _ (hR1 T)).trans hlb
        have hlt3 := (Array.getElem?_eq_some_iff.1 hl3).1
        have hr := run_endRound (P := P) jump hl3
        have hsz3 := hk3.below.size
        have hsza := hka.below.size
        refine ⟨_, hr, put W3 _, Turn.putObj W3 (hR1 T) _, hTa.more (by omega), by omega, ?_, ?_, ?_⟩
        · have oth3 : ∀ k, (k < n ∨ T k) → (W3.putObj (w.heap.size + 1) (.loop { rec .ready none with state := if jump.isNone then .ready else .done, pending := jump })).heap[k]? = W3.heap[k]? := fun k hk => World.putObj_heap_other (by
            rcases hk with h | h
            · omega
            · have := (hT k h).1; omega)
          refine ⟨kab.below.trans (hk3.below.trans ⟨rfl, rfl, rfl, by simp, fun k hk => ?_⟩), fun k hk => ?_⟩
          · have := oth3 k (.inl hk); simpa using this
          · have := oth3 k (.inr hk)
            refine Eq.trans (by simpa using this) ((hk3.same k (hRT T k hk)).trans (kab.same k hk))
        · have := World.putObj_heap_same (w := W3) (r := w.heap.size + 1) (o := .loop { rec .ready none with state := if jump.isNone then .ready else .done, pending := jump }) hlt3
          rw [hrec] at this ⊢
          exact this
        · exact (World.putObj_heap_other (by omega)).trans ((hk3.same _ (hR0 T)).trans hkb)
      rintro e a3 W3 hp
      cases e with
      | normal =>
        obtain ⟨hk3, hi3⟩ := hp
        obtain ⟨W4, hr, hs4, ht4, hu3, hs3, hk4, hl4, hd4⟩ := fin none W3 hk3
        exact ⟨_, _, hr, hk4, .inl ⟨rfl, hI _ _ _ _ _ hi3 hs3 hu3 ht4 hs4, hl4, hd4⟩⟩
      | ret =>
        obtain ⟨hk3, hi3⟩ := hp
        obtain ⟨W4, hr, hs4, ht4, hu3, hs3, hk4, hl4, hd4⟩ := fin (some .ret) W3 hk3
        exact ⟨_, _, hr, hk4, .inr ⟨rfl, .ret, hIx _ _ _ _ _ _ hi3 hs3 hu3 ht4 hs4, hl4, hd4⟩⟩
      | exit id =>
        obtain ⟨hk3, hi3⟩ := hp
        obtain ⟨W4, hr, hs4, ht4, hu3, hs3, hk4, hl4, hd4⟩ := fin (some (.exit id)) W3 hk3
        exact ⟨_, _, hr, hk4, .inr ⟨rfl, .exit id, hIx _ _ _ _ _ _ hi3 hs3 hu3 ht4 hs4, hl4, hd4⟩⟩
      | goto t =>
        obtain ⟨hk3, hi3⟩ := hp
        obtain ⟨W4, hr, hs4, ht4, hu3, hs3, hk4, hl4, hd4⟩ := fin (some (.goto t)) W3 hk3
        exact ⟨_, _, hr, hk4, .inr ⟨rfl, .goto t, hIx _ _ _ _ _ _ hi3 hs3 hu3 ht4 hs4, hl4, hd4⟩⟩
      | panic ch => exact hp.elim
      | outgrown => exact hp.elim
    | ret => exact hp.elim
    | exit id => exact hp.elim
    | goto t => exact hp.elim
    | panic ch => exact hp.elim
    | outgrown => exact hp.elim
  · rintro e W2 ⟨⟨v, rfl⟩, T, hT, hsz, (⟨hi, hl, hk⟩ | ⟨pre, hpre, c, hi, hl, hk⟩)⟩
    · refine ⟨none, _, by have := run_endLoop (P := P) hl (by rw [hrec]; simp); rw [hrec] at this; exact this, ?_⟩
      exact hdone _ (R T) _ (hRM T) ((hRU T W2 hsz hT).more (by simp)) (by simp; omega) (hR0 T) (hI _ _ _ _ _ hi (by omega) (hRU T W2 hsz hT) (Turn.putObj W2 (hR1 T) _) (put W2 _)) ((World.putObj_heap_other (by omega)).trans hk)
    · refine ⟨some c, _, by have := run_endLoop (P := P) hl (by rw [hrec]; simp); rw [hrec] at this; exact this, ?_⟩
      exact hstop _ c (R T) pre _ (hRM T) ((hRU T W2 hsz hT).more (by simp)) (by simp; omega) (hR0 T) hpre (hIx c _ _ _ _ _ hi (by omega) (hRU T W2 hsz hT) (Turn.putObj W2 (hR1 T) _) (put W2 _)) ((World.putObj_heap_other (by omega)).trans hk)
end Go.Proofs.Ytijhjlpkbnajpaa

/-! A statement whose operations may come in several orders, in a round or where a round is called: operations that only read are taken first, as long as a condition on memory holds. -/
namespace Go.Proofs.Ytijhjlpkbnajpaa
open Go.RowKit
set_option linter.unusedVariables false
section
variable {F : Fence} {n : Nat} {P : Program} {ops : Array Oper} {l : List Oper} {Q : Exit → Act → World → Prop} {S : World → Prop} {fr : List Nat}

/-- Any order from here on; S holds behind every operation but those of fr. -/
def inAnyH (F : Fence) (n : Nat) (P : Program) (ops : Array Oper) (Q : Exit → Act → World → Prop) (S : World → Prop) (fr : List Nat) : Nat → Array Bool → Act → World → Prop
  | 0, listed, a, w => Region.ready .any ops listed = [] ∧ Q .normal a w
  | fuel + 1, listed, a, w => (Region.ready .any ops listed = [] → Q .normal a w) ∧
    ∀ i ∈ Region.ready .any ops listed, wpOpIn F n P ops Q i (fun a' w' => (fr.contains i = false → S w') ∧ inAnyH F n P ops Q S fr fuel (listed.setIfInBounds i true) a' w') a w

theorem inAny_of : ∀ (fuel : Nat) (listed : Array Bool) (a : Act) (w : World), inAnyH F n P ops Q S fr fuel listed a w → wpAnyIn F n P .any ops Q fuel listed a w
  | 0, _, _, _, h => h
  | fuel + 1, _, _, _, h => ⟨h.1, fun i hi => wpOpIn_mono (fun a' w' h' => inAny_of fuel _ a' w' h'.2) (h.2 i hi)⟩

/-- More may be known of memory from here on. -/
theorem inAny_more {S' : World → Prop} (hsub : ∀ w, S' w → S w) : ∀ (fuel : Nat) (listed : Array Bool) (a : Act) (w : World), inAnyH F n P ops Q S' fr fuel listed a w → inAnyH F n P ops Q S fr fuel listed a w
  | 0, _, _, _, h => h
  | fuel + 1, _, _, _, h => ⟨h.1, fun i hi => wpOpIn_mono (fun a' w' h' => ⟨fun h => hsub _ (h'.1 h), inAny_more hsub fuel _ a' w' h'.2⟩) (h.2 i hi)⟩

/-- An operation that yields while S holds. -/
theorem op_yields (hF : ∀ f, F.fn f) {i : Nat} {o : Oper} {v : Value} {a : Act} (hi : ops[i]? = some o) (hd : ∀ c, o.op ≠ .defer c) (hy : YieldsIf P ops S o v a) {K : Act → World → Prop} {w : World} (hS : S w) (h : K (a.put o.dst v) w) : wpOpIn F n P ops Q i K a w := by
  unfold wpOpIn
  simp only [hi]
  rcases hy with ⟨hw, hv⟩ | ⟨hw, rfl⟩
  · rw [if_pos hw]
    unfold Oper.wpIn
    rw [Oper.semAt_plain F _ _ hd, hv w hS]
    exact ⟨fun f _ => hF f, h⟩
  · rw [if_neg (by rw [hw]; simp)]
    exact ⟨fun f _ => hF f, h⟩

/-- Another operation does not mind. -/
theorem op_past (hF : ∀ f, F.fn f) {j : Nat} {oi oj : Oper} {v : Value} (hj : ops[j]? = some oj) (hd : ∀ c, oj.op ≠ .defer c) (hap : oi.apart ops oj = true) (hsi : ∀ cs b, oi.op ≠ .select cs b) (hsj : ∀ cs b, oj.op ≠ .select cs b)
    (hQ : ∀ c a w, Q (.panic c) (a.put oi.dst v) w → Q (.panic c) a w) {K : Act → World → Prop} {a : Act} {w : World} (hy : YieldsIf P ops S oi v a) (h : wpOpIn F n P ops Q j K (a.put oi.dst v) w) :
    wpOpIn F n P ops Q j (fun a' w' => YieldsIf P ops S oi v a' ∧ K (a'.put oi.dst v) w') a w := by
  obtain ⟨h1, h2, h3⟩ := Oper.apart_spec hap
  have keep : ∀ u, YieldsIf P ops S oi v (a.put oj.dst u) := fun u => hy.of_same (execOp_put oi hsi a oj.dst u h3) (wanted_put oi a oj.dst u h3)
  have turn : ∀ u (w'' : World), K ((a.put oi.dst v).put oj.dst u) w'' → K ((a.put oj.dst u).put oi.dst v) w'' := fun u w'' hk => by rw [← Act.put_comm a v u h2]; exact hk
  unfold wpOpIn at *
  simp only [hj] at *
  rw [wanted_put oj a oi.dst v h1] at h
  by_cases hw : Region.wanted oj (yielded ops a.tmps) = true
  · rw [if_pos hw] at h ⊢
    unfold Oper.wpIn at *
    refine ⟨fun f _ => hF f, ?_⟩
    have h := h.2
    rw [Oper.semAt_plain F _ _ hd, execOp_put oj hsj a oi.dst v h1] at h
    rw [Oper.semAt_plain F _ _ hd]
    generalize (execOp a.eval oj).run P w = r at *
    cases r with
    | halt x w' =>
      cases x <;> simp only [Oper.uponIn] at h ⊢
      exact hQ _ _ _ h
    | ok x w' =>
      cases x with
      | value u => exact ⟨keep u, turn u w' h⟩
      | skip => exact ⟨keep undef, turn undef w' h⟩
      | defer d =>
        simp only [Oper.uponIn] at h ⊢
        refine ⟨hy.of_same (a' := ({ a with defers := d :: a.defers } : Act).put oj.dst undef) ((execOp_put oi hsi { a with defers := d :: a.defers } oj.dst undef h3).trans rfl) ((wanted_put oi { a with defers := d :: a.defers } oj.dst undef h3).trans rfl), ?_⟩
        rw [← Act.put_comm _ v undef h2, ← Act.put_defers]
        exact h
      | enter f args =>
        simp only [Oper.uponIn] at h ⊢
        refine ⟨h.1, h.2.mono fun e w'' he => ?_⟩
        cases e with
        | returned u => exact ⟨keep u, turn u w'' he⟩
        | panicked c => exact hQ _ _ _ he
        | outgrown => exact he
      | row row args =>
        simp only [Oper.uponIn] at h ⊢
        exact ⟨h.1, h.2.mono fun u w'' he => ⟨keep u, turn u w'' he⟩⟩
      | round l f tmps assign body =>
        simp only [Oper.uponIn] at h ⊢
        refine ⟨h.1, h.2.mono fun e w'' he => ?_⟩
        cases e with
        | returned u => exact ⟨keep u, turn u w'' he⟩
        | panicked c => exact hQ _ _ _ he
        | outgrown => exact he
      | _ => simp only [Oper.uponIn] at h
  · rw [if_neg hw] at h ⊢
    exact ⟨fun f _ => hF f, keep undef, turn undef w h.2⟩

/-- Taken first. -/
theorem inAny_first (hF : ∀ f, F.fn f) {i : Nat} {oi : Oper} {v : Value} (hi : ops[i]? = some oi) (hd : ∀ (j : Nat) (o : Oper) c, ops[j]? = some o → o.op ≠ .defer c) (hsel : ∀ (j : Nat) (o : Oper) cs b, ops[j]? = some o → o.op ≠ .select cs b)
    (hQ : ∀ c a w, Q (.panic c) (a.put oi.dst v) w → Q (.panic c) a w) (hfr : ∀ (j : Nat) (o : Oper), ops[j]? = some o → fr.contains j = true → ∃ e ∈ o.after, Region.binds .any e = true ∧ e.on = i) : ∀ (fuel : Nat) (listed : Array Bool) (a : Act) (w : World),
      (∀ j oj, ops[j]? = some oj → j ≠ i → listed.getD j true = false → (∀ e ∈ oj.after, Region.binds .any e = true → e.on ≠ i) → oi.apart ops oj = true) →
      i ∈ Region.ready .any ops listed → YieldsIf P ops S oi v a → S w →
      inAnyH F n P ops Q S fr fuel (listed.setIfInBounds i true) (a.put oi.dst v) w → inAnyH F n P ops Q S fr (fuel + 1) listed a w := by
  have self : ∀ fuel (listed : Array Bool) a w, YieldsIf P ops S oi v a → S w → inAnyH F n P ops Q S fr fuel (listed.setIfInBounds i true) (a.put oi.dst v) w → wpOpIn F n P ops Q i (fun a' w' => (fr.contains i = false → S w') ∧ inAnyH F n P ops Q S fr fuel (listed.setIfInBounds i true) a' w') a w :=
    fun fuel listed a w hy hS H => op_yields hF hi (fun c => hd i oi c hi) hy hS ⟨fun _ => hS, H⟩
  intro fuel
  induction fuel with
  | zero =>
    intro listed a w _ hr hy hS H
    refine ⟨fun h => by rw [h] at hr; exact absurd hr List.not_mem_nil, fun j hj => ?_⟩
    by_cases hji : j = i
    · subst hji; exact self 0 listed a w hy hS H
    · have h0 := ready_mono hj hji
      rw [H.1] at h0
      exact absurd h0 List.not_mem_nil
  | succ fuel ih =>
    intro listed a w hfree hr hy hS H
    refine ⟨fun h => by rw [h] at hr; exact absurd hr List.not_mem_nil, fun j hj => ?_⟩
    by_cases hji : j = i
    · subst hji; exact self _ listed a w hy hS H
    obtain ⟨hjun, oj, hoj, hall⟩ := mem_ready.1 hj
    have hnot : ∀ e ∈ oj.after, Region.binds .any e = true → e.on ≠ i := fun e he hb heq => by
      have g1 := hall e he hb
      have g0 := (mem_ready.1 hr).1
      rw [heq] at g1
      rcases Nat.lt_or_ge i listed.size with h' | h'
      · simp [h'] at g0 g1; rw [g0] at g1; cases g1
      · simp [Array.getElem?_eq_none h'] at g1
    have hneed : fr.contains j = false := by
      rcases h : fr.contains j with _ | _
      · rfl
      · obtain ⟨e, he, hb, heq⟩ := hfr j oj hoj h
        exact absurd heq (hnot e he hb)
    refine wpOpIn_mono (fun a' w' g => ⟨fun _ => g.2.1 hneed, ih (listed.setIfInBounds j true) a' w' (fun k ok hk hki hun hno => hfree k ok hk hki ?_ hno) (ready_mono hr (Ne.symm hji)) g.1 (g.2.1 hneed) ?_⟩)
      (op_past hF hoj (fun c => hd j oj c hoj) (hfree j oj hoj hji hjun hnot) (fun cs b => hsel i oi cs b hi) (fun cs b => hsel j oj cs b hoj) hQ hy (H.2 j (ready_mono hj hji)))
    · by_cases hjk : j = k
      · subst hjk; exact hjun
      · rw [getD_set_ne true hjk] at hun; exact hun
    · rw [Array.setIfInBounds_comm _ _ hji]; exact g.2.2

/-- No operation is a defer statement. -/
def noDefer (ops : List Oper) : Bool := ops.all fun o => match o.op with | .defer _ => false | _ => true
theorem noDefer_spec (h : noDefer l = true) : ∀ (j : Nat) (o : Oper) c, l.toArray[j]? = some o → o.op ≠ .defer c := fun j o c hj e => by
  have := List.all_eq_true.1 h o (List.mem_of_getElem? (by simpa using hj))
  rw [e] at this
  cases this

/-- The operations of fr wait for operation i. -/
def frOk (l : List Oper) (fr : List Nat) (i : Nat) : Bool := fr.all fun j => match l[j]? with | some o => o.after.toList.any fun e => Region.binds .any e && decide (e.on = i) | none => true
theorem frOk_spec {i : Nat} (h : frOk l fr i = true) : ∀ (j : Nat) (o : Oper), l.toArray[j]? = some o → fr.contains j = true → ∃ e ∈ o.after, Region.binds .any e = true ∧ e.on = i := fun j o hj hc => by
  have h1 := List.all_eq_true.1 h j (by simpa using hc)
  have h2 : l[j]? = some o := by simpa using hj
  rw [h2] at h1
  obtain ⟨e, he, h3⟩ := List.any_eq_true.1 h1
  simp only [Bool.and_eq_true, decide_eq_true_eq] at h3
  exact ⟨e, by simpa using he, h3.1, h3.2⟩

/-- An operation that reads, and is wanted. -/
theorem in_take (i : Nat) {oi : Oper} {v : Value} {fuel : Nat} {listed : Array Bool} {a : Act} {w : World} (hF : ∀ f, F.fn f) (hi : l[i]? = some oi) (hnd : noDefer l = true) (hs : Region.noSelect l.toArray = true) (hf : Region.free .any l.toArray listed i = true)
    (hr : (Region.ready .any l.toArray listed).contains i = true) (hQ : ∀ c a w, Q (.panic c) (a.put oi.dst v) w → Q (.panic c) a w) (hw : Region.wanted oi (yielded l.toArray a.tmps) = true) (hfr : frOk l fr i = true)
    (hS : S w) (hy : ∀ w, S w → (execOp a.eval oi).run P w = .ok (.value v) w) (h : S w → inAnyH F n P l.toArray Q S fr fuel (listed.setIfInBounds i true) (a.put oi.dst v) w) : inAnyH F n P l.toArray Q S fr (fuel + 1) listed a w :=
  inAny_first hF (by simpa using hi) (noDefer_spec hnd) (Region.noSelect_spec hs) hQ (frOk_spec hfr) fuel listed a w (Region.free_spec (by simpa using hi) hf) (by simpa using hr) (.inl ⟨hw, hy⟩) hS (h hS)

/-- The one operation that may come now. -/
theorem in_call (i : Nat) {oi : Oper} {fuel : Nat} {listed : Array Bool} {a : Act} {w : World} (hr : Region.ready .any l.toArray listed = [i]) (hi : l[i]? = some oi) (hw : Region.wanted oi (yielded l.toArray a.tmps) = true)
    (h : ∀ K : Act → World → Prop, Shut (∀ a w, S w → (S w → inAnyH F n P l.toArray Q S fr fuel (listed.setIfInBounds i true) a w) → K a w) → Oper.wpIn F n P oi a w K Q) : inAnyH F n P l.toArray Q S fr (fuel + 1) listed a w := by
  refine ⟨fun h0 => (by rw [hr] at h0; cases h0), fun j hj => ?_⟩
  rw [hr] at hj
  obtain rfl := List.mem_singleton.1 hj
  unfold wpOpIn
  rw [show l.toArray[j]? = some oi by simpa using hi]
  simp only
  rw [if_pos hw]
  exact h _ (fun a w hS hk => ⟨fun _ => hS, hk hS⟩)

/-- The one operation that may come now, behind which nothing is asked. -/
theorem in_free (i : Nat) {oi : Oper} {fuel : Nat} {listed : Array Bool} {a : Act} {w : World} (hr : Region.ready .any l.toArray listed = [i]) (hi : l[i]? = some oi) (hw : Region.wanted oi (yielded l.toArray a.tmps) = true) (hc : fr.contains i = true)
    (h : ∀ K : Act → World → Prop, Shut (∀ a w, inAnyH F n P l.toArray Q S fr fuel (listed.setIfInBounds i true) a w → K a w) → Oper.wpIn F n P oi a w K Q) : inAnyH F n P l.toArray Q S fr (fuel + 1) listed a w := by
  refine ⟨fun h0 => (by rw [hr] at h0; cases h0), fun j hj => ?_⟩
  rw [hr] at hj
  obtain rfl := List.mem_singleton.1 hj
  unfold wpOpIn
  rw [show l.toArray[j]? = some oi by simpa using hi]
  simp only
  rw [if_pos hw]
  exact h _ (fun a w hk => ⟨fun e => (by rw [hc] at e; cases e), hk⟩)

theorem in_done {listed : Array Bool} {a : Act} {w : World} (hr : Region.ready .any ops listed = []) (h : Q .normal a w) : ∀ fuel, inAnyH F n P ops Q S fr fuel listed a w
  | 0 => ⟨hr, h⟩
  | _ + 1 => ⟨fun _ => h, by rw [hr]; simp⟩

theorem in_begin {id : Nat} {a : Act} {w : World} (hm : P.follows .mixedOrders = true) (hS : S w.drew) (h : S w.drew → inAnyH F n P ops Q S [] ops.size (Array.replicate ops.size false) a w.drew) : (Code.region id ops true).wpIn F n P Q a w :=
  wpIn_region_any hm (inAny_of _ _ _ _ (h hS))
theorem in_beginF (fr : List Nat) {id : Nat} {a : Act} {w : World} (hm : P.follows .mixedOrders = true) (hS : S w.drew) (h : S w.drew → inAnyH F n P ops Q S fr ops.size (Array.replicate ops.size false) a w.drew) : (Code.region id ops true).wpIn F n P Q a w :=
  wpIn_region_any hm (inAny_of _ _ _ _ (h hS))
end
end Go.Proofs.Ytijhjlpkbnajpaa

/-! Layer 8: the program's walk through all nodes of a tree: each node comes with its place; the walk's own row of numbers is the only memory that it writes. -/
namespace Go.Proofs.Ytijhjlpkbnajpaa
open Go.RowKit
set_option linter.unusedVariables false
set_option linter.unusedSimpArgs false
attribute [local go_sem] Oper.semAt_some

/-- What comes: a place, and the node that stands there. -/
def EncN (root : Nd) (n : Nat) (W : World) (p : List Nat) (args : Array Value) : Prop :=
  ∃ A c nd, args = #[.slice A p.length c, nd.val] ∧ nodeAt root p = some nd ∧ Cel W W.heap.size A p.length (ints p) ∧ p.length ≤ c ∧ c ≤ 9223372036854775807 ∧ nd.In W n
/-- The walk is at the place q: its record in block b, and its row. -/
def PAt (B : Nat) (T : Nat → Prop) (W : World) (b l : Nat) (q : List Nat) : Prop :=
  ∃ v, W.heap[b]? = some (.cells #[v, .func (.yield l) #[] #[]] 80 (0, 0)) ∧ T b ∧ W.ownsRow B 3 1 v q.length (ints q) ∧ ∀ k, v.ownBlock = some k → T k ∧ k ≠ b
theorem own_cut {w : World} {base n k : Nat} {e : TypeId} {v : Value} {q : List Nat} (h : w.ownsRow base e 1 v n (ints q)) (hk : k ≤ n) : ∃ A c, v = .slice A n c ∧ k ≤ c ∧ c ≤ 9223372036854775807 ∧ n ≤ c ∧ w.ownsRow base e 1 (.slice A k c) k (ints (q.take k)) ∧ (Value.slice A k c).ownBlock = v.ownBlock := by
  have hq : q.length = n := by have := h.1; simpa using this
  rcases h.2 with ⟨rfl, hn⟩ | ⟨g, cap, cur, rfl, hb, hg, h1, h2, h3, h4⟩
  · obtain rfl : k = 0 := by omega
    subst hn
    exact ⟨none, 0, rfl, Nat.le_refl _, by omega, Nat.le_refl _, ⟨by simp, .inl ⟨rfl, rfl⟩⟩, rfl⟩
  · refine ⟨_, cap, rfl, by omega, by unfold maxLen at h2; omega, h1, ⟨by rw [List.length_map, List.length_take]; omega, .inr ⟨g, cap, cur, rfl, hb, hg, by omega, h2, h3, ?_⟩⟩, rfl⟩
    have e1 : (ints q).take k = ints (q.take k) := by simp [ints, List.map_take]
    rw [← e1, ← h4, List.take_take]
    congr 1
    omega
section
variable {B : Nat} {T T' : Nat → Prop} {W W' : World} {b l : Nat} {q : List Nat}
theorem PAt.kept (h : PAt B T W b l q) (hs : ∀ k, T k → W'.heap[k]? = W.heap[k]?) (ht : ∀ k, T k → T' k) : PAt B T' W' b l q := by
  obtain ⟨v, h1, h2, h3, h4⟩ := h
  refine ⟨v, (hs b h2).trans h1, ht b h2, ⟨h3.1, ?_⟩, fun k hk => ⟨ht k (h4 k hk).1, (h4 k hk).2⟩⟩
  rcases h3.2 with h | ⟨g, cap, cur, rfl, hb, hg, hr⟩
  · exact .inl h
  · exact .inr ⟨g, cap, cur, rfl, hb, (hs g (h4 g rfl).1).trans hg, hr⟩
end

theorem size_int8 (w : World) : (Go.sizeOf 3).run Try.prog w = .ok 1 w := by
  obtain ⟨i, h, _, h1, _⟩ := info_any info_int
  simp [sizeOf, typeInfo, h, h1]
/-- One step of the walk: its row is cut, and one number is appended; the record's first cell is written. -/
theorem pat_step {B : Nat} {T : Nat → Prop} {W : World} {b l : Nat} {p s : List Nat} (h : PAt B T W b l (p ++ s)) (hu : Ups B T W) (hB : B ≤ W.heap.size) (hlen : p.length ≤ 268435456) (k0 k1 k2 : Value) (j : Nat) :
    ∃ Ap m cp A' c' w7 T', W.cell? ⟨b, 0, none⟩ = some (.slice Ap m cp) ∧ p.length ≤ cp ∧
      (Builtin.append_ #[42, 42] 42 #[.slice Ap p.length cp, .slice (some ⟨W.heap.size + 1, 0, none⟩) 1 1]).run Try.prog ((W.alloc (.cells #[k0, k1, k2] 27)).alloc (.cells #[.int .i64 (j : Int)] 3)) = .ok (.slice A' (p.length + 1) c') w7 ∧
      w7.heap[b]? = some (.cells #[.slice Ap m cp, .func (.yield l) #[] #[]] 80 (0, 0)) ∧ (w7.setCell ⟨b, 0, none⟩ (.slice A' (p.length + 1) c')).heap[W.heap.size]? = some (.cells #[k0, k1, k2] 27 (0, 0)) ∧
      Turn T T' W (w7.setCell ⟨b, 0, none⟩ (.slice A' (p.length + 1) c')) ∧ PAt B T' (w7.setCell ⟨b, 0, none⟩ (.slice A' (p.length + 1) c')) b l (p ++ [j]) := by
  obtain ⟨v, a1, a2, a3, a4⟩ := h
  obtain ⟨Ap, cp, rfl, hk1, hk2, _, hcut, hown⟩ := own_cut a3 (k := p.length) (by rw [List.length_append]; omega)
  rw [List.take_left] at hcut
  obtain ⟨w5, hw5⟩ : ∃ w5, w5 = W.alloc (.cells #[k0, k1, k2] 27) := ⟨_, rfl⟩
  obtain ⟨w6, hw6⟩ : ∃ w6, w6 = w5.alloc (.cells #[.int .i64 (j : Int)] 3) := ⟨_, rfl⟩
  have hs5 : w5.heap.size = W.heap.size + 1 := by rw [hw5]; simp
  have hs6 : w6.heap.size = W.heap.size + 2 := by rw [hw6]; simp [hs5]
  have hcut6 : w6.ownsRow B 3 1 (.slice Ap p.length cp) p.length (ints p) := by rw [hw6, hw5]; exact (hcut.alloc _).alloc _
  have hone := one_new w5 j
  rw [← hw6, hs5] at hone
  obtain ⟨v', w7, r7, g1, g2, g3⟩ := app_ints (ys := [j]) 1 hcut6 hone (by simp; omega) (by omega) 42
  rw [hown] at g2 g3
  have hlt := g1.lt
  have g1' : w7.ownsRow B 3 1 v' (p ++ [j]).length (ints (p ++ [j])) := by have := g1; rw [List.length_map] at this; exact this
  obtain ⟨A', c', rfl, hcel, _, _, _⟩ := owned_cel g1'
  rw [List.length_append, List.length_singleton] at r7 g1' g3 hlt
  have hbl : b < W.heap.size := (hu b a2).2
  have hb7 : w7.heap[b]? = W.heap[b]? := by
    have e1 := g2.block b (by omega) (fun e => (a4 b e.symm).2 rfl)
    rw [e1, hw6, Below.heap_alloc _ _ _ (by omega), hw5, Below.heap_alloc _ _ _ hbl]
  have hbk7 : w7.heap[W.heap.size]? = some (.cells #[k0, k1, k2] 27 (0, 0)) := by
    have e1 := g2.block W.heap.size (by omega) (fun e => by have := (hu _ (a4 _ e.symm).1).2; omega)
    rw [e1, hw6, Below.heap_alloc _ _ _ (by omega), hw5]
    exact heap_alloc_new _ _
  have hnew : ∀ k, (Value.slice A' (p.length + 1) c').ownBlock = some k → (T k ∧ k ≠ b) ∨ (w6.heap.size ≤ k ∧ k < w7.heap.size ∧ k ≠ b) := fun k hk => by
    rcases g3 with e | e
    · rw [e] at hk; exact .inl (a4 k hk)
    · rw [e] at hk
      have hk' : w6.heap.size = k := Option.some.inj hk
      have := hlt k (by rw [e]; exact hk)
      exact .inr ⟨by omega, this.2, by omega⟩
  have hT : Turn T (fun k => T k ∨ (Value.slice A' (p.length + 1) c').ownBlock = some k) W (w7.setCell ⟨b, 0, none⟩ (.slice A' (p.length + 1) c')) := by
    have t1 : Turn T T W w6 := Turn.of_below (by rw [hw6, hw5]; exact ((Below.refl _ W).alloc (Nat.le_refl _) _).alloc (by simp) _)
    have t2 : Turn T (fun k => T k ∨ (Value.slice A' (p.length + 1) c').ownBlock = some k) w6 w7 := ⟨g2.os, g2.tape, g2.output, g2.size, fun k hk hn => g2.block k hk (fun e => hn (a4 k e.symm).1), fun k hk => .inl hk, fun k hk => by
      rcases hk with h | h
      · exact .inl h
      · exact (hnew k h).imp And.left (fun h => ⟨h.1, h.2.1⟩)⟩
    exact t1.trans (t2.trans (Turn.setCell w7 (b := b) (.inl a2) 0 _))
  refine ⟨Ap, _, cp, A', c', w7, _, by rw [Lib.cell_of_heap a1]; rfl, hk1, by rw [← hw5, ← hw6]; exact r7, by rw [hb7, a1], ?_, hT, .slice A' (p.length + 1) c', ?_, .inl a2, ?_, fun k hk => ⟨.inr hk, (hnew k hk).elim And.right (fun h => h.2.2)⟩⟩
  · rw [Below.heap_setCell _ _ _ _ (by show W.heap.size ≠ b; omega)]; exact hbk7
  · simp [World.setCell, Array.getElem?_modify, hb7, a1]
  · rw [List.length_append, List.length_singleton]
    refine g1'.kept (row := some b) ⟨rfl, rfl, rfl, by simp [World.setCell], fun k hk hne => Below.heap_setCell _ _ _ _ (fun e => hne (by rw [show k = b from e]))⟩ ?_
    rcases h : (Value.slice A' (p.length + 1) c').ownBlock with _ | k
    · exact .inl rfl
    · exact .inr (fun e => (hnew k h).elim (fun h2 => h2.2 (Option.some.inj e)) (fun h2 => h2.2.2 (Option.some.inj e)))
/-- append, as it runs. -/
theorem in_append {F : Fence} {n : Nat} {P : Program} {w w' : World} {ops : Array Oper} {rest : List Oper} {o : Oper} {a : Act} {Q : Exit → Act → World → Prop} (hg : o.guard = none) (s x : Operand) (t u : TypeId) (ho : o.op = .call { callee := .builtin .append, args := #[s, x], argTypes := #[t, u] })
    (y z : Value) (hs : a.eval s = y) (hx : a.eval x = z) {v : Value} (hr : (Builtin.append_ #[t, u] o.type #[y, z]).run P w = .ok v w') (hK : wpListIn F n P ops Q rest (a.put o.dst v) w') : wpListIn F n P ops Q (o :: rest) a w := by
  refine wpListIn_plain hg fun K hK' => ?_
  unfold Oper.wpIn
  refine ⟨?_, ?_⟩
  · simp [Oper.about, ho, resolve, Target.leads, Sem.run_pure]
  · rw [Oper.semAt_plain F _ _ (by rw [ho]; intro c hc'; cases hc')]
    simp only [execOp, ho, resolve, invoke, builtin, Sem.run_bind, Sem.run_pure, Result.andThen_ok, List.map_toArray, List.map_cons, List.map_nil, hs, hx, hr]
    exact hK' _ _ hK
section
variable (root : Nd) (l n B : Nat) (hnB : n ≤ B) (J Jx : (Nat → Prop) → List (List Nat) → World → Prop) (hJ : Abid B J) (hJx : Abid B Jx) (W0 : World)
  (hY : ∀ T pre x args W1, J T pre W1 → Ups B T W1 → B ≤ W1.heap.size → Below n W0 W1 → EncN root n W1 x args → pre ++ [x] <+: placesN root [] → YieldAt Fence.wide 0 Try.prog l args W1 fun e W' =>
      Kp n T W1 W' ∧ ((e = .returned (.bool true) ∧ J T (pre ++ [x]) W') ∨ (e = .returned (.bool false) ∧ Jx T (pre ++ [x]) W')))
include hnB hJ hJx hY
set_option maxRecDepth 20000 in
set_option maxHeartbeats 8000000 in
theorem from_any : ∀ (x : Nd) (p : List Nat) (T : Nat → Prop) (pre : List (List Nat)) (W : World) (b : Nat), nodeAt root p = some x → x.In W n → J T pre W → Ups B T W → B ≤ W.heap.size → Below n W0 W → PAt B T W b l p → pre ++ placesN x p <+: placesN root [] → p.length + heftN x ≤ 268435456 →
    Calls Try.prog 28 #[.pointer (some ⟨b, 0, none⟩), x.val] W fun e W' => ∃ T', Ups B T' W' ∧ W.heap.size ≤ W'.heap.size ∧
      ((e = .returned (.bool true) ∧ J T' (pre ++ placesN x p) W' ∧ (∃ s, PAt B T' W' b l (p ++ s)) ∧ Below n W W') ∨ (e = .returned (.bool false) ∧ ∃ q, pre ++ q <+: placesN root [] ∧ Jx T' (pre ++ q) W')) := by
  refine Nd.ind ?_
  intro x ih p T pre W b hx hin hj hT hB hb0 hp hpre hz
  have HIH := Lib.hid ih
  have HX := Lib.hid hx
  have HIN := Lib.hid hin
  have HT0 := Lib.hid hT
  have HPRE := Lib.hid hpre
  have HZ := Lib.hid hz
  -- the node's box: the walk's own
  obtain ⟨T1, hT1⟩ : ∃ T1 : Nat → Prop, T1 = fun j => T j ∨ j = W.heap.size := ⟨_, rfl⟩
  have hal : Below W.heap.size W ((W.alloc (.cells #[.string x.name, x.pv, x.kv] 27)).drew) := ((Below.refl W.heap.size W).alloc (Nat.le_refl _) _).drew
  obtain ⟨W1, hW1⟩ : ∃ W1, W1 = (W.alloc (.cells #[.string x.name, x.pv, x.kv] 27)).drew := ⟨_, rfl⟩
  have hs1 : W1.heap.size = W.heap.size + 1 := by rw [hW1]; show ((W.alloc _).heap).size = _; simp
  have hbox : W1.heap[W.heap.size]? = some (.cells #[.string x.name, x.pv, x.kv] 27 (0, 0)) := by rw [hW1]; exact World.alloc_heap_new W _
  rw [← hW1] at hal
  have ht1 : Turn T T1 W W1 := by rw [hT1]; exact Turn.own hal _ (by omega)
  have hu1 : Ups B T1 W1 := ht1.ups hT hB
  have hj1 : J T1 pre W1 := hJ _ _ _ _ _ hj hB hT ht1
  have hp1 : PAt B T1 W1 b l p := hp.kept (fun k hk => hal.block k (hT k hk).2) ht1.sub
  have hin1 : x.In W1 n := hin.under (hal.mono (by omega))
  obtain ⟨v, hv1, hv2, hv3, hv4⟩ := hp1
  obtain ⟨Av, cv, rfl, hcel, hl1, hl2, _⟩ := owned_cel hv3
  have hy1 := hY T1 pre p #[.slice Av p.length cv, x.val] W1 hj1 hu1 (by omega) (hb0.trans (hal.mono (by omega))) ⟨Av, cv, x, rfl, hx, hcel, hl1, hl2, hin1⟩ (by
    rw [placesN_mk] at hpre
    obtain ⟨t, ht⟩ := hpre
    exact ⟨placesL x.kids p 0 ++ t, by rw [← ht]; simp⟩)
  obtain ⟨fn, tmps, assign, body, hyr, hR⟩ := hy1
  have HR := Lib.hid hR
  have HP1 : Hid (PAt B T1 W1 b l p) := Lib.hid ⟨_, hv1, hv2, hv3, hv4⟩
  have HU1 := Lib.hid hu1
  have HT1b : Hid (T1 W.heap.size) := Lib.hid (by rw [hT1]; exact .inr rfl)
  have HW1 := Lib.hid hW1
  have HAL := Lib.hid hal
  have HBX := Lib.hid hbox
  have c0 : W1.cell? ⟨b, 0, none⟩ = some (.slice Av p.length cv) := by rw [Lib.cell_of_heap hv1]; rfl
  have c1 : W1.cell? ⟨b, 1, none⟩ = some (.func (.yield l) #[] #[]) := by rw [Lib.cell_of_heap hv1]; rfl
  have d0 : W1.cell? ⟨W.heap.size, 0, none⟩ = some (.string x.name) := by rw [Lib.cell_of_heap hbox]; rfl
  have d1 : W1.cell? ⟨W.heap.size, 1, none⟩ = some x.pv := by rw [Lib.cell_of_heap hbox]; rfl
  have d2 : W1.cell? ⟨W.heap.size, 2, none⟩ = some x.kv := by rw [Lib.cell_of_heap hbox]; rfl
  have HS : Hid (W1.cell? ⟨b, 0, none⟩ = some (.slice Av p.length cv) ∧ W1.cell? ⟨b, 1, none⟩ = some (.func (.yield l) #[] #[]) ∧ W1.cell? ⟨W.heap.size, 0, none⟩ = some (.string x.name) ∧ W1.cell? ⟨W.heap.size, 1, none⟩ = some x.pv ∧ W1.cell? ⟨W.heap.size, 2, none⟩ = some x.kv) := Lib.hid ⟨c0, c1, d0, d1, d2⟩
  have HHY := Lib.hid hY
  have HHJ := Lib.hid hJ
  have HHX := Lib.hid hJx
  have HS1 := Lib.hid hs1
  have HB := Lib.hid hB
  have HNB := Lib.hid hnB
  have HB0 := Lib.hid hb0
  have HYR := Lib.hid hyr
  have HT1S := Lib.hid ht1.sub
  clear hW1 hyr hR hcel hl1 hl2 hv1 hv2 hv3 hv4 hin1 hj1 hu1 ht1 hbox hs1 hal hT1 ih hx hin hT hpre hz hY hJ hJx hp hj hb0 hB hnB c0 c1 d0 d1 d2
  obtain ⟨nm, pa, pc, ps, ka, kc, ks⟩ := x
  obtain ⟨g, hg⟩ : ∃ g, g = W.heap.size := ⟨_, rfl⟩
  have HG := Lib.hid hg
  simp only [Nd.val, Nd.pv, Nd.kv, Nd.name, Nd.pa, Nd.pc, Nd.props, Nd.ka, Nd.kc, Nd.kids] at HS HYR HIH HW1 HBX ⊢
  rw [← hg] at HS HBX HT1b
  clear hg
  refine (callsIn_wide (n := 0)).1 ?_
  refine callsIn_of_wp Try.func28 rfl trivial ?_ rfl
  simp only [Try.ntmps28, List.size_toArray, List.length_cons, List.length_nil, Nat.reduceAdd, Nat.reduceSub, Array.replicate_succ, Array.replicate_zero, List.push_toArray, List.append_toArray, List.nil_append, List.cons_append]
  gi_wp2_with fail
  refine in_begin (S := fun W => W.cell? ⟨b, 0, none⟩ = some (.slice Av p.length cv) ∧ W.cell? ⟨b, 1, none⟩ = some (.func (.yield l) #[] #[]) ∧ W.cell? ⟨g, 0, none⟩ = some (.string nm) ∧ W.cell? ⟨g, 1, none⟩ = some (.slice pa ps.length pc) ∧ W.cell? ⟨g, 2, none⟩ = some (.slice ka ks.length kc)) (by kernel_rfl) (by rw [← HW1.out]; exact HS.out) (fun hHeld => ?_)
  rw [← HW1.out] at hHeld ⊢
  rw [← HG.out]
  refine in_take 0 (fun _ => trivial) rfl (by kernel_rfl) (by kernel_rfl) (by kernel_rfl) (by kernel_rfl) (fun _ _ _ h => h) (by rfl) (by kernel_rfl) hHeld (v := ?_) (fun w hSw => ?_) (fun _ => ?_)
  rotate_left
  · ((try dsimp only at hSw); go_simp; (try with_reducible rfl))
  simp only [Act.put, List.setIfInBounds_toArray, List.set_cons_zero, List.set_cons_succ]
  refine in_take 1 (fun _ => trivial) rfl (by kernel_rfl) (by kernel_rfl) (by kernel_rfl) (by kernel_rfl) (fun _ _ _ h => h) (by rfl) (by kernel_rfl) hHeld (v := ?_) (fun w hSw => ?_) (fun _ => ?_)
  rotate_left
  · ((try dsimp only at hSw); go_simp; (try with_reducible rfl))
  simp only [Act.put, List.setIfInBounds_toArray, List.set_cons_zero, List.set_cons_succ]
  refine in_take 2 (fun _ => trivial) rfl (by kernel_rfl) (by kernel_rfl) (by kernel_rfl) (by kernel_rfl) (fun _ _ _ h => h) (by rfl) (by kernel_rfl) hHeld (v := ?_) (fun w hSw => ?_) (fun _ => ?_)
  rotate_left
  · ((try dsimp only at hSw); go_simp; (try with_reducible rfl))
  simp only [Act.put, List.setIfInBounds_toArray, List.set_cons_zero, List.set_cons_succ]
  refine in_take 3 (fun _ => trivial) rfl (by kernel_rfl) (by kernel_rfl) (by kernel_rfl) (by kernel_rfl) (fun _ _ _ h => h) (by rfl) (by kernel_rfl) hHeld (v := ?_) (fun w hSw => ?_) (fun _ => ?_)
  rotate_left
  · ((try dsimp only at hSw); go_simp; (try with_reducible rfl))
  simp only [Act.put, List.setIfInBounds_toArray, List.set_cons_zero, List.set_cons_succ]
  refine in_take 4 (fun _ => trivial) rfl (by kernel_rfl) (by kernel_rfl) (by kernel_rfl) (by kernel_rfl) (fun _ _ _ h => h) (by rfl) (by kernel_rfl) hHeld (v := ?_) (fun w hSw => ?_) (fun _ => ?_)
  rotate_left
  · ((try dsimp only at hSw); go_simp; (try with_reducible rfl))
  simp only [Act.put, List.setIfInBounds_toArray, List.set_cons_zero, List.set_cons_succ]
  refine in_take 5 (fun _ => trivial) rfl (by kernel_rfl) (by kernel_rfl) (by kernel_rfl) (by kernel_rfl) (fun _ _ _ h => h) (by rfl) (by kernel_rfl) hHeld (v := ?_) (fun w hSw => ?_) (fun _ => ?_)
  rotate_left
  · ((try dsimp only at hSw); go_simp; (try with_reducible rfl))
  simp only [Act.put, List.setIfInBounds_toArray, List.set_cons_zero, List.set_cons_succ]
  refine in_take 6 (fun _ => trivial) rfl (by kernel_rfl) (by kernel_rfl) (by kernel_rfl) (by kernel_rfl) (fun _ _ _ h => h) (by rfl) (by kernel_rfl) hHeld (v := ?_) (fun w hSw => ?_) (fun _ => ?_)
  rotate_left
  · ((try dsimp only at hSw); go_simp; (try with_reducible rfl))
  simp only [Act.put, List.setIfInBounds_toArray, List.set_cons_zero, List.set_cons_succ]
  refine in_take 7 (fun _ => trivial) rfl (by kernel_rfl) (by kernel_rfl) (by kernel_rfl) (by kernel_rfl) (fun _ _ _ h => h) (by rfl) (by kernel_rfl) hHeld (v := ?_) (fun w hSw => ?_) (fun _ => ?_)
  rotate_left
  · ((try dsimp only at hSw); go_simp; (try with_reducible rfl))
  simp only [Act.put, List.setIfInBounds_toArray, List.set_cons_zero, List.set_cons_succ]
  refine in_take 8 (fun _ => trivial) rfl (by kernel_rfl) (by kernel_rfl) (by kernel_rfl) (by kernel_rfl) (fun _ _ _ h => h) (by rfl) (by kernel_rfl) hHeld (v := ?_) (fun w hSw => ?_) (fun _ => ?_)
  rotate_left
  · ((try dsimp only at hSw); go_simp; (try with_reducible rfl))
  simp only [Act.put, List.setIfInBounds_toArray, List.set_cons_zero, List.set_cons_succ]
  refine in_call 9 (by kernel_rfl) rfl (by rfl) (fun K hK => ?_)
  have hyr := HYR.out
  refine ⟨fun _ _ => trivial, ?_⟩
  go_simp
  refine ⟨by simp [Fence.wide], HR.out.mono ?_⟩
  clear HR HYR hyr
  rintro e W2 ⟨hk2, (⟨rfl, hj2⟩ | ⟨rfl, hx2⟩)⟩
  · have q : ∀ r o, T1 r → W2.cell? ⟨r, o, none⟩ = W1.cell? ⟨r, o, none⟩ := fun r o hr => World.cell?_of_block (hk2.same r hr)
    have HP2 : Hid (PAt B T1 W2 b l p) := Lib.hid (HP1.out.kept (fun k hk => hk2.same k hk) (fun _ h => h))
    have HTb : Hid (T1 b) := Lib.hid (by obtain ⟨_, _, h, _⟩ := HP1.out; exact h)
    have HS2 : Hid (W2.cell? ⟨b, 0, none⟩ = some (.slice Av p.length cv) ∧ W2.cell? ⟨b, 1, none⟩ = some (.func (.yield l) #[] #[]) ∧ W2.cell? ⟨g, 0, none⟩ = some (.string nm) ∧ W2.cell? ⟨g, 1, none⟩ = some (.slice pa ps.length pc) ∧ W2.cell? ⟨g, 2, none⟩ = some (.slice ka ks.length kc)) := Lib.hid (by
      obtain ⟨s0, s1, s2, s3, s4⟩ := HS.out
      exact ⟨(q _ _ HTb.out).trans s0, (q _ _ HTb.out).trans s1, (q _ _ HT1b.out).trans s2, (q _ _ HT1b.out).trans s3, (q _ _ HT1b.out).trans s4⟩)
    have HK2 := Lib.hid hk2
    have HJ2 := Lib.hid hj2
    clear hk2 hj2 q
    dsimp only
    refine hK.out _ _ HS2.out (fun hHeld => ?_)
    clear hK K
    refine in_take 10 (fun _ => trivial) rfl (by kernel_rfl) (by kernel_rfl) (by kernel_rfl) (by kernel_rfl) (fun _ _ _ h => h) (by rfl) (by kernel_rfl) hHeld (v := ?_) (fun w hSw => ?_) (fun _ => ?_)
    rotate_left
    · ((try dsimp only at hSw); go_simp; (try with_reducible rfl))
    simp only [Act.put, List.setIfInBounds_toArray, List.set_cons_zero, List.set_cons_succ]
    refine in_done (by kernel_rfl) ?_ _
    clear hHeld
    obtain ⟨c0, c1, d0, d1, d2⟩ := HS2.out
    gi_wp2_with fail
    have HKC : Hid (∀ (wr : World), Below n W wr → ∀ j (h : j < ks.length), ∃ kb ko, ka = some ⟨kb, ko, none⟩ ∧ kb < n ∧ wr.cell? ⟨kb, ko + j * 3, none⟩ = some (.string ks[j].name) ∧ wr.cell? ⟨kb, ko + j * 3 + 1, none⟩ = some ks[j].pv ∧ wr.cell? ⟨kb, ko + j * 3 + 2, none⟩ = some ks[j].kv) := Lib.hid (fun wr hb j h => (HIN.out.under hb).kcell (n := Nd.mk nm pa pc ps ka kc ks) h)
    have HKID : Hid (∀ j (h : j < ks.length), nodeAt root (p ++ [j]) = some ks[j] ∧ ks[j].In W n ∧ ks[j] ∈ ks ∧ (pre ++ [p] ++ placesL (ks.take j) p 0) ++ placesN ks[j] (p ++ [j]) <+: placesN root [] ∧ (p ++ [j]).length + heftN ks[j] ≤ 268435456) := Lib.hid (fun j h => by
      refine ⟨nodeAt_next HX.out h, HIN.out.kid (n := Nd.mk nm pa pc ps ka kc ks) (List.getElem_mem h), List.getElem_mem h, ?_, ?_⟩
      · obtain ⟨t, ht⟩ := HPRE.out
        rw [placesN_mk] at ht
        have e : ks = ks.take (j + 1) ++ ks.drop (j + 1) := (List.take_append_drop _ _).symm
        have e2 : placesL (Nd.mk nm pa pc ps ka kc ks).kids p 0 = placesL (ks.take j) p 0 ++ placesN ks[j] (p ++ [j]) ++ placesL (ks.drop (j + 1)) p (0 + (ks.take (j + 1)).length) := by
          show placesL ks p 0 = _
          rw [← placesL_next ks p j h, ← placesL_append, ← e]
        rw [e2] at ht
        exact ⟨placesL (ks.drop (j + 1)) p (0 + (ks.take (j + 1)).length) ++ t, by rw [← ht]; simp only [List.append_assoc, List.cons_append, List.nil_append]⟩
      · have h1 := heftL_next ks j h
        have h2 := heftL_take ks (j + 1)
        have h3 := HZ.out
        rw [heftN] at h3
        rw [List.length_append, List.length_singleton]
        omega)
    have HLAST : Hid (pre ++ placesN (Nd.mk nm pa pc ps ka kc ks) p = pre ++ [p] ++ placesL ks p 0) := Lib.hid (by rw [placesN_mk]; simp [Nd.kids])
    have HPZ : Hid (p.length ≤ 268435456) := Lib.hid (by have := HZ.out; omega)
    obtain ⟨KL, hKL⟩ : ∃ KL, ks.length = KL := ⟨_, rfl⟩
    have HKL := Lib.hid hKL
    have hKB : KL ≤ 2199023255488 := by have h1 : ks.length * 64 ≤ 140737488351232 := HIN.out.name_le.2.2; omega
    rw [hKL] at d2 ⊢
    obtain ⟨pl, hpl⟩ : ∃ pl, p.length = pl := ⟨_, rfl⟩
    have HPL := Lib.hid hpl
    rw [hpl] at c0 ⊢
    clear hKL hpl HPRE HZ HX HIN
    gi_loopw [27] (fun i wr => ∃ (j : Nat) (Tj : Nat → Prop), j ≤ KL ∧ i = .int .i64 j ∧ J Tj (pre ++ [p] ++ placesL (ks.take j) p 0) wr ∧ (∃ s, PAt B Tj wr b l (p ++ s)) ∧ Ups B Tj wr ∧ B ≤ wr.heap.size ∧ Below n W wr) (fun i _ => KL - (intOf i).toNat)
    case atStart =>
      have hz1 := HS1.out
      have hz2 := HK2.out.below.size
      have hz3 := HB.out
      exact ⟨0, T1, Nat.zero_le _, rfl, by simpa [placesL] using HJ2.out, ⟨[], by simpa using HP2.out⟩, HU1.out.more hz2, by omega, (HAL.out.mono (Nat.le_trans HNB.out hz3)).trans HK2.out.below⟩
    case round =>
      clear c0 c1 d0 d1 d2 hHeld
      obtain ⟨j, Tj, hj, rfl, hjj, ⟨s, hpa⟩, hu, hbz, hbw⟩ := hrel
      by_cases hlt : j < KL
      · have hjk : j < ks.length := by rw [HKL.out]; exact hlt
        obtain ⟨kb, ko, ek, _, e0, e1, e2⟩ := HKC.out wr hbw j hjk
        obtain rfl : ka = _ := ek
        obtain ⟨n1, n2, n3, n4, n5⟩ := HKID.out j hjk
        have HN := Lib.hid (placesL_next ks p j hjk)
        generalize ks[j] = K at *
        have HC := Lib.hid (HIH.out K n3 (p ++ [j]))
        obtain ⟨Ap, m, cp, A', c', w7, T', f0, f1, f2, f3, f4, f5, f6⟩ := pat_step hpa hu hbz HPZ.out (.string K.name) K.pv K.kv j
        have hbw3 : Below n W (w7.setCell ⟨b, 0, none⟩ (.slice A' (p.length + 1) c')) := hbw.trans ((f5.below hu hbz).mono HNB.out)
        have HC2 := Lib.hid (HC.out T' _ _ b n1 (n2.under hbw3) (HHJ.out _ _ _ _ _ hjj hbz hu f5) (f5.ups hu hbz) (Nat.le_trans hbz f5.size) (HB0.out.trans hbw3) f6 n4 n5)
        have HBW3 := Lib.hid hbw3
        have HSZ := Lib.hid (Nat.le_trans hbz f5.size)
        rw [HPL.out] at f1 f2 f4 HC2 HBW3 HSZ
        have g0 : w7.cell? ⟨b, 0, none⟩ = some (.slice Ap m cp) := by rw [Lib.cell_of_heap f3]; rfl
        have g1 := Lib.frozen_of_heap f3 0
        have k0 := Lib.cell_of_heap f4 0
        have k1 := Lib.cell_of_heap f4 1
        have k2 := Lib.cell_of_heap f4 2
        have sl := fun W => run_upto Try.underlying42 size_int8 Ap m cp (pl : Int) pl rfl f1 W
        have f9 := Lib.cell?_alloc_some (.cells #[.string K.name, K.pv, K.kv] 27) f0
        clear hjj hpa hu hbz hbw f3 f4 f5 f6 n1 n2 n3 n4 n5 hbw3 HC hjk
        obtain ⟨kn, kpa, kpc, kps, kka, kkc, kks⟩ := K
        simp only [Nd.val, Nd.pv, Nd.kv, Nd.name, Nd.pa, Nd.pc, Nd.props, Nd.ka, Nd.kc, Nd.kids] at HC2 k0 k1 k2 e0 e1 e2 f2 f9
        generalize kks.length = kkl at *
        generalize kps.length = kpl at *
        gi_wp2_with (first
          | (refine in_append rfl _ _ _ _ rfl _ _ rfl rfl f2 ?_)
          | (refine ⟨trivial, rfl, (callsIn_wide.2 HC2.out).mono ?_⟩; rintro e W4 ⟨T4, hu4, hs4, (⟨rfl, hj4, hp4, hb4⟩ | ⟨rfl, q4, hq4, hx4⟩)⟩))
        · go_roundw
          case rel => exact ⟨j + 1, T4, by omega, by go_num, by rw [HN.out, ← List.append_assoc]; exact hj4, by obtain ⟨s4, h4⟩ := hp4; exact ⟨[j] ++ s4, by rw [← List.append_assoc]; exact h4⟩, hu4, Nat.le_trans HSZ.out hs4, HBW3.out.trans hb4⟩
          case measure => simp [intOf]; omega
        · go_ret
          exact ⟨T4, hu4, by have := HBW3.out.size; omega, .inr ⟨rfl, [p] ++ placesL (ks.take j) p 0 ++ q4, by simpa using hq4, by simpa using hx4⟩⟩
      · obtain rfl : j = KL := by omega
        have HEND := Lib.hid (show J Tj (pre ++ placesN (Nd.mk nm pa pc ps ka kc ks) p) wr from by
          rw [HLAST.out]
          rw [List.take_of_length_le (by rw [HKL.out]; exact Nat.le_refl _)] at hjj
          exact hjj)
        have HU := Lib.hid hu
        have HPA : Hid (∃ s, PAt B Tj wr b l (p ++ s)) := Lib.hid ⟨s, hpa⟩
        have HBW := Lib.hid hbw
        clear hjj hpa hu hbw
        gi_wp2
        go_ret
        exact ⟨Tj, HU.out, HBW.out.size, .inl ⟨rfl, HEND.out, HPA.out, HBW.out⟩⟩
  · have HTb : Hid (T1 b) := Lib.hid (by obtain ⟨_, _, h, _⟩ := HP1.out; exact h)
    have q : ∀ r o, T1 r → W2.cell? ⟨r, o, none⟩ = W1.cell? ⟨r, o, none⟩ := fun r o hr => World.cell?_of_block (hk2.same r hr)
    have HS2 : Hid (W2.cell? ⟨b, 0, none⟩ = some (.slice Av p.length cv) ∧ W2.cell? ⟨b, 1, none⟩ = some (.func (.yield l) #[] #[]) ∧ W2.cell? ⟨g, 0, none⟩ = some (.string nm) ∧ W2.cell? ⟨g, 1, none⟩ = some (.slice pa ps.length pc) ∧ W2.cell? ⟨g, 2, none⟩ = some (.slice ka ks.length kc)) := Lib.hid (by
      obtain ⟨s0, s1, s2, s3, s4⟩ := HS.out
      exact ⟨(q _ _ HTb.out).trans s0, (q _ _ HTb.out).trans s1, (q _ _ HT1b.out).trans s2, (q _ _ HT1b.out).trans s3, (q _ _ HT1b.out).trans s4⟩)
    have HK2 := Lib.hid hk2
    have HX2 := Lib.hid hx2
    have HPF : Hid (pre ++ [p] <+: placesN root []) := Lib.hid (by
      obtain ⟨t, ht⟩ := HPRE.out
      rw [placesN_mk] at ht
      exact ⟨_ ++ t, by rw [← ht]; simp [Nd.kids]; rfl⟩)
    clear hk2 hx2 q
    dsimp only
    refine hK.out _ _ HS2.out (fun hHeld => ?_)
    clear hK K
    refine in_take 10 (fun _ => trivial) rfl (by kernel_rfl) (by kernel_rfl) (by kernel_rfl) (by kernel_rfl) (fun _ _ _ h => h) (by rfl) (by kernel_rfl) hHeld (v := ?_) (fun w hSw => ?_) (fun _ => ?_)
    rotate_left
    · ((try dsimp only at hSw); go_simp; (try with_reducible rfl))
    simp only [Act.put, List.setIfInBounds_toArray, List.set_cons_zero, List.set_cons_succ]
    refine in_done (by kernel_rfl) ?_ _
    clear hHeld
    gi_wp2
    go_ret
    exact ⟨T1, HU1.out.more HK2.out.below.size, by have := HS1.out; have := HK2.out.below.size; omega, .inr ⟨rfl, [p], HPF.out, HX2.out⟩⟩
end
end Go.Proofs.Ytijhjlpkbnajpaa

/-! Layer 8: the program's nodes: the iterator over all nodes of a tree has its contract. -/
namespace Go.Proofs.Ytijhjlpkbnajpaa
open Go.RowKit
set_option linter.unusedVariables false
set_option linter.unusedSimpArgs false
attribute [local go_sem] Oper.semAt_some

/-- A tree's box. -/
def tbox (t : Tr) : Obj := .cells #[.int .u32 t.boot, t.rv, .string t.root.name, t.root.pv, t.root.kv] 29
set_option maxRecDepth 20000 in
set_option maxHeartbeats 2000000 in
theorem nodes_any (t : Tr) (w : World) : Calls Try.prog 22 #[t.val] w fun e w' => e = .returned (.func (.func 27) #[] #[.pointer (some ⟨w.heap.size, 0, none⟩)]) ∧ w' = w.alloc (tbox t) := by
  obtain ⟨boot, ra, rc, rs, ⟨nm, pa, pc, ps, ka, kc, ks⟩⟩ := t
  simp only [tbox, Tr.val, Tr.rv, Nd.val, Nd.pv, Nd.kv, Nd.name, Nd.pa, Nd.pc, Nd.props, Nd.ka, Nd.kc, Nd.kids]
  refine (callsIn_wide (n := 0)).1 ?_
  refine callsIn_of_wp Try.func22 rfl trivial ?_ rfl
  simp only [Try.ntmps22, List.size_toArray, List.length_cons, List.length_nil, Nat.reduceAdd, Nat.reduceSub, Array.replicate_succ, Array.replicate_zero, List.push_toArray, List.append_toArray, List.nil_append, List.cons_append]
  gi_wp2
  go_ret
  exact ⟨rfl, rfl⟩

set_option maxRecDepth 20000 in
set_option maxHeartbeats 4000000 in
theorem nodes_walks (t : Tr) (n k : Nat) (w : World) (hin : t.In w n) (hn : n ≤ w.heap.size) (hk : w.heap[k]? = some (tbox t)) (hh : heftN t.root ≤ 134217728) :
    Walks Try.prog 27 #[.pointer (some ⟨k, 0, none⟩)] n (EncN t.root n) (placesN t.root []) w := by
  intro l J Jx W hW hJ hJx hY h0
  have hkw : W.heap[k]? = some (tbox t) := (hW.block k (Array.getElem?_eq_some_iff.1 hk).1).trans hk
  obtain ⟨W1, hW1⟩ : ∃ W1, W1 = W.alloc (.cells #[.slice none 0 0, .func (.yield l) #[] #[]] 80) := ⟨_, rfl⟩
  have hs1 : W1.heap.size = W.heap.size + 1 := by rw [hW1]; simp
  have hal : Below W.heap.size W W1 := by rw [hW1]; exact (Below.refl _ W).alloc (Nat.le_refl _) _
  have ht : Turn (fun _ => False) (fun j => False ∨ j = W.heap.size) W W1 := Turn.own hal _ (by omega)
  have hu : Ups W.heap.size (fun j => False ∨ j = W.heap.size) W1 := ht.ups (fun k h => h.elim) (Nat.le_refl _)
  have hnW : n ≤ W.heap.size := Nat.le_trans hn hW.size
  have hin1 : t.root.In W1 n := hin.root.under ((hW.mono hn).trans (hal.mono hnW))
  have hp : PAt W.heap.size (fun j => False ∨ j = W.heap.size) W1 W.heap.size l [] := ⟨.slice none 0 0, by rw [hW1]; exact heap_alloc_new _ _, .inr rfl, World.ownsRow_nil _ _ _ _, fun k hk => by simp [Value.ownBlock] at hk⟩
  have hf := from_any t.root l n W.heap.size hnW J Jx hJ hJx W (fun T pre x args W1 a b c d e f => hY T pre x args W1 a b c d e f) t.root [] _ [] W1 W.heap.size rfl hin1 (hJ _ _ _ _ _ h0 (Nat.le_refl _) (fun k h => h.elim) ht) hu (by omega) (hal.mono hnW) hp (by simp) (by simp; omega)
  have HF := Lib.hid hf
  have HSZ := Lib.hid hs1
  rw [hW1] at HF
  clear hf hs1 hW1 hal ht hu hin1 hp hY h0 hJ hJx hin hk hW hn hnW hh
  obtain ⟨boot, ra, rc, rs, ⟨nm, pa, pc, ps, ka, kc, ks⟩⟩ := t
  simp only [tbox, Tr.val, Tr.rv, Nd.val, Nd.pv, Nd.kv, Nd.name, Nd.pa, Nd.pc, Nd.props, Nd.ka, Nd.kc, Nd.kids] at HF hkw
  have d0 := Lib.cell?_alloc_some (.cells #[.slice none 0 0, .func (.yield l) #[] #[]] 80) ((Lib.cell_of_heap hkw 2).trans rfl)
  have d1 := Lib.cell?_alloc_some (.cells #[.slice none 0 0, .func (.yield l) #[] #[]] 80) ((Lib.cell_of_heap hkw 3).trans rfl)
  have d2 := Lib.cell?_alloc_some (.cells #[.slice none 0 0, .func (.yield l) #[] #[]] 80) ((Lib.cell_of_heap hkw 4).trans rfl)
  clear hkw
  refine (callsIn_wide (n := 0)).1 ?_
  refine callsIn_of_wp Try.func27 rfl trivial ?_ rfl
  simp only [Try.ntmps27, List.size_toArray, List.length_cons, List.length_nil, Nat.reduceAdd, Nat.reduceSub, Array.replicate_succ, Array.replicate_zero, List.push_toArray, List.append_toArray, List.nil_append, List.cons_append]
  gi_wp2_with (refine ⟨trivial, rfl, (callsIn_wide.2 HF.out).mono ?_⟩; rintro e W4 ⟨T4, hu4, hs4, (⟨rfl, hj4, _, _⟩ | ⟨rfl, q4, hq4, hx4⟩)⟩)
  · go_end0
    refine ⟨⟨_, rfl⟩, T4, hu4, ?_, .inl (by simpa using hj4)⟩
    have := HSZ.out
    simp at hs4
    omega
  · go_end0
    refine ⟨⟨_, rfl⟩, T4, hu4, ?_, .inr ⟨q4, by simpa using hq4, by simpa using hx4⟩⟩
    have := HSZ.out
    simp at hs4
    omega
end Go.Proofs.Ytijhjlpkbnajpaa
