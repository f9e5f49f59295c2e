/-
  A statement whose operations may come in several orders, in a round or where a round is called: operations that only read are taken first, as long as a condition on memory holds.
-/
import Derived.Test.YtapfcbcojnplaaaRIter
import Derived.Test.YtapfcbcojnplaaaBase1
import Derived.OrdersIn
namespace Go.Proofs.Ytapfcbcojnplaaa
open Go.RowKit
set_option linter.unusedVariables false
section
variable {F : Fence} {n : Nat} {P : Program} {ops : Array Oper} {l : List Oper} {Q : Exit → Act → World → Prop} {S : World → Prop} {fr : List Nat}

/-- Any order from here on; S holds behind every operation but those of fr. -/
def inAnyH (F : Fence) (n : Nat) (P : Program) (ops : Array Oper) (Q : Exit → Act → World → Prop) (S : World → Prop) (fr : List Nat) : Nat → Array Bool → Act → World → Prop
  | 0, listed, a, w => Region.ready .any ops listed = [] ∧ Q .normal a w
  | fuel + 1, listed, a, w => (Region.ready .any ops listed = [] → Q .normal a w) ∧
    ∀ i ∈ Region.ready .any ops listed, wpOpIn F n P ops Q i (fun a' w' => (fr.contains i = false → S w') ∧ inAnyH F n P ops Q S fr fuel (listed.setIfInBounds i true) a' w') a w

theorem inAny_of : ∀ (fuel : Nat) (listed : Array Bool) (a : Act) (w : World), inAnyH F n P ops Q S fr fuel listed a w → wpAnyIn F n P .any ops Q fuel listed a w
  | 0, _, _, _, h => h
  | fuel + 1, _, _, _, h => ⟨h.1, fun i hi => wpOpIn_mono (fun a' w' h' => inAny_of fuel _ a' w' h'.2) (h.2 i hi)⟩

/-- More may be known of memory from here on. -/
theorem inAny_more {S' : World → Prop} (hsub : ∀ w, S' w → S w) : ∀ (fuel : Nat) (listed : Array Bool) (a : Act) (w : World), inAnyH F n P ops Q S' fr fuel listed a w → inAnyH F n P ops Q S fr fuel listed a w
  | 0, _, _, _, h => h
  | fuel + 1, _, _, _, h => ⟨h.1, fun i hi => wpOpIn_mono (fun a' w' h' => ⟨fun h => hsub _ (h'.1 h), inAny_more hsub fuel _ a' w' h'.2⟩) (h.2 i hi)⟩

/-- An operation that yields while S holds. -/
theorem op_yields (hF : ∀ f, F.fn f) {i : Nat} {o : Oper} {v : Value} {a : Act} (hi : ops[i]? = some o) (hd : ∀ c, o.op ≠ .defer c) (hy : YieldsIf P ops S o v a) {K : Act → World → Prop} {w : World} (hS : S w) (h : K (a.put o.dst v) w) : wpOpIn F n P ops Q i K a w := by
  unfold wpOpIn
  simp only [hi]
  rcases hy with ⟨hw, hv⟩ | ⟨hw, rfl⟩
  · rw [if_pos hw]
    unfold Oper.wpIn
    rw [Oper.semAt_plain F _ _ hd, hv w hS]
    exact ⟨fun f _ => hF f, h⟩
  · rw [if_neg (by rw [hw]; simp)]
    exact ⟨fun f _ => hF f, h⟩

/-- Another operation does not mind. -/
theorem op_past (hF : ∀ f, F.fn f) {j : Nat} {oi oj : Oper} {v : Value} (hj : ops[j]? = some oj) (hd : ∀ c, oj.op ≠ .defer c) (hap : oi.apart ops oj = true) (hsi : ∀ cs b, oi.op ≠ .select cs b) (hsj : ∀ cs b, oj.op ≠ .select cs b)
    (hQ : ∀ c a w, Q (.panic c) (a.put oi.dst v) w → Q (.panic c) a w) {K : Act → World → Prop} {a : Act} {w : World} (hy : YieldsIf P ops S oi v a) (h : wpOpIn F n P ops Q j K (a.put oi.dst v) w) :
    wpOpIn F n P ops Q j (fun a' w' => YieldsIf P ops S oi v a' ∧ K (a'.put oi.dst v) w') a w := by
  obtain ⟨h1, h2, h3⟩ := Oper.apart_spec hap
  have keep : ∀ u, YieldsIf P ops S oi v (a.put oj.dst u) := fun u => hy.of_same (execOp_put oi hsi a oj.dst u h3) (wanted_put oi a oj.dst u h3)
  have turn : ∀ u (w'' : World), K ((a.put oi.dst v).put oj.dst u) w'' → K ((a.put oj.dst u).put oi.dst v) w'' := fun u w'' hk => by rw [← Act.put_comm a v u h2]; exact hk
  unfold wpOpIn at *
  simp only [hj] at *
  rw [wanted_put oj a oi.dst v h1] at h
  by_cases hw : Region.wanted oj (yielded ops a.tmps) = true
  · rw [if_pos hw] at h ⊢
    unfold Oper.wpIn at *
    refine ⟨fun f _ => hF f, ?_⟩
    have h := h.2
    rw [Oper.semAt_plain F _ _ hd, execOp_put oj hsj a oi.dst v h1] at h
    rw [Oper.semAt_plain F _ _ hd]
    generalize (execOp a.eval oj).run P w = r at *
    cases r with
    | halt x w' =>
      cases x <;> simp only [Oper.uponIn] at h ⊢
      exact hQ _ _ _ h
    | ok x w' =>
      cases x with
      | value u => exact ⟨keep u, turn u w' h⟩
      | skip => exact ⟨keep undef, turn undef w' h⟩
      | defer d =>
        simp only [Oper.uponIn] at h ⊢
        refine ⟨hy.of_same (a' := ({ a with defers := d :: a.defers } : Act).put oj.dst undef) ((execOp_put oi hsi { a with defers := d :: a.defers } oj.dst undef h3).trans rfl) ((wanted_put oi { a with defers := d :: a.defers } oj.dst undef h3).trans rfl), ?_⟩
        rw [← Act.put_comm _ v undef h2, ← Act.put_defers]
        exact h
      | enter f args =>
        simp only [Oper.uponIn] at h ⊢
        refine ⟨h.1, h.2.mono fun e w'' he => ?_⟩
        cases e with
        | returned u => exact ⟨keep u, turn u w'' he⟩
        | panicked c => exact hQ _ _ _ he
        | outgrown => exact he
      | row row args =>
        simp only [Oper.uponIn] at h ⊢
        exact ⟨h.1, h.2.mono fun u w'' he => ⟨keep u, turn u w'' he⟩⟩
      | round l f tmps assign body =>
        simp only [Oper.uponIn] at h ⊢
        refine ⟨h.1, h.2.mono fun e w'' he => ?_⟩
        cases e with
        | returned u => exact ⟨keep u, turn u w'' he⟩
        | panicked c => exact hQ _ _ _ he
        | outgrown => exact he
      | _ => simp only [Oper.uponIn] at h
  · rw [if_neg hw] at h ⊢
    exact ⟨fun f _ => hF f, keep undef, turn undef w h.2⟩

/-- Taken first. -/
theorem inAny_first (hF : ∀ f, F.fn f) {i : Nat} {oi : Oper} {v : Value} (hi : ops[i]? = some oi) (hd : ∀ (j : Nat) (o : Oper) c, ops[j]? = some o → o.op ≠ .defer c) (hsel : ∀ (j : Nat) (o : Oper) cs b, ops[j]? = some o → o.op ≠ .select cs b)
    (hQ : ∀ c a w, Q (.panic c) (a.put oi.dst v) w → Q (.panic c) a w) (hfr : ∀ (j : Nat) (o : Oper), ops[j]? = some o → fr.contains j = true → ∃ e ∈ o.after, Region.binds .any e = true ∧ e.on = i) : ∀ (fuel : Nat) (listed : Array Bool) (a : Act) (w : World),
      (∀ j oj, ops[j]? = some oj → j ≠ i → listed.getD j true = false → (∀ e ∈ oj.after, Region.binds .any e = true → e.on ≠ i) → oi.apart ops oj = true) →
      i ∈ Region.ready .any ops listed → YieldsIf P ops S oi v a → S w →
      inAnyH F n P ops Q S fr fuel (listed.setIfInBounds i true) (a.put oi.dst v) w → inAnyH F n P ops Q S fr (fuel + 1) listed a w := by
  have self : ∀ fuel (listed : Array Bool) a w, YieldsIf P ops S oi v a → S w → inAnyH F n P ops Q S fr fuel (listed.setIfInBounds i true) (a.put oi.dst v) w → wpOpIn F n P ops Q i (fun a' w' => (fr.contains i = false → S w') ∧ inAnyH F n P ops Q S fr fuel (listed.setIfInBounds i true) a' w') a w :=
    fun fuel listed a w hy hS H => op_yields hF hi (fun c => hd i oi c hi) hy hS ⟨fun _ => hS, H⟩
  intro fuel
  induction fuel with
  | zero =>
    intro listed a w _ hr hy hS H
    refine ⟨fun h => by rw [h] at hr; exact absurd hr List.not_mem_nil, fun j hj => ?_⟩
    by_cases hji : j = i
    · subst hji; exact self 0 listed a w hy hS H
    · have h0 := ready_mono hj hji
      rw [H.1] at h0
      exact absurd h0 List.not_mem_nil
  | succ fuel ih =>
    intro listed a w hfree hr hy hS H
    refine ⟨fun h => by rw [h] at hr; exact absurd hr List.not_mem_nil, fun j hj => ?_⟩
    by_cases hji : j = i
    · subst hji; exact self _ listed a w hy hS H
    obtain ⟨hjun, oj, hoj, hall⟩ := mem_ready.1 hj
    have hnot : ∀ e ∈ oj.after, Region.binds .any e = true → e.on ≠ i := fun e he hb heq => by
      have g1 := hall e he hb
      have g0 := (mem_ready.1 hr).1
      rw [heq] at g1
      rcases Nat.lt_or_ge i listed.size with h' | h'
      · simp [h'] at g0 g1; rw [g0] at g1; cases g1
      · simp [Array.getElem?_eq_none h'] at g1
    have hneed : fr.contains j = false := by
      rcases h : fr.contains j with _ | _
      · rfl
      · obtain ⟨e, he, hb, heq⟩ := hfr j oj hoj h
        exact absurd heq (hnot e he hb)
    refine wpOpIn_mono (fun a' w' g => ⟨fun _ => g.2.1 hneed, ih (listed.setIfInBounds j true) a' w' (fun k ok hk hki hun hno => hfree k ok hk hki ?_ hno) (ready_mono hr (Ne.symm hji)) g.1 (g.2.1 hneed) ?_⟩)
      (op_past hF hoj (fun c => hd j oj c hoj) (hfree j oj hoj hji hjun hnot) (fun cs b => hsel i oi cs b hi) (fun cs b => hsel j oj cs b hoj) hQ hy (H.2 j (ready_mono hj hji)))
    · by_cases hjk : j = k
      · subst hjk; exact hjun
      · rw [getD_set_ne true hjk] at hun; exact hun
    · rw [Array.setIfInBounds_comm _ _ hji]; exact g.2.2

/-- No operation is a defer statement. -/
def noDefer (ops : List Oper) : Bool := ops.all fun o => match o.op with | .defer _ => false | _ => true
theorem noDefer_spec (h : noDefer l = true) : ∀ (j : Nat) (o : Oper) c, l.toArray[j]? = some o → o.op ≠ .defer c := fun j o c hj e => by
  have := List.all_eq_true.1 h o (List.mem_of_getElem? (by simpa using hj))
  rw [e] at this
  cases this

/-- The operations of fr wait for operation i. -/
def frOk (l : List Oper) (fr : List Nat) (i : Nat) : Bool := fr.all fun j => match l[j]? with | some o => o.after.toList.any fun e => Region.binds .any e && decide (e.on = i) | none => true
theorem frOk_spec {i : Nat} (h : frOk l fr i = true) : ∀ (j : Nat) (o : Oper), l.toArray[j]? = some o → fr.contains j = true → ∃ e ∈ o.after, Region.binds .any e = true ∧ e.on = i := fun j o hj hc => by
  have h1 := List.all_eq_true.1 h j (by simpa using hc)
  have h2 : l[j]? = some o := by simpa using hj
  rw [h2] at h1
  obtain ⟨e, he, h3⟩ := List.any_eq_true.1 h1
  simp only [Bool.and_eq_true, decide_eq_true_eq] at h3
  exact ⟨e, by simpa using he, h3.1, h3.2⟩

/-- An operation that reads, and is wanted. -/
theorem in_take (i : Nat) {oi : Oper} {v : Value} {fuel : Nat} {listed : Array Bool} {a : Act} {w : World} (hF : ∀ f, F.fn f) (hi : l[i]? = some oi) (hnd : noDefer l = true) (hs : Region.noSelect l.toArray = true) (hf : Region.free .any l.toArray listed i = true)
    (hr : (Region.ready .any l.toArray listed).contains i = true) (hQ : ∀ c a w, Q (.panic c) (a.put oi.dst v) w → Q (.panic c) a w) (hw : Region.wanted oi (yielded l.toArray a.tmps) = true) (hfr : frOk l fr i = true)
    (hS : S w) (hy : ∀ w, S w → (execOp a.eval oi).run P w = .ok (.value v) w) (h : S w → inAnyH F n P l.toArray Q S fr fuel (listed.setIfInBounds i true) (a.put oi.dst v) w) : inAnyH F n P l.toArray Q S fr (fuel + 1) listed a w :=
  inAny_first hF (by simpa using hi) (noDefer_spec hnd) (Region.noSelect_spec hs) hQ (frOk_spec hfr) fuel listed a w (Region.free_spec (by simpa using hi) hf) (by simpa using hr) (.inl ⟨hw, hy⟩) hS (h hS)

/-- The one operation that may come now. -/
theorem in_call (i : Nat) {oi : Oper} {fuel : Nat} {listed : Array Bool} {a : Act} {w : World} (hr : Region.ready .any l.toArray listed = [i]) (hi : l[i]? = some oi) (hw : Region.wanted oi (yielded l.toArray a.tmps) = true)
    (h : ∀ K : Act → World → Prop, Shut (∀ a w, S w → (S w → inAnyH F n P l.toArray Q S fr fuel (listed.setIfInBounds i true) a w) → K a w) → Oper.wpIn F n P oi a w K Q) : inAnyH F n P l.toArray Q S fr (fuel + 1) listed a w := by
  refine ⟨fun h0 => (by rw [hr] at h0; cases h0), fun j hj => ?_⟩
  rw [hr] at hj
  obtain rfl := List.mem_singleton.1 hj
  unfold wpOpIn
  rw [show l.toArray[j]? = some oi by simpa using hi]
  simp only
  rw [if_pos hw]
  exact h _ (fun a w hS hk => ⟨fun _ => hS, hk hS⟩)

/-- The one operation that may come now, behind which nothing is asked. -/
theorem in_free (i : Nat) {oi : Oper} {fuel : Nat} {listed : Array Bool} {a : Act} {w : World} (hr : Region.ready .any l.toArray listed = [i]) (hi : l[i]? = some oi) (hw : Region.wanted oi (yielded l.toArray a.tmps) = true) (hc : fr.contains i = true)
    (h : ∀ K : Act → World → Prop, Shut (∀ a w, inAnyH F n P l.toArray Q S fr fuel (listed.setIfInBounds i true) a w → K a w) → Oper.wpIn F n P oi a w K Q) : inAnyH F n P l.toArray Q S fr (fuel + 1) listed a w := by
  refine ⟨fun h0 => (by rw [hr] at h0; cases h0), fun j hj => ?_⟩
  rw [hr] at hj
  obtain rfl := List.mem_singleton.1 hj
  unfold wpOpIn
  rw [show l.toArray[j]? = some oi by simpa using hi]
  simp only
  rw [if_pos hw]
  exact h _ (fun a w hk => ⟨fun e => (by rw [hc] at e; cases e), hk⟩)

theorem in_done {listed : Array Bool} {a : Act} {w : World} (hr : Region.ready .any ops listed = []) (h : Q .normal a w) : ∀ fuel, inAnyH F n P ops Q S fr fuel listed a w
  | 0 => ⟨hr, h⟩
  | _ + 1 => ⟨fun _ => h, by rw [hr]; simp⟩

theorem in_begin {id : Nat} {a : Act} {w : World} (hm : P.follows .mixedOrders = true) (hS : S w.drew) (h : S w.drew → inAnyH F n P ops Q S [] ops.size (Array.replicate ops.size false) a w.drew) : (Code.region id ops true).wpIn F n P Q a w :=
  wpIn_region_any hm (inAny_of _ _ _ _ (h hS))
theorem in_beginF (fr : List Nat) {id : Nat} {a : Act} {w : World} (hm : P.follows .mixedOrders = true) (hS : S w.drew) (h : S w.drew → inAnyH F n P ops Q S fr ops.size (Array.replicate ops.size false) a w.drew) : (Code.region id ops true).wpIn F n P Q a w :=
  wpIn_region_any hm (inAny_of _ _ _ _ (h hS))
end
end Go.Proofs.Ytapfcbcojnplaaa
