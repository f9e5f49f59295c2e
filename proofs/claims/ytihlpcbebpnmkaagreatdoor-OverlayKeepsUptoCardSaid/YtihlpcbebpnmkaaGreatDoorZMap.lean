/-
  Layer 11: maps that a call has made, all whose values are good; what a spot is.
-/
import Derived.Test.YtihlpcbebpnmkaaGreatDoorBase4
import Derived.Test.YtihlpcbebpnmkaaGreatDoorBase2
import Derived.Test.YtihlpcbebpnmkaaGreatDoorRIter
namespace Go.Proofs.YtihlpcbebpnmkaaGreatDoor
open Go.RowKit Go.Maps Go.WideMaps
set_option linter.unusedVariables false
set_option linter.unusedSimpArgs false

open Classical in
/-- A value reads, if it is good. -/
noncomputable def okR (P : Value → Prop) (v : Value) : Option (DataW Unit × List MemPlace) := if P v then some (.agg [], []) else none
theorem okR_good {P : Value → Prop} {v : Value} (h : P v) : okR P v = some (.agg [], []) := by unfold okR; rw [if_pos h]
theorem okR_inv {P : Value → Prop} {v : Value} {z : DataW Unit × List MemPlace} (h : okR P v = some z) : P v ∧ z = (.agg [], []) := by
  unfold okR at h
  by_cases hp : P v
  · rw [if_pos hp] at h
    exact ⟨hp, (Option.some.inj h).symm⟩
  · rw [if_neg hp] at h
    cases h
/-- Block g is a map by texts, of at most n values, all of them good. -/
def MOK (w : World) (P : Value → Prop) (g n : Nat) : Prop := ∃ D, w.ownsMap Tryz.prog 9 (okR P) g n D
section
variable {w w' : World} {P P' : Value → Prop} {g n : Nat}
theorem MOK.made (w : World) (P : Value → Prop) : MOK (w.alloc (.map #[] 0)) P w.heap.size 0 := ⟨_, World.ownsMap_made _ _ _ _⟩
theorem MOK.new (h : w.heap[g]? = some (.map #[] 0)) : MOK w P g 0 := ⟨_, #[], 0, h, ⟨by simp, Go.MapKept.stamped_empty 0, by simp⟩, Nat.le_refl _, rfl⟩
theorem MOK.lt (h : MOK w P g n) : g < w.heap.size := by obtain ⟨D, h⟩ := h; exact h.lt
theorem MOK.keep (h : MOK w P g n) (hk : w'.heap[g]? = w.heap[g]?) : MOK w' P g n := by
  obtain ⟨D, es, clock, h1, h2⟩ := h
  exact ⟨D, es, clock, hk.trans h1, h2⟩
theorem MOK.weaken (h : MOK w P g n) (hp : ∀ v, P v → P' v) : MOK w P' g n := by
  obtain ⟨D, es, clock, hb, F, hs, hD⟩ := h
  refine ⟨_, (World.ownsMap_of_fit hb F (R := okR P') (fun x hx z hz => ?_)).mono hs⟩
  obtain ⟨h1, rfl⟩ := okR_inv hz
  exact okR_good (hp _ h1)
theorem MOK.look {t e : TypeId} (h : MOK w P g n) (ht : Tryz.prog.underlying t = some (.map 9 e)) {z : Value} (hz : (zeroValue e).run Tryz.prog w = .ok z w) (hP : P z) {s : ByteArray} (hs : s.size ≤ 140737488351232) :
    ∃ v, (Instr.lookup t (.map (some g)) (.string s) false).run Tryz.prog w = .ok v w ∧ P v := by
  obtain ⟨D, h⟩ := h
  obtain ⟨v, ps, h1, h2⟩ := h.lookup lawS ht hz (okR_good hP) (key_ok hs)
  exact ⟨v, h1, (okR_inv h2).1⟩
theorem MOK.look_ok {t e : TypeId} (h : MOK w P g n) (ht : Tryz.prog.underlying t = some (.map 9 e)) {z : Value} (hz : (zeroValue e).run Tryz.prog w = .ok z w) (hP : P z) {s : ByteArray} (hs : s.size ≤ 140737488351232) :
    ∃ v r, (Instr.lookup t (.map (some g)) (.string s) true).run Tryz.prog w = .ok (.tuple #[v, .bool r]) w ∧ P v := by
  obtain ⟨D, h⟩ := h
  obtain ⟨v, ps, h1, h2⟩ := h.look_ok lawS ht hz (okR_good hP) (key_ok hs)
  exact ⟨v, _, h1, (okR_inv h2).1⟩
theorem MOK.store {t e : TypeId} (h : MOK w P g n) (ht : Tryz.prog.underlying t = some (.map 9 e)) {v : Value} (hP : P v) {s : ByteArray} (hs : s.size ≤ 140737488351232) (hn : n < maxLen) :
    ∃ w', (Instr.mapUpdate t (.map (some g)) (.string s) v).run Tryz.prog w = .ok () w' ∧ MOK w' P g (n + 1) ∧ w.grownBy w' (some g) := by
  obtain ⟨D, h⟩ := h
  obtain ⟨w', h1, h2, h3⟩ := h.store lawS ht hn (key_ok hs) (okR_good hP)
  exact ⟨w', h1, ⟨_, h2⟩, h3.grown⟩
end

/-- A spot's value: its two maps are none, or some of TV and of TK. -/
def SpV (TV TK : Nat → Prop) (v : Value) : Prop := ∃ a b, v = .agg #[.map a, .map b] ∧ (∀ g, a = some g → TV g) ∧ (∀ g, b = some g → TK g)
theorem SpV.nil (TV TK : Nat → Prop) : SpV TV TK (.agg #[.map none, .map none]) := ⟨none, none, rfl, fun _ h => (by cases h), fun _ h => (by cases h)⟩
theorem SpV.mono {TV TK TV' TK' : Nat → Prop} {v : Value} (h : SpV TV TK v) (h1 : ∀ g, TV g → TV' g) (h2 : ∀ g, TK g → TK' g) : SpV TV' TK' v := by
  obtain ⟨a, b, e, ha, hb⟩ := h
  exact ⟨a, b, e, fun g hg => h1 g (ha g hg), fun g hg => h2 g (hb g hg)⟩
/-- The maps of spots: those of TV hold good values, those of TK spots. -/
structure Spots (w : World) (P : Value → Prop) (TV TK : Nat → Prop) : Prop where
  val : ∀ g, TV g → ∃ n, MOK w P g n
  kid : ∀ g, TK g → ∃ n, MOK w (SpV TV TK) g n
section
variable {w w' : World} {P : Value → Prop} {TV TK TV' TK' : Nat → Prop}
theorem Spots.none (w : World) (P : Value → Prop) : Spots w P (fun _ => False) (fun _ => False) := ⟨fun _ h => h.elim, fun _ h => h.elim⟩
theorem Spots.lt (h : Spots w P TV TK) : ∀ g, TV g ∨ TK g → g < w.heap.size := fun g hg => by
  rcases hg with hg | hg
  · obtain ⟨n, h1⟩ := h.val g hg; exact h1.lt
  · obtain ⟨n, h1⟩ := h.kid g hg; exact h1.lt
theorem Spots.keep (h : Spots w P TV TK) (hk : ∀ g, TV g ∨ TK g → w'.heap[g]? = w.heap[g]?) : Spots w' P TV TK :=
  ⟨fun g hg => by obtain ⟨n, h1⟩ := h.val g hg; exact ⟨n, h1.keep (hk g (.inl hg))⟩, fun g hg => by obtain ⟨n, h1⟩ := h.kid g hg; exact ⟨n, h1.keep (hk g (.inr hg))⟩⟩
theorem Spots.below (h : Spots w P TV TK) (hb : Below w.heap.size w w') : Spots w' P TV TK := h.keep (fun g hg => hb.block g (h.lt g hg))
theorem Spots.chg {E : Nat → Prop} (h : Spots w P TV TK) (hc : Chg E w w') (hE : ∀ g, TV g ∨ TK g → ¬ E g) : Spots w' P TV TK := h.keep (fun g hg => hc.block g (h.lt g hg) (hE g hg))
/-- Two of them. -/
theorem Spots.both (h : Spots w P TV TK) (h' : Spots w P TV' TK') : Spots w P (fun g => TV g ∨ TV' g) (fun g => TK g ∨ TK' g) := by
  refine ⟨fun g hg => hg.elim (h.val g) (h'.val g), fun g hg => ?_⟩
  rcases hg with hg | hg
  · obtain ⟨n, h1⟩ := h.kid g hg
    exact ⟨n, h1.weaken (fun v hv => hv.mono (fun _ => .inl) (fun _ => .inl))⟩
  · obtain ⟨n, h1⟩ := h'.kid g hg
    exact ⟨n, h1.weaken (fun v hv => hv.mono (fun _ => .inr) (fun _ => .inr))⟩
/-- One more of each. -/
theorem Spots.more (h : Spots w P TV TK) {gv gk nv nk : Nat} (hv : MOK w P gv nv) (hk : MOK w (SpV TV TK) gk nk) : Spots w P (fun g => TV g ∨ g = gv) (fun g => TK g ∨ g = gk) := by
  refine ⟨fun g hg => ?_, fun g hg => ?_⟩
  · rcases hg with hg | rfl
    · exact h.val g hg
    · exact ⟨nv, hv⟩
  · rcases hg with hg | rfl
    · obtain ⟨n, h1⟩ := h.kid g hg
      exact ⟨n, h1.weaken (fun v hv => hv.mono (fun _ => .inl) (fun _ => .inl))⟩
    · exact ⟨nk, hk.weaken (fun v hv => hv.mono (fun _ => .inl) (fun _ => .inl))⟩
end
theorem zeroSl (w : World) : (zeroValue 59).run Tryz.prog w = .ok (.slice none 0 0) w := by kernel_rfl
theorem zeroSp (w : World) : (zeroValue 87).run Tryz.prog w = .ok (.agg #[.map none, .map none]) w := by kernel_rfl
/-- A look-up in a spot's maps, be they none. -/
theorem look_values {w : World} {P : Value → Prop} {TV TK : Nat → Prop} (h : Spots w P TV TK) (hP : P (.slice none 0 0)) {a : Option Nat} (ha : ∀ g, a = some g → TV g) {s : ByteArray} (hs : s.size ≤ 140737488351232) :
    ∃ v, (Instr.lookup 84 (.map a) (.string s) false).run Tryz.prog w = .ok v w ∧ P v := by
  rcases a with _ | g
  · exact ⟨_, Maps.look_nil false lawS Tryz.underlying84 (zeroSl w) (key_ok hs), hP⟩
  · obtain ⟨n, h1⟩ := h.val g (ha g rfl)
    exact h1.look Tryz.underlying84 (zeroSl w) hP hs
theorem look_values_ok {w : World} {P : Value → Prop} {TV TK : Nat → Prop} (h : Spots w P TV TK) (hP : P (.slice none 0 0)) {a : Option Nat} (ha : ∀ g, a = some g → TV g) {s : ByteArray} (hs : s.size ≤ 140737488351232) :
    ∃ v r, (Instr.lookup 84 (.map a) (.string s) true).run Tryz.prog w = .ok (.tuple #[v, .bool r]) w ∧ P v := by
  rcases a with _ | g
  · exact ⟨_, _, Maps.look_nil true lawS Tryz.underlying84 (zeroSl w) (key_ok hs), hP⟩
  · obtain ⟨n, h1⟩ := h.val g (ha g rfl)
    exact h1.look_ok Tryz.underlying84 (zeroSl w) hP hs
theorem look_kids {w : World} {P : Value → Prop} {TV TK : Nat → Prop} (h : Spots w P TV TK) {a : Option Nat} (ha : ∀ g, a = some g → TK g) {s : ByteArray} (hs : s.size ≤ 140737488351232) :
    ∃ v, (Instr.lookup 85 (.map a) (.string s) false).run Tryz.prog w = .ok v w ∧ SpV TV TK v := by
  rcases a with _ | g
  · exact ⟨_, Maps.look_nil false lawS Tryz.underlying85 (zeroSp w) (key_ok hs), SpV.nil _ _⟩
  · obtain ⟨n, h1⟩ := h.kid g (ha g rfl)
    exact h1.look Tryz.underlying85 (zeroSp w) (SpV.nil _ _) hs
theorem makeMapV (w : World) (n : Int) : (Instr.makeMap 84 (some (.int .i64 n))).run Tryz.prog w = .ok (.map (some w.heap.size)) (w.alloc (.map #[] 0)) := by
  simp [Instr.makeMap, run_underlying Tryz.underlying84, asInt, asIntOf, Result.andThen]
theorem makeMapK (w : World) (n : Int) : (Instr.makeMap 85 (some (.int .i64 n))).run Tryz.prog w = .ok (.map (some w.heap.size)) (w.alloc (.map #[] 0)) := by
  simp [Instr.makeMap, run_underlying Tryz.underlying85, asInt, asIntOf, Result.andThen]
end Go.Proofs.YtihlpcbebpnmkaaGreatDoor
