/-
  All handles of a tree: the document's answer.
-/
import Derived.Test.YtmgokplpkmndoaaGreatHPure
import Derived.Test.YtmgokplpkmndoaaGreatQGet
import Derived.Test.YtmgokplpkmndoaaGreatQRow2
namespace Go.Proofs.YtmgokplpkmndoaaGreat
open Go.RowKit
set_option linter.unusedVariables false
set_option linter.unusedSimpArgs false

/-- A pair of values shows a handle, and a place below block B. -/
def RefV (w : World) (B : Nat) (x : Value × Value) (r : Int × List Nat) : Prop :=
  x.1 = .int .u32 r.1 ∧ ∃ A c, x.2 = .slice A r.2.length c ∧ Cel w B A r.2.length (ints r.2) ∧ r.2.length ≤ c ∧ c ≤ 9223372036854775807
theorem RefV.below {w w' : World} {B : Nat} {x : Value × Value} {r : Int × List Nat} (h : RefV w B x r) (hb : Below B w w') : RefV w' B x r := by
  obtain ⟨e, A, c, e2, h1, h2⟩ := h
  exact ⟨e, A, c, e2, h1.below hb, h2⟩
theorem RefV.more {w : World} {B B' : Nat} {x : Value × Value} {r : Int × List Nat} (h : RefV w B x r) (hB : B ≤ B') : RefV w B' x r := by
  obtain ⟨e, A, c, e2, h1, h2⟩ := h
  exact ⟨e, A, c, e2, h1.more hB, h2⟩
/-- A slice shows these handles. -/
def RefShow (w : World) (B : Nat) (A : Option Addr) (n : Nat) (rs : List (Int × List Nat)) : Prop :=
  ∃ vs, Cel2 w B A n vs ∧ Two (RefV w B) vs rs
theorem RefShow.on {w w' : World} {A : Option Addr} {n : Nat} {rs : List (Int × List Nat)} (h : RefShow w w.heap.size A n rs) (hb : Below w.heap.size w w') : RefShow w' w'.heap.size A n rs := by
  obtain ⟨vs, h1, h2⟩ := h
  exact ⟨vs, h1.on hb, h2.mono fun v p hv => (hv.below hb).more hb.size⟩
theorem RefShow.len {w : World} {B : Nat} {A : Option Addr} {n : Nat} {rs : List (Int × List Nat)} (h : RefShow w B A n rs) : rs.length = n := by
  obtain ⟨vs, h1, h2⟩ := h
  rw [← h2.len, h1.1]
theorem RefShow.nil (w : World) (B : Nat) (A : Option Addr) : RefShow w B A 0 [] := ⟨[], Cel2.nil _ _ _, .nil⟩
/-- One of them. -/
theorem RefShow.at_ {w : World} {B : Nat} {A : Option Addr} {n : Nat} {rs : List (Int × List Nat)} (h : RefShow w B A n rs) {i : Nat} (hi : i < rs.length) : ∃ b o A2 c2, A = some ⟨b, o, none⟩ ∧ b < B ∧ w.cell? ⟨b, o + i * 2, none⟩ = some (.int .u32 rs[i].1) ∧ w.cell? ⟨b, o + i * 2 + 1, none⟩ = some (.slice A2 rs[i].2.length c2) ∧ Cel w B A2 rs[i].2.length (ints rs[i].2) ∧ rs[i].2.length ≤ c2 ∧ c2 ≤ 9223372036854775807 := by
  obtain ⟨vs, h1, h2⟩ := h
  have hl := h2.len
  obtain ⟨b, o, e, hb, hc⟩ := h1.2 (by rw [← h1.1]; omega)
  have hv : i < vs.length := by omega
  obtain ⟨d1, d2⟩ := hc i hv
  obtain ⟨e1, A2, c2, e2, h3, h4, h5⟩ := h2.get i hv hi
  exact ⟨b, o, A2, c2, e, hb, by rw [d1, e1], by rw [d2, e2], h3, h4, h5⟩

theorem nodeAt_heft : ∀ (p : List Nat) {n x : Nd}, nodeAt n p = some x → heftN x ≤ heftN n
  | [], n, x, h => by rw [nodeAt] at h; rw [Option.some.inj h]; exact Nat.le_refl _
  | i :: p, n, x, h => by
    obtain ⟨hi, e⟩ := nodeAt_some h
    have h1 := nodeAt_heft p e
    have h2 := heftL_next n.kids i hi
    have h3 := heftL_take n.kids (i + 1)
    have h4 : heftN n = 16 + n.name.size + (n.props.map heftP).sum + heftL n.kids := by cases n; rw [heftN]; rfl
    omega
theorem oneV_range {w : World} {B : Nat} {n : Nd} (hin : n.In w B) (s : ByteArray) : 0 ≤ (oneV n s).1 ∧ (oneV n s).1 ≤ 4294967295 := by
  unfold oneV
  split
  · exact ⟨by decide, by decide⟩
  · rename_i p hp
    split
    · exact numTo_u32 (hin.prop (List.mem_of_find?_eq_some hp)).2.1 0
    · exact ⟨by decide, by decide⟩


theorem refsFrom_range {w : World} {B : Nat} {root : Nd} (hin : root.In w B) : ∀ (l : List (List Nat)) (acc : List (Int × List Nat)), (∀ x ∈ acc, 0 ≤ x.1 ∧ x.1 ≤ 4294967295) → ∀ x ∈ (refsFrom root acc l).1, 0 ≤ x.1 ∧ x.1 ≤ 4294967295
  | [], acc, h => h
  | p :: r, acc, h => by
    rw [refsFrom]
    by_cases h1 : (refStep root acc p).2 = 0
    · rw [if_pos h1]
      refine refsFrom_range hin r _ ?_
      unfold refStep at h1 ⊢
      split at h1
      · exact h
      · rename_i n hn
        have hr := oneV_range (nodeAt_in p hin hn) phName
        by_cases g1 : (oneV n phName).2.2 ≠ 0
        · rw [if_pos g1] at h1; exact absurd h1 g1
        rw [if_neg g1] at h1 ⊢
        by_cases g2 : (oneV n phName).2.1 = false
        · rw [if_pos g2]; exact h
        rw [if_neg g2] at h1 ⊢
        by_cases g3 : (oneV n phName).1 = 0 ∨ (oneV n phName).1 = 4294967295
        · rw [if_pos g3] at h1; exact absurd h1 (by decide)
        rw [if_neg g3] at h1 ⊢
        by_cases g4 : acc.any (fun x => decide (x.1 = (oneV n phName).1)) = true
        · rw [if_pos g4] at h1; exact absurd h1 (by decide)
        rw [if_neg g4]
        intro x hx
        rcases List.mem_append.1 hx with hx | hx
        · exact h x hx
        · rw [List.mem_singleton.1 hx]; exact hr
    · rw [if_neg h1]; intro x hx; cases hx
theorem refsOf_range {w : World} {B : Nat} {root : Nd} (hin : root.In w B) : ∀ x ∈ (refsOf root).1, 0 ≤ x.1 ∧ x.1 ≤ 4294967295 := refsFrom_range hin _ _ (fun x hx => by cases hx)

end Go.Proofs.YtmgokplpkmndoaaGreat
