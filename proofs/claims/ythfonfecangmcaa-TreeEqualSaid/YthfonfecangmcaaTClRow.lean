/-
  Layer 3: slices.Clone of a row of structs: the same cells in a new row.
-/
import Derived.Test.YthfonfecangmcaaTClone
import Derived.Test.YthfonfecangmcaaTRes
import Derived.Laws.OwnMore
namespace Go.Proofs.Ythfonfecangmcaa
open Go.RowKit
set_option linter.unusedVariables false
set_option linter.unusedSimpArgs false

/-- A slice value of n elements leads to these cells (none is asked of an empty one), in a block from lo on, none of them frozen. -/
def Fresh (w : World) (lo : Nat) (A : Option Addr) (n : Nat) (cells : List Value) : Prop :=
  0 < n → ∃ g, A = some ⟨g, 0, none⟩ ∧ lo ≤ g ∧ g < w.heap.size ∧ (∀ i (h : i < cells.length), w.cell? ⟨g, i, none⟩ = some cells[i]) ∧ ∀ i, w.frozen? ⟨g, i, none⟩ = false

theorem Fresh.keep {w w' : World} {lo n : Nat} {A : Option Addr} {cells : List Value} (h : Fresh w lo A n cells) (hb : Below w.heap.size w w') : Fresh w' lo A n cells := fun h0 => by
  obtain ⟨g, e, h1, h2, h3, h4⟩ := h h0
  exact ⟨g, e, h1, Nat.lt_of_lt_of_le h2 hb.size, fun i hi => (hb.cell (p := ⟨g, i, none⟩) h2).trans (h3 i hi), fun i => (hb.frozen (p := ⟨g, i, none⟩) h2).trans (h4 i)⟩
theorem Fresh.low {w : World} {lo lo' n : Nat} {A : Option Addr} {cells : List Value} (h : Fresh w lo A n cells) (hl : lo' ≤ lo) : Fresh w lo' A n cells := fun h0 => by
  obtain ⟨g, e, h1, h2⟩ := h h0
  exact ⟨g, e, Nat.le_trans hl h1, h2⟩

theorem fresh_of_owned {w : World} {lo n sz : Nat} {e : TypeId} {v : Value} {cells : List Value} (h : w.ownsRow lo e sz v n cells) (hl : cells.length = n * sz) : ∃ A c, v = .slice A n c ∧ n ≤ c ∧ c ≤ 9223372036854775807 ∧ Fresh w lo A n cells := by
  have hf := h
  obtain ⟨_, ⟨rfl, rfl⟩ | ⟨g, cap, cur, rfl, hb, hg, hnc, hcm, hsz, htk⟩⟩ := h
  · exact ⟨none, 0, rfl, Nat.le_refl _, by omega, fun h0 => absurd h0 (Nat.lt_irrefl 0)⟩
  · refine ⟨_, cap, rfl, hnc, hcm, fun h0 => ⟨g, rfl, hb, (Array.getElem?_eq_some_iff.1 hg).1, fun i hi => ?_, fun i => ?_⟩⟩
    · have h1 : cells[i]? = cur[i]? := by
        rw [← htk, List.getElem?_take_of_lt (by omega), Array.getElem?_toList]
      have h2 : w.cell? ⟨g, i, none⟩ = cur[i]? := by simp [World.cell?, hg]
      rw [h2, ← h1, List.getElem?_eq_getElem hi]
    · simp [World.frozen?, hg]

/-- 'append' onto an empty row of the call's own: the cells of a row that came in. -/
theorem clone_run (w : World) (t e : TypeId) (sz bytes : Nat) (i0 : TypeInfo) (z : Value) (ht : Try.prog.underlying t = some (.slice e)) (hi0 : Try.prog.info? e = some i0) (hz0 : i0.zero = some z) (hz1 : i0.size = sz) (hz2 : i0.bytes = bytes) (hzc : z.cells.size = sz) (hs0 : 0 < sz)
    (ad : Addr) (n c : Nat) (news : List Value) (hl : news.length = n * sz) (hc : ∀ (j : Nat) (u : Value), news[j]? = some u → w.cell? (ad.add j) = some u) (ho : ∀ u ∈ news, u.oneCell' = true) (hb : n * bytes ≤ 140737488351232) (hn : n ≤ 140737488351232) :
    ∃ v' w', (Builtin.append_ #[t, t] t #[.slice (some ⟨w.heap.size, 0, none⟩) 0 0, .slice (some ad) n c]).run Try.prog (w.alloc (.cells #[] e)) = .ok v' w' ∧ w'.ownsRow w.heap.size e sz v' n news ∧ Below w.heap.size w w' := by
  have h0 : (w.alloc (.cells #[] e)).ownsRow w.heap.size e sz (.slice (some ⟨w.heap.size, 0, none⟩) 0 0) 0 [] := World.ownsRow_made w #[] 0 (Nat.le_refl _) (Nat.zero_le _) (by simp)
  have hcell : ∀ (j : Nat) (u : Value), news[j]? = some u → (w.alloc (.cells #[] e)).cell? (ad.add j) = some u := fun j u hu => Lib.cell?_alloc_some _ (hc j u hu)
  obtain ⟨v', w', h1, h2, h3, h4⟩ := run_append_own_at (P := Try.prog) (w.alloc (.cells #[] e)) w.heap.size t t e i0 z sz bytes ht hi0 hz0 hz1 hz2 hzc hs0 _ 0 [] h0 ad n c news hl hcell ho (by unfold maxLen; omega) (by rw [Nat.zero_add]; omega) (by simp)
  refine ⟨v', w', h1, by simpa using h2, ((Below.refl w.heap.size w).alloc (Nat.le_refl _) _).grown h3 (by simp) ?_⟩
  intro k hk
  simp [Value.ownBlock] at hk
  omega
end Go.Proofs.Ythfonfecangmcaa
