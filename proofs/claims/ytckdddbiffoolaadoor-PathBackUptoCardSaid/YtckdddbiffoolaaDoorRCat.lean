/-
  Places put together: slices.Grow and slices.Concat at lists of numbers.
-/
import Derived.Test.YtckdddbiffoolaaDoorQRow
import Derived.Lib.AppendZerosOnto
import Derived.Great.BuildSlice
import Derived.Lib.SlFresh
namespace Go.Proofs.YtckdddbiffoolaaDoor
open Go.RowKit
set_option linter.unusedVariables false
set_option linter.unusedSimpArgs false

set_option maxHeartbeats 400000 in
theorem growI_nil (n : Nat) (w : World) (hn : n ≤ 1073741824) :
    Calls Tryd.prog 35 #[.slice none 0 0, .int .i64 n] w fun e w' => ∃ v, e = .returned v ∧ w'.ownsRow w.heap.size 3 1 v 0 [] ∧ Below w.heap.size w w' := by
  obtain ⟨i0, hi0, hz0, hz1, hz2⟩ := info_any info_int
  rcases Nat.eq_zero_or_pos n with rfl | h0
  · go_enter Tryd.func35, Tryd.ntmps35
    go_wp2
    go_ret
    exact ⟨_, rfl, World.ownsRow_nil _ _ _ _, Below.refl _ _⟩
  · have h1 : ¬ ((n : Int) < 0) := by omega
    have h2 : ((n : Int) > 0) := by omega
    have hrz : ∀ ty, (Builtin.append_ #[38, 3] ty #[.slice none 0 0, .int .i64 (n : Int)]).run Tryd.prog w = .ok (.slice (some ⟨w.heap.size, 0, none⟩) n (grownCap w n 0 3)) (w.drew.alloc (.cells (Builtin.zeroCells (Value.int .i64 0).cells n ++ Builtin.zeroCells (Value.int .i64 0).cells (grownCap w n 0 3 - n)) 3)) := fun ty => by
      have h := Lib.run_append_grow_zeros (P := Tryd.prog) w 38 3 ty 3 i0 (.int .i64 0) .i64 .i64 Tryd.underlying38 Tryd.underlying3 hi0 hz0 none 0 0 [] (run_firstCells_none w.drew i0.size 0 0 0) n h0 (by omega) (by omega) (by omega) (by rw [hz2]; omega) (by rw [hz2]; exact growslice_fits (by omega) (by omega))
      simpa using h
    have hG : n ≤ grownCap w n 0 3 := grownCap_ge w _ _ _
    have hG2 := grownCap_le_maxLen w n 0 3 (by unfold maxLen; omega)
    generalize hGe : grownCap w n 0 3 = G at hrz hG hG2
    clear hGe hi0 hz0 hz1 hz2
    have hG3 : G ≤ 9223372036854775807 := by unfold maxLen at hG2; omega
    go_enter Tryd.func35, Tryd.ntmps35
    go_wp2_with (at_builtin; refine Lib.wpList_append_run _ rfl _ _ _ _ rfl _ _ rfl rfl _ _ (hrz _) ?_)
    go_ret
    refine ⟨_, rfl, World.ownsRow_made _ _ _ (by simp) hG2 ?_, ?_⟩
    · simp [Builtin.zeroCells]; omega
    · exact (Below.refl _ _).drew.alloc (by simp) _

/-- One of the slices that are put together: its address, length, capacity, and numbers. -/
abbrev PieceI := Option Addr × Nat × Nat × List Nat
def sumLenI : List PieceI → Nat
  | [] => 0
  | p :: r => p.2.1 + sumLenI r
def joinedI : List PieceI → List Nat
  | [] => []
  | p :: r => p.2.2.2 ++ joinedI r
theorem sumLenI_append (a b : List PieceI) : sumLenI (a ++ b) = sumLenI a + sumLenI b := by
  induction a with
  | nil => simp [sumLenI]
  | cons p r ih => simp only [List.cons_append, sumLenI, ih]; omega
theorem joinedI_append (a b : List PieceI) : joinedI (a ++ b) = joinedI a ++ joinedI b := by
  induction a with
  | nil => simp [joinedI]
  | cons p r ih => simp only [List.cons_append, joinedI, ih, List.append_assoc]
theorem take_one_moreI {α : Type} (l : List α) (j : Nat) (p : α) (h : l[j]? = some p) : l.take (j + 1) = l.take j ++ [p] := by
  rw [List.take_add_one, h]; rfl
theorem sumLenI_next (l : List PieceI) (j : Nat) (p : PieceI) (h : l[j]? = some p) : sumLenI (l.take (j + 1)) = sumLenI (l.take j) + p.2.1 := by
  rw [take_one_moreI l j p h, sumLenI_append]; simp [sumLenI]
theorem joinedI_next (l : List PieceI) (j : Nat) (p : PieceI) (h : l[j]? = some p) : joinedI (l.take (j + 1)) = joinedI (l.take j) ++ p.2.2.2 := by
  rw [take_one_moreI l j p h, joinedI_append]; simp [joinedI]
theorem sumLenI_take (l : List PieceI) (j : Nat) : sumLenI (l.take j) ≤ sumLenI l := by
  conv => rhs; rw [← List.take_append_drop j l, sumLenI_append]
  omega
theorem joinedI_length : ∀ (l : List PieceI), (∀ p ∈ l, p.2.2.2.length = p.2.1) → (joinedI l).length = sumLenI l
  | [], _ => rfl
  | p :: r, h => by rw [joinedI, sumLenI, List.length_append, h p (by simp), joinedI_length r (fun q hq => h q (by simp [hq]))]

set_option maxHeartbeats 400000 in
theorem concatI_any (g m cap : Nat) (ps : List PieceI) (w : World) (hl : ps.length = m) (hm : m ≤ 100) (hmc : m ≤ cap) (hcap : cap ≤ 100) (hcell : ∀ i p, ps[i]? = some p → w.cell? ⟨g, i, none⟩ = some (.slice p.1 p.2.1 p.2.2.1))
    (hg : g < w.heap.size) (hs : ∀ p ∈ ps, Cel w w.heap.size p.1 p.2.1 (ints p.2.2.2)) (htot : sumLenI ps ≤ 1073741824) :
    Calls Tryd.prog 24 #[.slice (some ⟨g, 0, none⟩) m cap] w fun e w' => ∃ v, e = .returned v ∧ w'.ownsRow w.heap.size 3 1 v (sumLenI ps) (ints (joinedI ps)) ∧ Below w.heap.size w w' := by
  have HC := Lib.hid hcell
  have HL := Lib.hid hl
  have HS := Lib.hid hs
  have HQ : Hid (∀ k, (joinedI (ps.take k)).length = sumLenI (ps.take k)) := Lib.hid fun k => joinedI_length _ fun p hp => by
    have := (hs p (List.mem_of_mem_take hp)).1
    rwa [List.length_map] at this
  clear hcell hl hs
  go_enter Tryd.func24, Tryd.ntmps24
  go_wp2
  go_loop [3, 11] (fun s i => ∃ j : Nat, j ≤ m ∧ i = .int .i64 j ∧ s = .int .i64 (sumLenI (ps.take j))) (fun _ i => m - (intOf i).toNat)
  case atStart => exact ⟨0, by omega, rfl, rfl⟩
  case round =>
    obtain ⟨j, hj, rfl, rfl⟩ := hrel
    by_cases hlt : j < m
    · obtain ⟨p, hp⟩ : ∃ p, ps[j]? = some p := ⟨_, List.getElem?_eq_getElem (by rw [HL.out]; exact hlt)⟩
      have hc := HC.out j p hp
      have h1 := sumLenI_take ps j
      have h2 := sumLenI_take ps (j + 1)
      have HN := Lib.hid (sumLenI_next ps j p hp)
      rw [HN.out] at h2
      clear hp
      go_wp2
      go_round
      case rel => exact ⟨j + 1, by omega, by go_num, by rw [HN.out]; go_num⟩
      case measure => simp [intOf]; omega
    · obtain rfl : j = m := by omega
      have HT : Hid (ps.take j = ps) := List.take_of_length_le (by rw [HL.out]; exact Nat.le_refl _)
      rw [HT.out]
      go_wp2_with (go_at_call 35; refine (growI_nil (sumLenI ps) _ (by omega)).mono ?_; rintro e w1 ⟨v1, rfl, hown1, hb1⟩)
      go_loopw [6, 27] (fun v i wr => ∃ k : Nat, k ≤ j ∧ i = .int .i64 k ∧ wr.ownsRow w.heap.size 3 1 v (sumLenI (ps.take k)) (ints (joinedI (ps.take k))) ∧ Below w.heap.size w wr) (fun _ i _ => j - (intOf i).toNat)
      case atStart => exact ⟨0, by omega, rfl, hown1, hb1⟩
      case round =>
        obtain ⟨k, hk, rfl, hown, hbel⟩ := hrel
        by_cases hlt : k < j
        · obtain ⟨p, hp⟩ : ∃ p, ps[k]? = some p := ⟨_, List.getElem?_eq_getElem (by rw [HL.out]; exact hlt)⟩
          have hc : wr.cell? ⟨g, k, none⟩ = some (.slice p.1 p.2.1 p.2.2.1) := (hbel.cell (p := ⟨g, k, none⟩) hg).trans (HC.out k p hp)
          have h2 := sumLenI_take ps (k + 1)
          have HN := Lib.hid (sumLenI_next ps k p hp)
          have HJ := Lib.hid (joinedI_next ps k p hp)
          rw [HN.out] at h2
          have hsh := (HS.out p (List.mem_of_getElem? hp)).below hbel
          have hown' : wr.ownsRow w.heap.size 3 1 u6 (joinedI (ps.take k)).length (ints (joinedI (ps.take k))) := by rw [HQ.out]; exact hown
          have hpl : p.2.2.2.length = p.2.1 := by have := hsh.1; rwa [List.length_map] at this
          obtain ⟨v', w', hrun, hgrew⟩ := app_ints p.2.2.1 hown' hsh (by rw [HQ.out, hpl]; omega) hbel.size 38
          have hbel' := hbel.grown hgrew.2.1 hbel.size (fun q hq => (hown.lt q hq).1)
          have hown2 := hgrew.1
          rw [List.length_map, ← HJ.out, HQ.out] at hown2
          have HO := Lib.hid hown2
          have HB := Lib.hid hbel'
          clear hp hsh hgrew hown hown' hown2 hbel hbel' hpl
          go_wp2_with (at_builtin; refine Lib.wpList_append_run_sl _ rfl _ _ _ rfl _ _ rfl rfl hrun ?_)
          go_roundw
          case rel => exact ⟨k + 1, by omega, by go_num, HO.out, HB.out⟩
          case measure => simp [intOf]; omega
        · obtain rfl : k = j := by omega
          rw [HT.out] at hown
          have HO := Lib.hid hown
          have HB := Lib.hid hbel
          clear hown hbel
          go_wp2
          go_ret
          exact ⟨_, rfl, HO.out, HB.out⟩
end Go.Proofs.YtckdddbiffoolaaDoor
