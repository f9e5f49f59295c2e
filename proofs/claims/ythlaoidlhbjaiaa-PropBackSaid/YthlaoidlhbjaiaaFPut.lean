/-
  Layers 1, 5: bytes put together: slices.Concat, words.Put, words.Put64, of any bytes that a blob may have.
-/
import Derived.Test.YthlaoidlhbjaiaaDRow
import Derived.Lib.AppendZerosOnto
namespace Go.Proofs.Ythlaoidlhbjaiaa
open Go.RowKit
set_option linter.unusedVariables false
set_option linter.unusedSimpArgs false

set_option maxHeartbeats 400000 in
theorem cell_any (v : Int) (w : World) (h0 : 0 ≤ v) (h1 : v ≤ 4294967295) :
    Calls Try.prog 38 #[.int .u32 v] w fun e w' => e = .returned (.slice (some ⟨w.heap.size, 0, none⟩) 4 4) ∧ w' = w.alloc (.cells #[.int .u8 (v / 16777216), .int .u8 (v / 65536 % 256), .int .u8 (v / 256 % 256), .int .u8 (v % 256)] 5) := by
  go_enter Try.func38, Try.ntmps38
  go_wp2
  go_ret
  exact ⟨rfl, rfl⟩

set_option maxHeartbeats 400000 in
theorem grow_nil (n : Nat) (w : World) (hn : n ≤ 1073741824) :
    Calls Try.prog 47 #[.slice none 0 0, .int .i64 n] w fun e w' => ∃ v, e = .returned v ∧ w'.ownsRow w.heap.size 5 1 v 0 [] ∧ Below w.heap.size w w' := by
  obtain ⟨i0, hi0, hz0, hz1, hz2⟩ := info_parts info_u8
  rcases Nat.eq_zero_or_pos n with rfl | h0
  · go_enter Try.func47, Try.ntmps47
    go_wp2
    go_ret
    exact ⟨_, rfl, World.ownsRow_nil _ _ _ _, Below.refl _ _⟩
  · have h1 : ¬ ((n : Int) < 0) := by omega
    have h2 : ((n : Int) > 0) := by omega
    have hrz : ∀ ty, (Builtin.append_ #[22, 3] ty #[.slice none 0 0, .int .i64 (n : Int)]).run Try.prog w = .ok (.slice (some ⟨w.heap.size, 0, none⟩) n (grownCap w n 0 5)) (w.drew.alloc (.cells (Builtin.zeroCells (Value.int .u8 0).cells n ++ Builtin.zeroCells (Value.int .u8 0).cells (grownCap w n 0 5 - n)) 5)) := fun ty => by
      have h := Lib.run_append_grow_zeros (P := Try.prog) w 22 3 ty 5 i0 (.int .u8 0) .i64 .i64 Try.underlying22 Try.underlying3 hi0 hz0 none 0 0 [] (run_firstCells_none w.drew i0.size 0 0 0) n h0 (by omega) (by omega) (by omega) (by rw [hz2]; omega) (by rw [hz2]; exact growslice_fits (by omega) (by omega))
      simpa using h
    have hG : n ≤ grownCap w n 0 5 := grownCap_ge w _ _ _
    have hG2 := grownCap_le_maxLen w n 0 5 (by unfold maxLen; omega)
    generalize hGe : grownCap w n 0 5 = G at hrz hG hG2
    clear hGe hi0 hz0 hz1 hz2
    have hG3 : G ≤ 9223372036854775807 := by unfold maxLen at hG2; omega
    go_enter Try.func47, Try.ntmps47
    go_wp2_with (at_builtin; refine Lib.wpList_append_run _ rfl _ _ _ _ rfl _ _ rfl rfl _ _ (hrz _) ?_)
    go_ret
    refine ⟨_, rfl, World.ownsRow_made _ _ _ (by simp) hG2 ?_, ?_⟩
    · simp [Builtin.zeroCells]; omega
    · exact (Below.refl _ _).drew.alloc (by simp) _


/-- One of the slices that are put together: its address, length, capacity, and bytes. -/
abbrev Piece := Option Addr × Nat × Nat × List Int
def sumLen : List Piece → Nat
  | [] => 0
  | p :: r => p.2.1 + sumLen r
def joined : List Piece → List Int
  | [] => []
  | p :: r => p.2.2.2 ++ joined r
theorem sumLen_append (a b : List Piece) : sumLen (a ++ b) = sumLen a + sumLen b := by
  induction a with
  | nil => simp [sumLen]
  | cons p r ih => simp only [List.cons_append, sumLen, ih]; omega
theorem joined_append (a b : List Piece) : joined (a ++ b) = joined a ++ joined b := by
  induction a with
  | nil => simp [joined]
  | cons p r ih => simp only [List.cons_append, joined, ih, List.append_assoc]
theorem take_one_more {α : Type} (l : List α) (j : Nat) (p : α) (h : l[j]? = some p) : l.take (j + 1) = l.take j ++ [p] := by
  rw [List.take_add_one, h]; rfl
theorem sumLen_next (l : List Piece) (j : Nat) (p : Piece) (h : l[j]? = some p) : sumLen (l.take (j + 1)) = sumLen (l.take j) + p.2.1 := by
  rw [take_one_more l j p h, sumLen_append]; simp [sumLen]
theorem joined_next (l : List Piece) (j : Nat) (p : Piece) (h : l[j]? = some p) : joined (l.take (j + 1)) = joined (l.take j) ++ p.2.2.2 := by
  rw [take_one_more l j p h, joined_append]; simp [joined]
theorem sumLen_take (l : List Piece) (j : Nat) : sumLen (l.take j) ≤ sumLen l := by
  conv => rhs; rw [← List.take_append_drop j l, sumLen_append]
  omega

set_option maxHeartbeats 400000 in
theorem concat_any (g m cap : Nat) (ps : List Piece) (w : World) (hl : ps.length = m) (hm : m ≤ 100) (hmc : m ≤ cap) (hcap : cap ≤ 100) (hcell : ∀ i p, ps[i]? = some p → w.cell? ⟨g, i, none⟩ = some (.slice p.1 p.2.1 p.2.2.1))
    (hg : g < w.heap.size) (hs : ∀ p ∈ ps, Shows w w.heap.size p.1 p.2.1 p.2.2.2) (htot : sumLen ps ≤ 1073741824) :
    Calls Try.prog 37 #[.slice (some ⟨g, 0, none⟩) m cap] w fun e w' => ∃ v, e = .returned v ∧ w'.ownsRow w.heap.size 5 1 v (sumLen ps) (u8s (joined ps)) ∧ Below w.heap.size w w' := by
  obtain ⟨i0, hi0, hz0, hz1, hz2⟩ := info_parts info_u8
  have HC := Lib.hid hcell
  have HL := Lib.hid hl
  have HS := Lib.hid hs
  have HI : Hid (Try.prog.info? 5 = some i0 ∧ i0.zero = some (.int .u8 0) ∧ i0.size = 1 ∧ i0.bytes = 1) := ⟨hi0, hz0, hz1, hz2⟩
  clear hcell hl hs hi0 hz0 hz1 hz2
  go_enter Try.func37, Try.ntmps37
  go_wp2
  go_loop [3, 11] (fun s i => ∃ j : Nat, j ≤ m ∧ i = .int .i64 j ∧ s = .int .i64 (sumLen (ps.take j))) (fun _ i => m - (intOf i).toNat)
  case atStart => exact ⟨0, by omega, rfl, rfl⟩
  case round =>
    obtain ⟨j, hj, rfl, rfl⟩ := hrel
    by_cases hlt : j < m
    · obtain ⟨p, hp⟩ : ∃ p, ps[j]? = some p := ⟨_, List.getElem?_eq_getElem (by rw [HL.out]; exact hlt)⟩
      have hc := HC.out j p hp
      have h1 := sumLen_take ps j
      have h2 := sumLen_take ps (j + 1)
      have HN := Lib.hid (sumLen_next ps j p hp)
      rw [HN.out] at h2
      clear hp
      go_wp2
      go_round
      case rel => exact ⟨j + 1, by omega, by go_num, by rw [HN.out]; go_num⟩
      case measure => simp [intOf]; omega
    · obtain rfl : j = m := by omega
      have HT : Hid (ps.take j = ps) := List.take_of_length_le (by rw [HL.out]; exact Nat.le_refl _)
      rw [HT.out]
      go_wp2_with (go_at_call 47; refine (grow_nil (sumLen ps) _ (by omega)).mono ?_; rintro e w1 ⟨v1, rfl, hown1, hb1⟩)
      go_loopw [6, 27] (fun v i wr => ∃ k : Nat, k ≤ j ∧ i = .int .i64 k ∧ wr.ownsRow w.heap.size 5 1 v (sumLen (ps.take k)) (u8s (joined (ps.take k))) ∧ Below w.heap.size w wr) (fun _ i _ => j - (intOf i).toNat)
      case atStart => exact ⟨0, by omega, rfl, hown1, hb1⟩
      case round =>
        obtain ⟨k, hk, rfl, hown, hbel⟩ := hrel
        by_cases hlt : k < j
        · obtain ⟨p, hp⟩ : ∃ p, ps[k]? = some p := ⟨_, List.getElem?_eq_getElem (by rw [HL.out]; exact hlt)⟩
          have hc : wr.cell? ⟨g, k, none⟩ = some (.slice p.1 p.2.1 p.2.2.1) := (hbel.cell (p := ⟨g, k, none⟩) hg).trans (HC.out k p hp)
          have h2 := sumLen_take ps (k + 1)
          have HN := Lib.hid (sumLen_next ps k p hp)
          have HJ := Lib.hid (joined_next ps k p hp)
          rw [HN.out] at h2
          have hsh := (HS.out p (List.mem_of_getElem? hp)).below hbel
          obtain ⟨i1, i2, i3, i4⟩ := HI.out
          obtain ⟨v', w', hrun, hown', hgr⟩ := run_append_shown wr i0 i1 i2 i3 i4 w.heap.size u6 _ _ hown w.heap.size p.1 p.2.1 p.2.2.1 p.2.2.2 hsh (by omega) hbel.size 22
          have hbel' := hbel.grown hgr.1 hbel.size (fun q hq => (hown.lt q hq).1)
          have HO := Lib.hid hown'
          have HB := Lib.hid hbel'
          clear hp i1 i2 i3 i4 hsh hgr hown hown' hbel hbel'
          go_wp2_with (at_builtin; refine Lib.wpList_append_run_sl _ rfl _ _ _ rfl _ _ rfl rfl hrun ?_)
          go_roundw
          case rel => exact ⟨k + 1, by omega, by go_num, by rw [HN.out, HJ.out, u8s, List.map_append]; exact HO.out, HB.out⟩
          case measure => simp [intOf]; omega
        · obtain rfl : k = j := by omega
          rw [HT.out] at hown
          have HO := Lib.hid hown
          have HB := Lib.hid hbel
          clear hown hbel
          go_wp2
          go_ret
          exact ⟨_, rfl, HO.out, HB.out⟩

theorem shows_new (w : World) (zs : List Int) (n : Nat) (cs : Array Value) (hn : zs.length = n) (hz : ∀ z ∈ zs, 0 ≤ z ∧ z < 256) (hcs : cs = (u8s zs).toArray) (t : TypeId) :
    Shows (w.alloc (.cells cs t)) (w.heap.size + 1) (some ⟨w.heap.size, 0, none⟩) n zs := by
  subst hcs
  refine ⟨hn, hz, fun h0 => ⟨w.heap.size, 0, rfl, by omega, fun i hi => ?_⟩⟩
  rw [Nat.zero_add, cell_of_row (w.alloc (.cells (u8s zs).toArray t)) w.heap.size i _ t (0, 0) (heap_alloc_new w _)]
  have hi' : i < zs.length := by omega
  simp [List.getD, List.getElem?_eq_getElem hi']

theorem four_shows (w : World) (v : Int) (h0 : 0 ≤ v) (h1 : v ≤ 4294967295) :
    Shows (w.alloc (.cells #[.int .u8 (v / 16777216), .int .u8 (v / 65536 % 256), .int .u8 (v / 256 % 256), .int .u8 (v % 256)] 5)) (w.heap.size + 1) (some ⟨w.heap.size, 0, none⟩) 4 (four v) :=
  shows_new w (four v) 4 _ rfl (fun z hz => by simp only [four, List.mem_cons, List.not_mem_nil, or_false] at hz; omega) rfl _

theorem own_shows {w : World} {base n : Nat} {t : TypeId} {v : Value} {zs : List Int} (h : w.ownsRow base t 1 v n (u8s zs)) (hz : ∀ z ∈ zs, 0 ≤ z ∧ z < 256) :
    ∃ A c, v = .slice A n c ∧ Shows w w.heap.size A n zs ∧ n ≤ c ∧ c ≤ maxLen := by
  have hl : zs.length = n := by simpa using h.1
  rcases h.2 with ⟨rfl, rfl⟩ | ⟨g, cap, cur, rfl, _, hh, hnc, hcm, _, ht⟩
  · exact ⟨_, _, rfl, ⟨hl, hz, fun h0 => absurd h0 (by omega)⟩, Nat.le_refl _, by unfold maxLen; omega⟩
  · refine ⟨_, _, rfl, ⟨hl, hz, fun h0 => ⟨g, 0, rfl, ?_, fun i hi => ?_⟩⟩, hnc, hcm⟩
    · exact (Array.getElem?_eq_some_iff.1 hh).1
    · rw [Nat.zero_add, cell_of_row w g i cur t (0, 0) hh]
      have hi' : i < zs.length := by omega
      have e : (cur.toList.take (n * 1))[i]? = (u8s zs)[i]? := by rw [ht]
      rw [List.getElem?_take_of_lt (by omega), List.getElem?_map, List.getElem?_eq_getElem hi'] at e
      rw [← Array.getElem?_toList, e]
      simp [List.getD, List.getElem?_eq_getElem hi']
theorem joined_bytes : ∀ (ps : List Piece), (∀ p ∈ ps, ∀ z ∈ p.2.2.2, 0 ≤ z ∧ z < 256) → ∀ z ∈ joined ps, 0 ≤ z ∧ z < 256
  | [], _, z, hz => by simp [joined] at hz
  | p :: r, h, z, hz => by
    rcases List.mem_append.1 hz with h1 | h1
    · exact h p (by simp) z h1
    · exact joined_bytes r (fun q hq => h q (by simp [hq])) z h1

/-- The slices lie in one new row: what slices.Concat gives. -/
theorem concat_new (w : World) (g : Nat) (hg : g = w.heap.size) (ps : List Piece) (m : Nat) (cs : Array Value) (t : TypeId) (hl : ps.length = m) (hm : m ≤ 100) (hcs : cs = (ps.map fun p => Value.slice p.1 p.2.1 p.2.2.1).toArray)
    (hs : ∀ p ∈ ps, Shows w w.heap.size p.1 p.2.1 p.2.2.2) (htot : sumLen ps ≤ 1073741824) :
    Calls Try.prog 37 #[.slice (some ⟨g, 0, none⟩) m m] (w.alloc (.cells cs t)) fun e w' => ∃ A c, e = .returned (.slice A (sumLen ps) c) ∧ Shows w' w'.heap.size A (sumLen ps) (joined ps) ∧ sumLen ps ≤ c ∧ c ≤ maxLen ∧ Below w.heap.size w w' := by
  subst hcs hg
  refine (concat_any w.heap.size m m ps _ hl hm (Nat.le_refl _) hm ?_ (by simp) ?_ htot).mono ?_
  · intro i p hp
    rw [cell_of_row _ w.heap.size i _ t (0, 0) (heap_alloc_new w _)]
    simp [List.getElem?_map, hp]
  · intro p hp
    exact ((hs p hp).below ((Below.refl _ _).alloc (Nat.le_refl _) _)).more (by simp)
  · rintro e w' ⟨v, rfl, h1, h2⟩
    obtain ⟨A, c, rfl, h3, h4, h5⟩ := own_shows h1 (joined_bytes ps fun p hp => (hs p hp).2.1)
    exact ⟨A, c, rfl, h3, h4, h5, ((Below.refl _ w).alloc (Nat.le_refl _) _).trans (h2.mono (by simp))⟩

set_option maxHeartbeats 400000 in
theorem put_any (A : Option Addr) (n c : Nat) (zs : List Int) (v : Int) (w : World) (hs : Shows w w.heap.size A n zs) (hn : n ≤ 536870912) (h0 : 0 ≤ v) (h1 : v ≤ 4294967295) :
    Calls Try.prog 26 #[.slice A n c, .int .u32 v] w fun e w' => ∃ A' c', e = .returned (.slice A' (n + 4) c') ∧ Shows w' w'.heap.size A' (n + 4) (zs ++ four v) ∧ n + 4 ≤ c' ∧ c' ≤ maxLen ∧ Below w.heap.size w w' := by
  have hb1 : ∀ o, Below w.heap.size w (w.alloc o) := fun o => (Below.refl _ w).alloc (Nat.le_refl _) o
  have H := concat_new (w.alloc (.cells #[.int .u8 (v / 16777216), .int .u8 (v / 65536 % 256), .int .u8 (v / 256 % 256), .int .u8 (v % 256)] 5)) (w.heap.size + 1) (by simp) [(A, n, c, zs), (some ⟨w.heap.size, 0, none⟩, 4, 4, four v)] 2
    #[Value.slice A n c, Value.slice (some ⟨w.heap.size, 0, none⟩) 4 4] 22 rfl (by omega) rfl
    (fun p hp => by
      simp only [List.mem_cons, List.not_mem_nil, or_false] at hp
      rcases hp with rfl | rfl
      · exact (hs.below (hb1 _)).more (by simp)
      · exact (four_shows w v h0 h1).more (by simp))
    (by simp [sumLen]; omega)
  have HK := Lib.hid H
  clear hs H
  have HB := Lib.hid hb1
  clear hb1
  go_enter Try.func26, Try.ntmps26
  go_wp2_with (go_at_call 38; refine (cell_any v _ h0 h1).mono ?_; rintro e w' ⟨rfl, rfl⟩)
  refine HK.out.mono ?_
  rintro e w' ⟨A', c', rfl, hown, hc1, hc2, hbel⟩
  have HO := Lib.hid (And.intro hown (And.intro hc1 (And.intro hc2 hbel)))
  clear hown hc1 hc2 hbel
  simp only [sumLen, joined, List.append_nil, Nat.add_zero] at HO ⊢
  go_wp2
  go_ret
  obtain ⟨h1, h2, h3, h4⟩ := HO.out
  exact ⟨A', c', rfl, h1, h2, h3, (HB.out _).trans (h4.mono (by simp))⟩

end Go.Proofs.Ythlaoidlhbjaiaa
