/-
  Layer 11: number, strings.Split at one byte, and find, at any texts.
-/
import Derived.Test.YtihlpcbebpnmkaaGreatDoorZLocal
import Derived.Test.YtihlpcbebpnmkaaGreatDoorShelf
import Derived.Shelf.Strings.SplitCore
import Derived.Lib.SplitLaws
import Derived.Lib.SmallJoins
namespace Go.Proofs.YtihlpcbebpnmkaaGreatDoor
open Go.RowKit
set_option linter.unusedVariables false
set_option linter.unusedSimpArgs false
attribute [local go_sem ↓] Go.wp_at_zero Go.wp_at_succ

/-- What strconv's two errors hold. -/
def ErrLaid (w : World) : Prop := 3 ≤ w.heap.size ∧ (∃ t p, w.cell? ⟨1, 0, none⟩ = some (.iface t p)) ∧ ∃ t p, w.cell? ⟨2, 0, none⟩ = some (.iface t p)
theorem err_lt : 1 < 3 ∧ 2 < 3 := by decide
theorem ErrLaid.on {w w' : World} {B : Nat} (h : ErrLaid w) (hB : 3 ≤ B) (hb : Below B w w') (hs : B ≤ w'.heap.size) : ErrLaid w' := by
  obtain ⟨h1, ⟨t, p, h2⟩, u, q, h3⟩ := h
  exact ⟨Nat.le_trans hB hs, ⟨t, p, (hb.cell (p := ⟨1, 0, none⟩) (Nat.lt_of_lt_of_le err_lt.1 hB)).trans h2⟩, u, q, (hb.cell (p := ⟨2, 0, none⟩) (Nat.lt_of_lt_of_le err_lt.2 hB)).trans h3⟩
theorem wrap_i64 (n : Int) : -9223372036854775808 ≤ wrap64 n ∧ wrap64 n ≤ 9223372036854775807 := by unfold wrap64; omega

set_option maxHeartbeats 1000000 in
theorem number_any (s : ByteArray) (w : World) (hs : s.size ≤ 268435456) (he : ErrLaid w) :
    Calls Tryz.prog 92 #[.string s] w fun e w' => (∃ (q : Int) (r : Bool), e = .returned (.tuple #[.int .i64 q, .bool r]) ∧ -9223372036854775808 ≤ q ∧ q ≤ 9223372036854775807) ∧ Below w.heap.size w w' := by
  obtain ⟨_, ⟨t1, p1, e1⟩, t2, p2, e2⟩ := he
  have HB0 := Lib.hid (Below.refl w.heap.size w)
  by_cases h9 : (9 : Int) < (s.size : Int)
  · have k1 : ((s.size : Int) > 9) := h9
    have k2 : decide ((s.size : Int) > 9) = true := decide_eq_true h9
    clear e1 e2
    go_enter Tryz.func92, Tryz.ntmps92
    go_wp2
    go_ret2
    exact ⟨⟨_, _, rfl, by omega, by omega⟩, HB0.out⟩
  · have k1 : ¬ ((s.size : Int) > 9) := h9
    have k2 : decide ((s.size : Int) > 9) = false := decide_eq_false h9
    rcases hp : Lib.parseUintB 32 s.data.toList with u | _ | _
    · have C := Lib.hid (Go.Proofs.Tryz.strconv_ParseUint_10_at32_ok s (by omega) u hp w)
      have HW := Lib.hid (wrap_i64 u)
      clear e1 e2 hp
      go_enter Tryz.func92, Tryz.ntmps92
      go_wp2_with fail
      refine C.out.mono ?_
      rintro e w' ⟨rfl, hw⟩
      have HB : Hid (Below w.heap.size w w') := Lib.hid (by
        rcases hw with rfl | rfl
        · exact Below.refl _ _
        · exact Joins.below_bytesWorld _ _ _ _ (Nat.le_refl _))
      clear hw
      go_wp2
      go_ret2
      exact ⟨⟨_, _, rfl, HW.out.1, HW.out.2⟩, HB.out⟩
    · have C := Lib.hid (Go.Proofs.Tryz.strconv_ParseUint_10_at32_syntax s (by omega) ⟨fun u h => by (rw [hp] at h; cases h), fun h => by (rw [hp] at h; cases h)⟩ _ w e1 (.inr ⟨_, _, rfl⟩))
      clear e1 e2 hp
      go_enter Tryz.func92, Tryz.ntmps92
      go_wp2_with fail
      refine C.out.mono ?_
      rintro e w' ⟨N, rfl, _, _, hb⟩
      have HB := Lib.hid hb
      clear hb
      go_wp2
      go_ret2
      exact ⟨⟨_, _, rfl, by omega, by omega⟩, HB.out⟩
    · have C := Lib.hid (Go.Proofs.Tryz.strconv_ParseUint_10_at32_range s (by omega) hp _ w e2 (.inr ⟨_, _, rfl⟩))
      clear e1 e2 hp
      go_enter Tryz.func92, Tryz.ntmps92
      go_wp2_with fail
      refine C.out.mono ?_
      rintro e w' ⟨N, rfl, _, _, hb⟩
      have HB := Lib.hid hb
      clear hb
      go_wp2
      go_ret2
      exact ⟨⟨_, _, rfl, by omega, by omega⟩, HB.out⟩

/-! ### strings.Split at one byte -/
theorem idxb_range (l : List UInt8) (c : UInt8) : -1 ≤ Lib.indexByte l c ∧ Lib.indexByte l c < l.length := by
  induction l with
  | nil => simp [Lib.indexByte]
  | cons x l ih =>
    rw [Lib.indexByte]
    simp only [List.length_cons]
    split
    · omega
    · split <;> omega
theorem splitB_sizes (c : UInt8) : ∀ (k : Nat) (s : ByteArray), ∀ x ∈ Lib.splitB ⟨#[c]⟩ 0 k s, x.size ≤ s.size
  | 0, s, x, hx => by
    rw [Lib.splitB_zero, List.mem_singleton] at hx
    rw [hx]; exact Nat.le_refl _
  | k + 1, s, x, hx => by
    rw [Lib.splitB] at hx
    split at hx
    · rw [List.mem_singleton] at hx
      rw [hx]; exact Nat.le_refl _
    · rcases List.mem_cons.1 hx with rfl | h
      · simp only [ByteArray.size_extract]; omega
      · have := splitB_sizes c k _ x h
        simp only [ByteArray.size_extract] at this
        omega
theorem splitB_sum (c : UInt8) : ∀ (k : Nat) (s : ByteArray), Lib.lens ((Lib.splitB ⟨#[c]⟩ 0 k s).map (·.data.toList)) + ((Lib.splitB ⟨#[c]⟩ 0 k s).length - 1) ≤ s.size
  | 0, s => by
    rw [Lib.splitB_zero]
    simp only [Lib.lens, List.map_cons, List.map_nil, List.sum_cons, List.sum_nil, List.length_cons, List.length_nil, Array.length_toList]
    show s.size + 0 + (0 + 1 - 1) ≤ s.size
    omega
  | k + 1, s => by
    rw [Lib.splitB]
    by_cases hm : (Lib.indexB s ⟨#[c]⟩ == -1) = true
    · rw [if_pos hm]
      simp only [Lib.lens, List.map_cons, List.map_nil, List.sum_cons, List.sum_nil, List.length_cons, List.length_nil, Array.length_toList]
      show s.size + 0 + (0 + 1 - 1) ≤ s.size
      omega
    · rw [if_neg hm]
      have hi : 0 ≤ Lib.indexB s ⟨#[c]⟩ ∧ Lib.indexB s ⟨#[c]⟩ < s.size := by
        have e : Lib.indexB s ⟨#[c]⟩ = Lib.indexByte s.data.toList c := Lib.index_one _ _
        rw [e] at hm ⊢
        have h2 := idxb_range s.data.toList c
        have h3 : s.data.toList.length = s.size := rfl
        rw [h3] at h2
        have h4 : Lib.indexByte s.data.toList c ≠ -1 := fun h => hm (by rw [h]; rfl)
        omega
      have ih := splitB_sum c k (s.extract ((Lib.indexB s ⟨#[c]⟩).toNat + (⟨#[c]⟩ : ByteArray).size) s.size)
      have h1 : 0 < (Lib.splitB ⟨#[c]⟩ 0 k (s.extract ((Lib.indexB s ⟨#[c]⟩).toNat + (⟨#[c]⟩ : ByteArray).size) s.size)).length := by
        cases k with
        | zero => simp [Lib.splitB_zero]
        | succ k =>
          rw [Lib.splitB]
          split <;> simp
      have e1 : (s.extract ((Lib.indexB s ⟨#[c]⟩).toNat + (⟨#[c]⟩ : ByteArray).size) s.size).size = s.size - ((Lib.indexB s ⟨#[c]⟩).toNat + 1) := by
        rw [ByteArray.size_extract]
        show min s.size s.size - ((Lib.indexB s ⟨#[c]⟩).toNat + 1) = _
        omega
      have e2 : (s.extract 0 ((Lib.indexB s ⟨#[c]⟩).toNat + 0)).data.toList.length ≤ (Lib.indexB s ⟨#[c]⟩).toNat := by
        show (s.extract 0 ((Lib.indexB s ⟨#[c]⟩).toNat + 0)).size ≤ _
        rw [ByteArray.size_extract]
        omega
      rw [e1] at ih
      simp only [Lib.lens, List.map_cons, List.sum_cons, List.length_cons] at ih e2 ⊢
      omega
set_option maxHeartbeats 1000000 in
theorem split_any (c : UInt8) (s : ByteArray) (hs : s.size ≤ 268435456) : ∃ l : List ByteArray, 0 < l.length ∧ l.length ≤ s.size + 1 ∧ (∀ x ∈ l, x.size ≤ s.size) ∧ (Lib.lens (l.map (·.data.toList)) + (l.length - 1) ≤ s.size) ∧ ∀ w : World,
    Calls Tryz.prog 70 #[.string s, .string ⟨#[c]⟩] w fun e w' => e = .returned (.slice (some ⟨w.heap.size, 0, none⟩) l.length l.length) ∧ w' = w.alloc (.cells (l.map Value.string).toArray 9) := by
  obtain ⟨k, hcnt⟩ : ∃ k, Lib.countB s ⟨#[c]⟩ = k := ⟨_, rfl⟩
  have hlen := Lib.splitB_all ⟨#[c]⟩ (by show 1 ≤ (1 : Nat); omega) 0 k s hcnt
  have hle : k ≤ s.size := by
    have h1 := Lib.countB_le ⟨#[c]⟩ (by show 1 ≤ (1 : Nat); omega) s.size s (Nat.le_refl _)
    rw [hcnt] at h1
    exact h1
  refine ⟨Lib.splitB ⟨#[c]⟩ 0 k s, by omega, by omega, splitB_sizes c k s, splitB_sum c k s, fun w => ?_⟩
  have C0 := Any.strings_genSplit_core Tryz.lays221 (by kernel_rfl) s ⟨#[c]⟩ 0 (-1) (k + 1) w (by omega) (by show 1 ≤ (1 : Nat); omega) (by show 0 ≤ (1 : Nat); omega)
    (fun x cs hx => (Go.Proofs.Tryz.strings_Index_one x c _).mono fun e w' ⟨he, hw⟩ => ⟨by rw [he, show Lib.indexB x ⟨#[c]⟩ = Lib.indexByte x.data.toList c from Lib.index_one _ _], hw⟩)
    ((Go.Proofs.Tryz.strings_Count_one s c w).mono fun e w' ⟨he, hw⟩ => ⟨by rw [he, show Lib.countB s ⟨#[c]⟩ = Lib.countByte s.data.toList c from Lib.count_one _ _], hw⟩) (by decide) (by decide) (by rw [if_pos (by decide), hcnt]; omega)
  rw [Nat.add_sub_cancel] at C0
  have e2 : Lib.cellsOf (Lib.splitB ⟨#[c]⟩ 0 k s) (k + 1) = ((Lib.splitB ⟨#[c]⟩ 0 k s).map Value.string).toArray := by rw [← hlen]; exact Lib.cellsOf_full _
  rw [e2] at C0
  have C : Hid (Calls Tryz.prog 98 #[.string s, .string ⟨#[c]⟩, .int .i64 0, .int .i64 (-1)] w fun e w' => e = .returned (.slice (some ⟨w.heap.size, 0, none⟩) (k + 1) (k + 1)) ∧ w' = w.alloc (.cells ((Lib.splitB ⟨#[c]⟩ 0 k s).map Value.string).toArray 9)) := Lib.hid (by rw [hlen] at C0; exact C0)
  rw [hlen]
  clear C0 e2 hcnt hlen
  generalize ((Lib.splitB ⟨#[c]⟩ 0 k s).map Value.string).toArray = cs at *
  go_enter Tryz.func70, Tryz.ntmps70
  go_wp2_with fail
  refine C.out.mono ?_
  rintro e w' ⟨rfl, rfl⟩
  go_wp2
  go_ret
  exact ⟨rfl, rfl⟩
end Go.Proofs.YtihlpcbebpnmkaaGreatDoor
