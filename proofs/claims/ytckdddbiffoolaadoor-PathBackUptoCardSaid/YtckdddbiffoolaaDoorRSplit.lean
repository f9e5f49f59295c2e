/-
  strings.Split at the stroke: a path's names.
-/
import Derived.Test.YtckdddbiffoolaaDoorRPath
import Derived.Shelf.Strings.SplitCore
import Derived.Lib.SplitLaws
namespace Go.Proofs.YtckdddbiffoolaaDoor
open Go.RowKit
set_option linter.unusedVariables false
set_option linter.unusedSimpArgs false

theorem idx_not {c : UInt8} : ∀ (l r : List UInt8), c ∉ l → Lib.indexByte (l ++ c :: r) c = (l.length : Int)
  | [], r, _ => by simp [Lib.indexByte]
  | b :: l, r, h => by
    have hb : (b == c) = false := by rw [beq_eq_false_iff_ne]; intro e; exact h (by simp [e])
    have ih := idx_not l r (fun hc => h (List.mem_cons_of_mem _ hc))
    rw [List.cons_append, Lib.indexByte, hb, ih]
    simp only [Bool.false_eq_true, if_false]
    rw [if_neg (by rw [beq_iff_eq]; omega)]
    simp
/-- The names behind a first one. -/
theorem split_path : ∀ (rest : List ByteArray) (n1 : ByteArray), (∀ s ∈ n1 :: rest, (47 : UInt8) ∉ s.data.toList) → Lib.splitK [47] 0 rest.length (n1.data.toList ++ pathB rest) = n1.data.toList :: rest.map (·.data.toList)
  | [], n1, _ => by simp [Lib.splitK, pathB]
  | m :: rest, n1, h => by
    have e : pathB (m :: rest) = 47 :: (m.data.toList ++ pathB rest) := by simp [pathB]
    have h0 : (47 : UInt8) ∉ n1.data.toList := h n1 (by simp)
    have hi : Lib.index (n1.data.toList ++ 47 :: (m.data.toList ++ pathB rest)) [47] = (n1.data.toList.length : Int) := by rw [Lib.index_one]; exact idx_not _ _ h0
    rw [e, List.length_cons, Lib.splitK, hi, if_neg (by rw [beq_iff_eq]; omega)]
    simp only [Int.toNat_natCast, Nat.add_zero, List.take_left', List.length_cons, List.length_nil, Nat.zero_add]
    rw [show n1.data.toList.length + 1 = (n1.data.toList ++ [47]).length by simp, show n1.data.toList ++ 47 :: (m.data.toList ++ pathB rest) = (n1.data.toList ++ [47]) ++ (m.data.toList ++ pathB rest) by simp, List.drop_left, split_path rest m (fun s hs => h s (List.mem_cons_of_mem _ hs))]
    rfl
theorem count_path : ∀ (rest : List ByteArray), (∀ s ∈ rest, (47 : UInt8) ∉ s.data.toList) → (pathB rest).count 47 = rest.length
  | [], _ => rfl
  | m :: rest, h => by
    have e : pathB (m :: rest) = 47 :: (m.data.toList ++ pathB rest) := by simp [pathB]
    rw [e, List.count_cons_self, List.count_append, count_path rest (fun s hs => h s (List.mem_cons_of_mem _ hs)), List.count_eq_zero_of_not_mem (h m (by simp))]
    simp
theorem bytes_inj : ∀ {a b : List ByteArray}, a.map (·.data.toList) = b.map (·.data.toList) → a = b
  | [], [], _ => rfl
  | [], _ :: _, h => by simp at h
  | _ :: _, [], h => by simp at h
  | x :: a, y :: b, h => by
    simp only [List.map_cons, List.cons.injEq] at h
    obtain rfl : x = y := by
      rcases x with ⟨⟨x⟩⟩; rcases y with ⟨⟨y⟩⟩
      have := h.1
      simp only at this
      rw [this]
    rw [bytes_inj h.2]

set_option maxHeartbeats 1000000 in
theorem splitS_any (n1 : ByteArray) (rest : List ByteArray) (s : ByteArray) (w : World) (hse : s.data.toList = n1.data.toList ++ pathB rest) (hno : ∀ x ∈ n1 :: rest, (47 : UInt8) ∉ x.data.toList) (hs : s.size < 4294967281) :
    Calls Tryd.prog 19 #[.string s, .string ⟨#[47]⟩] w fun e w' => e = .returned (.slice (some ⟨w.heap.size, 0, none⟩) (rest.length + 1) (rest.length + 1)) ∧ w' = w.alloc (.cells ((n1 :: rest).map Value.string).toArray 9) := by
  have hcnt : Lib.countB s ⟨#[47]⟩ = rest.length := by
    show Lib.count s.data.toList [47] = _
    rw [Lib.count_one, hse, List.count_append, List.count_eq_zero_of_not_mem (hno n1 (by simp)), count_path rest (fun x hx => hno x (List.mem_cons_of_mem _ hx)), Nat.zero_add]
  have hsp : Lib.splitB ⟨#[47]⟩ 0 rest.length s = n1 :: rest := bytes_inj (by
    rw [Lib.splitB_data, hse]
    exact split_path rest n1 hno)
  have hrl : rest.length ≤ s.size := by
    have h1 := Lib.countB_le ⟨#[47]⟩ (by decide) s.size s (Nat.le_refl _)
    rw [hcnt] at h1
    exact h1
  have c := Any.strings_genSplit_core Tryd.lays221 (by kernel_rfl) s ⟨#[47]⟩ 0 (-1) (rest.length + 1) w hs (by decide) (by decide)
    (fun x cs hx => (Go.Proofs.Tryd.strings_Index_one x 47 _).mono fun e w' ⟨he, hw⟩ => ⟨by rw [he, show Lib.indexB x ⟨#[47]⟩ = Lib.indexByte x.data.toList 47 from Lib.index_one _ _], hw⟩)
    ((Go.Proofs.Tryd.strings_Count_one s 47 w).mono fun e w' ⟨he, hw⟩ => ⟨by rw [he, show Lib.countB s ⟨#[47]⟩ = Lib.countByte s.data.toList 47 from Lib.count_one _ _], hw⟩) (by decide) (by decide) (by rw [if_pos (by decide), hcnt]; omega)
  rw [Nat.add_sub_cancel, hsp, List.length_cons] at c
  have e2 : Lib.cellsOf (n1 :: rest) (rest.length + 1) = ((n1 :: rest).map Value.string).toArray := Lib.cellsOf_full (n1 :: rest)
  rw [e2] at c
  have C : Hid (Calls Tryd.prog 29 #[.string s, .string ⟨#[47]⟩, .int .i64 0, .int .i64 (-1)] w fun e w' => e = .returned (.slice (some ⟨w.heap.size, 0, none⟩) (rest.length + 1) (rest.length + 1)) ∧ w' = w.alloc (.cells ((n1 :: rest).map Value.string).toArray 9)) := Lib.hid c
  clear c e2 hcnt hsp hse hno
  generalize ((n1 :: rest).map Value.string).toArray = cs at *
  go_enter Tryd.func19, Tryd.ntmps19
  go_wp2_with fail
  refine C.out.mono ?_
  rintro e w' ⟨rfl, rfl⟩
  go_wp2
  go_ret
  exact ⟨rfl, rfl⟩
end Go.Proofs.YtckdddbiffoolaaDoor
