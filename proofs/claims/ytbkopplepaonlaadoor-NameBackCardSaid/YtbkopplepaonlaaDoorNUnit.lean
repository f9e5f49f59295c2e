/-
  name.Unit and name.Node of 'node@' and digits of base 16.
-/
import Derived.Test.YtbkopplepaonlaaDoorNHex
import Derived.Test.YtbkopplepaonlaaDoorNSplit
import Derived.Test.YtbkopplepaonlaaDoorNAwake
namespace Go.Proofs.YtbkopplepaonlaaDoor
open Go.RowKit
set_option linter.unusedVariables false
set_option linter.unusedSimpArgs false

def nodeAt : ByteArray := ⟨#[110, 111, 100, 101, 64]⟩
theorem nodeAt_size : nodeAt.size = 5 := rfl
theorem at_size (s : ByteArray) : (nodeAt ++ s).size = 5 + s.size := by rw [ByteArray.size_append, nodeAt_size]
theorem at_cut (s : ByteArray) : CutAt (nodeAt ++ s) 4 := by
  refine ⟨by rw [at_size]; omega, ?_⟩
  have e : (nodeAt ++ s).data.toList = 110 :: 111 :: 100 :: 101 :: 64 :: s.data.toList := by
    rw [ByteArray.data_append, Array.toList_append]; rfl
  rw [e]
  rfl
theorem at_tail (s : ByteArray) : (nodeAt ++ s).extract (4 + 1) (nodeAt ++ s).size = s := ByteArray.extract_append_eq_right rfl (by rw [at_size, nodeAt_size])
theorem at_head (s : ByteArray) : (nodeAt ++ s).extract 0 4 = ⟨#[110, 111, 100, 101]⟩ := by
  rw [ByteArray.extract_append, nodeAt_size]
  simp
  rfl

set_option maxHeartbeats 400000 in
theorem unit_at (s : ByteArray) (h0 : 0 < s.size) (h16 : s.size ≤ 16) (hx : ∀ c ∈ s.data.toList, IsHex c) (w : World) :
    Calls Tryd.prog 5 #[.string (nodeAt ++ s)] w fun e w' => e = .returned (.tuple #[.int .u64 (hexFrom 0 s.data.toList), .bool true]) ∧ Below w.heap.size w w' := by
  have C1 := Lib.hid (split_some (nodeAt ++ s) 4 w (at_cut s) (by rw [at_size]; omega))
  rw [at_tail] at C1
  have C2 := Lib.hid (parse_hex s h0 h16 hx (w.drewN 1))
  obtain ⟨v, hv⟩ : ∃ v : Int, v = (hexFrom 0 s.data.toList : Int) := ⟨_, rfl⟩
  rw [← hv] at C2 ⊢
  clear hx hv
  have hl : ¬ (16 < (s.size : Int)) := by omega
  go_enter Tryd.func5, Tryd.ntmps5
  go_wp2_with fail
  refine C1.out.mono ?_
  rintro e w' ⟨rfl, rfl⟩
  go_wp2_with fail
  refine C2.out.mono ?_
  rintro e w' ⟨rfl, hb⟩
  have HB := Lib.hid hb
  clear hb
  go_wp2
  go_ret2
  exact ⟨rfl, (draws_below w 1).trans HB.out⟩

set_option maxRecDepth 100000 in
theorem hex_stands : ∀ n : Fin 256, (48 ≤ n.val ∧ n.val ≤ 57) ∨ (97 ≤ n.val ∧ n.val ≤ 102) ∨ (65 ≤ n.val ∧ n.val ≤ 70) → okM nodeMarks (UInt8.ofNat n.val) = true := by decide
theorem hex_ok (c : UInt8) (h : IsHex c) : okM nodeMarks c = true := by
  have := hex_stands ⟨c.toNat, c.toNat_lt⟩ h
  simpa using this

theorem node_at (s : ByteArray) (h0 : 0 < s.size) (h16 : s.size ≤ 16) (hx : ∀ c ∈ s.data.toList, IsHex c) (w : World) :
    Calls Tryd.prog 6 #[.string (nodeAt ++ s)] w fun e w' => e = .returned (.bool true) ∧ w' = w.drewN 1 :=
  node_some (nodeAt ++ s) 4 w (at_cut s) (by rw [at_size]; omega) true true (by rw [at_head]; kernel_rfl) (by
    rw [at_tail]; unfold madeB
    rw [size_len, decide_eq_true (show 1 ≤ s.size by omega), decide_eq_true (show s.size ≤ 31 by omega), List.all_eq_true.2 (fun c hc => hex_ok c (hx c hc))]; rfl)
end Go.Proofs.YtbkopplepaonlaaDoor
