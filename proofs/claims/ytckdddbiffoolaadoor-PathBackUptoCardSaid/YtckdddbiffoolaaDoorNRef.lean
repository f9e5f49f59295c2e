/-
  The document's functions of names: the same tests on the bytes.
-/
import Derived.Test.YtckdddbiffoolaaDoorNNode
namespace Go.Proofs.YtckdddbiffoolaaDoor
open Go.RowKit
set_option linter.unusedVariables false
set_option linter.unusedSimpArgs false

set_option maxHeartbeats 1000000 in
theorem stands_any (c : Int) (w : World) (h : 0 ≤ c ∧ c ≤ 255) (r : Bool) (hr : r = stB c) :
    Calls Tryd.prog 34 #[.int .u8 c] w fun e w' => e = .returned (.bool r) ∧ w = w' := by
  have HR := Lib.hid hr
  clear hr
  go_enter Tryd.func34, Tryd.ntmps34
  go_wp2
  all_goals
    go_ret
    refine ⟨congrArg (fun b => Ending.returned (.bool b)) ?_, rfl⟩
    rw [HR.out, Bool.eq_iff_iff]
    simp only [stB, letB, digB, markB, Bool.or_eq_true, Bool.and_eq_true, decide_eq_true_eq, beq_iff_eq]
    try simp
    try omega
set_option maxRecDepth 100000 in
theorem node_marks : ∀ n : Fin 256, okM nodeMarks (UInt8.ofNat n.val) = stB n.val := by decide
theorem node_ok (c : UInt8) : okM nodeMarks c = stB c.toNat := by
  have h := node_marks ⟨c.toNat, c.toNat_lt⟩
  simpa using h
def stP (c : Int) : Bool := stB c || decide (c = 63) || decide (c = 35)
set_option maxRecDepth 100000 in
theorem prop_marks : ∀ n : Fin 256, okM propMarks (UInt8.ofNat n.val) = stP n.val := by decide
theorem prop_ok (c : UInt8) : okM propMarks c = stP c.toNat := by
  have h := prop_marks ⟨c.toNat, c.toNat_lt⟩
  simpa using h

set_option maxHeartbeats 400000 in
theorem refcut_any (s : ByteArray) (w : World) (hs : s.size ≤ 140737488351232) (r : Int) (hr : r = Lib.indexByte s.data.toList 64) :
    Calls Tryd.prog 33 #[.string s] w fun e w' => e = .returned (.int .i64 r) ∧ w = w' := by
  rcases cut_or_not s with h | ⟨i, h⟩
  · obtain rfl : r = -1 := hr.trans h
    have H := Lib.hid h
    clear hr h
    go_enter Tryd.func33, Tryd.ntmps33
    go_wp2
    go_loop [6] (fun i => ∃ k : Nat, k ≤ s.size ∧ i = .int .i64 k) (fun i => s.size - (intOf i).toNat)
    case atStart => exact ⟨0, Nat.zero_le _, rfl⟩
    case round =>
      obtain ⟨k, hk, rfl⟩ := hrel
      by_cases hlt : k < s.size
      · have hne : ((s[k].toNat : Int) == 64) = false := byte_ne s[k] 64 (H.out.ne k hlt)
        go_wp2
        go_round
        case rel => exact ⟨k + 1, by omega, by go_num⟩
        case measure => simp [intOf]; omega
      · go_wp2
        go_ret
        exact ⟨rfl, rfl⟩
  · obtain rfl : r = (i : Int) := hr.trans h.2
    have H := Lib.hid h
    have hi := h.1
    clear hr h
    go_enter Tryd.func33, Tryd.ntmps33
    go_wp2
    go_loop [6] (fun x => ∃ k : Nat, k ≤ i ∧ x = .int .i64 k) (fun i => s.size - (intOf i).toNat)
    case atStart => exact ⟨0, Nat.zero_le _, rfl⟩
    case round =>
      obtain ⟨k, hk, rfl⟩ := hrel
      have hlt : k < s.size := by omega
      by_cases hki : k < i
      · have hne : ((s[k].toNat : Int) == 64) = false := byte_ne s[k] 64 (H.out.ne k hki)
        go_wp2
        go_round
        case rel => exact ⟨k + 1, by omega, by go_num⟩
        case measure => simp [intOf]; omega
      · obtain rfl : k = i := by omega
        have heq : ((s[k].toNat : Int) == 64) = true := by rw [H.out.at_]; rfl
        go_wp2
        go_ret
        exact ⟨rfl, rfl⟩

set_option maxHeartbeats 1000000 in
theorem refprop_any (s : ByteArray) (w : World) (hs : s.size ≤ 140737488351232) (r : Bool) (hr : r = madeB propMarks s.data.toList) :
    Calls Tryd.prog 23 #[.string s] w fun e w' => e = .returned (.bool r) ∧ w = w' := by
  have HR := Lib.hid hr
  clear hr
  have L := Lib.hid (size_len s)
  go_enter Tryd.func23, Tryd.ntmps23
  go_wp2
  go_loop [6] (fun i => ∃ k : Nat, k ≤ s.size ∧ i = .int .i64 k ∧ ∀ j (hj : j < s.size), j < k → okM propMarks s[j] = true) (fun i => s.size - (intOf i).toNat)
  case atStart => exact ⟨0, Nat.zero_le _, rfl, fun _ _ h => absurd h (by omega)⟩
  case round =>
    obtain ⟨k, hk, rfl, hall⟩ := hrel
    have HA := Lib.hid hall
    clear hall
    by_cases hlt : k < s.size
    · have hb := byte_le s[k]
      have fine : okM propMarks s[k] = true → Hid (∀ j (hj : j < s.size), j < k + 1 → okM propMarks s[j] = true) := fun h j hj hjk => by
        by_cases e : j = k
        · subst e; exact h
        · exact HA.out j hj (by omega)
      have bad : okM propMarks s[k] = false → r = false := fun h => by
        rw [HR.out]; unfold madeB; rw [not_all s _ k hlt h, Bool.and_false]
      rw [prop_ok] at fine bad
      cases hl : stB (s[k].toNat : Int)
      · by_cases h1 : (s[k].toNat : Int) = 63 ∨ (s[k].toNat : Int) = 35
        · have HF := fine (by unfold stP; rw [hl]; rcases h1 with h | h <;> rw [h] <;> rfl)
          have C1 := Lib.hid (stands_any s[k].toNat w hb false hl.symm)
          have t1 : ((s[k].toNat : Int) == 63) = false → ((s[k].toNat : Int) == 35) = true := fun h => by
            rw [beq_eq_false_iff_ne] at h; rw [beq_iff_eq]; exact h1.resolve_left h
          clear fine bad hl h1
          cases e1 : ((s[k].toNat : Int) == 63)
          · have e2 := t1 e1
            have e3 : ((s[k].toNat : Int) != 63) = true := by rw [bne, e1]; rfl
            have e4 : ((s[k].toNat : Int) != 35) = false := by rw [bne, e2]; rfl
            clear t1
            go_wp2_with (go_at_call 34; refine C1.out.mono ?_; rintro e w' ⟨rfl, rfl⟩)
            go_round
            case rel => exact ⟨k + 1, by omega, by go_num, HF⟩
            case measure => simp [intOf]; omega
          · have e3 : ((s[k].toNat : Int) != 63) = false := by rw [bne, e1]; rfl
            clear t1
            go_wp2_with (go_at_call 34; refine C1.out.mono ?_; rintro e w' ⟨rfl, rfl⟩)
            go_round
            case rel => exact ⟨k + 1, by omega, by go_num, HF⟩
            case measure => simp [intOf]; omega
        · obtain rfl := bad (by unfold stP; rw [hl, decide_eq_false (by omega), decide_eq_false (by omega)]; rfl)
          have C1 := Lib.hid (stands_any s[k].toNat w hb false hl.symm)
          have e1 : ((s[k].toNat : Int) == 63) = false := by rw [beq_eq_false_iff_ne]; omega
          have e2 : ((s[k].toNat : Int) == 35) = false := by rw [beq_eq_false_iff_ne]; omega
          have e3 : ((s[k].toNat : Int) != 63) = true := by rw [bne, e1]; rfl
          have e4 : ((s[k].toNat : Int) != 35) = true := by rw [bne, e2]; rfl
          clear fine bad hl h1
          go_wp2_with (go_at_call 34; refine C1.out.mono ?_; rintro e w' ⟨rfl, rfl⟩)
          go_ret
          exact ⟨rfl, rfl⟩
      · have HF := fine (by unfold stP; rw [hl]; rfl)
        have C1 := Lib.hid (stands_any s[k].toNat w hb true hl.symm)
        clear fine bad hl
        go_wp2_with (go_at_call 34; refine C1.out.mono ?_; rintro e w' ⟨rfl, rfl⟩)
        go_round
        case rel => exact ⟨k + 1, by omega, by go_num, HF⟩
        case measure => simp [intOf]; omega
    · have HT : r = (decide (1 ≤ s.size) && decide (s.size ≤ 31)) := by
        rw [HR.out]; unfold madeB
        rw [L.out, all_at s _ (fun j hj => HA.out j hj (by omega)), Bool.and_true]
      by_cases h1 : 1 ≤ s.size
      · by_cases h2 : s.size ≤ 31
        · obtain rfl : r = true := by rw [HT, decide_eq_true h1, decide_eq_true h2]; rfl
          clear HT
          go_wp2
          go_ret
          exact ⟨congrArg (fun b => Ending.returned (.bool b)) (decide_eq_true (p := (s.size : Int) ≤ 31) (by omega)), rfl⟩
        · obtain rfl : r = false := by rw [HT, decide_eq_true h1, decide_eq_false h2]; rfl
          clear HT
          go_wp2
          go_ret
          exact ⟨congrArg (fun b => Ending.returned (.bool b)) (decide_eq_false (p := (s.size : Int) ≤ 31) (by omega)), rfl⟩
      · obtain rfl : r = false := by rw [HT, decide_eq_false h1]; rfl
        clear HT
        go_wp2
        go_ret
        exact ⟨rfl, rfl⟩

/-- All bytes but the one at i may stand. -/
def AllBut (s : ByteArray) (i : Int) (k : Nat) : Prop := ∀ j (hj : j < s.size), j < k → (j : Int) ≠ i → stB s[j].toNat = true

theorem AllBut.zero (s : ByteArray) (i : Int) : AllBut s i 0 := fun _ _ h => absurd h (by omega)
theorem AllBut.succ {s : ByteArray} {i : Int} {k : Nat} (h : AllBut s i k) (hk : k < s.size) (h1 : (k : Int) ≠ i → stB s[k].toNat = true) : AllBut s i (k + 1) := fun j hj hjk hne => by
  by_cases e : j = k
  · subst e; exact h1 hne
  · exact h j hj (by omega) hne

theorem made_true (s : ByteArray) (h1 : 1 ≤ s.size) (h2 : s.size ≤ 31) (h : ∀ j (hj : j < s.size), stB s[j].toNat = true) : madeB nodeMarks s.data.toList = true := by
  unfold madeB
  rw [size_len, decide_eq_true h1, decide_eq_true h2, all_at s _ (fun j hj => by rw [node_ok]; exact h j hj)]; rfl
theorem made_len (s : ByteArray) (h : ¬ (1 ≤ s.size ∧ s.size ≤ 31)) : madeB nodeMarks s.data.toList = false := by
  unfold madeB
  rw [size_len]
  by_cases h1 : 1 ≤ s.size
  · rw [decide_eq_false (p := s.size ≤ 31) (by omega), Bool.and_false]; rfl
  · rw [decide_eq_false h1]; rfl
theorem made_bad (s : ByteArray) (j : Nat) (hj : j < s.size) (h : stB s[j].toNat = false) : madeB nodeMarks s.data.toList = false := by
  unfold madeB
  rw [not_all s _ j hj (by rw [node_ok]; exact h), Bool.and_false]
end Go.Proofs.YtckdddbiffoolaaDoor
