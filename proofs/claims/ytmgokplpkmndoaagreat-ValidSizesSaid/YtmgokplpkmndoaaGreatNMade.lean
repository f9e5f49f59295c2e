/-
  name.isMadeOf: a text of 1 to 31 bytes, each of which may stand.
-/
import Derived.Test.YtmgokplpkmndoaaGreatNByte
namespace Go.Proofs.YtmgokplpkmndoaaGreat
open Go.RowKit
set_option linter.unusedVariables false
set_option linter.unusedSimpArgs false

def okM (marks : List UInt8) (c : UInt8) : Bool := letB c.toNat || digB c.toNat || decide (0 ≤ Lib.indexByte marks c)
/-- Made of letters, digits and the marks. -/
def madeB (marks l : List UInt8) : Bool := decide (1 ≤ l.length) && decide (l.length ≤ 31) && l.all (okM marks)

theorem size_len (s : ByteArray) : s.data.toList.length = s.size := rfl
theorem byte_le (c : UInt8) : 0 ≤ (c.toNat : Int) ∧ (c.toNat : Int) ≤ 255 := by have := c.toNat_lt; omega
theorem byte_back (c : UInt8) : ((c.toNat : Int).toNat).toUInt8 = c := by simp
theorem at_mem (s : ByteArray) (k : Nat) (h : k < s.size) : s[k] ∈ s.data.toList := by
  have : s[k] = s.data[k]'(by simpa using h) := rfl
  rw [this]; simp
theorem all_at (s : ByteArray) (p : UInt8 → Bool) (h : ∀ k (hk : k < s.size), p s[k] = true) : s.data.toList.all p = true := by
  rw [List.all_eq_true]
  intro x hx
  obtain ⟨k, hk, rfl⟩ := List.getElem_of_mem hx
  exact h k hk
theorem not_all (s : ByteArray) (p : UInt8 → Bool) (k : Nat) (hk : k < s.size) (h : p s[k] = false) : s.data.toList.all p = false := by
  rw [Bool.eq_false_iff]
  intro e
  rw [List.all_eq_true] at e
  have := e _ (at_mem s k hk)
  rw [h] at this; cases this

theorem indexs_any (m : ByteArray) (c : UInt8) (w : World) (r : Int) (hr : r = Lib.indexByte m.data.toList c) :
    Calls Tryz.prog 158 #[.string m, .int .u8 c.toNat] w fun e w' => e = .returned (.int .i64 r) ∧ w = w' :=
  (Go.Proofs.Tryz.strings_IndexByte m c.toNat w).mono fun e w' ⟨h1, h2⟩ => ⟨by rw [h1, byte_back, hr], h2.symm⟩

set_option maxHeartbeats 1000000 in
theorem made_any (s m : ByteArray) (w : World) (hs : s.size ≤ 140737488351232) (r : Bool) (hr : r = madeB m.data.toList s.data.toList) :
    Calls Tryz.prog 138 #[.string s, .string m] w fun e w' => e = .returned (.bool r) ∧ w = w' := by
  have HR := Lib.hid hr
  clear hr
  have L := Lib.hid (size_len s)
  by_cases h1 : s.size < 1
  · obtain rfl : r = false := by rw [HR.out]; unfold madeB; rw [L.out, decide_eq_false (by omega)]; rfl
    go_enter Tryz.func138, Tryz.ntmps138
    go_wp2
    go_ret
    exact ⟨rfl, rfl⟩
  by_cases h2 : 31 < s.size
  · obtain rfl : r = false := by rw [HR.out]; unfold madeB; rw [L.out, decide_eq_false (p := s.size ≤ 31) (by omega), Bool.and_false]; rfl
    go_enter Tryz.func138, Tryz.ntmps138
    go_wp2
    go_ret
    exact ⟨rfl, rfl⟩
  go_enter Tryz.func138, Tryz.ntmps138
  go_wp2
  go_loop [16] (fun i => ∃ k : Nat, k ≤ s.size ∧ i = .int .i64 k ∧ ∀ j (hj : j < s.size), j < k → okM m.data.toList s[j] = true) (fun i => s.size - (intOf i).toNat)
  case atStart => exact ⟨0, Nat.zero_le _, rfl, fun _ _ h => absurd h (by omega)⟩
  case round =>
    obtain ⟨k, hk, rfl, hall⟩ := hrel
    have HA := Lib.hid hall
    clear hall
    by_cases hlt : k < s.size
    · have hb := byte_le s[k]
      have fine : okM m.data.toList s[k] = true → Hid (∀ j (hj : j < s.size), j < k + 1 → okM m.data.toList s[j] = true) := fun h j hj hjk => by
        by_cases e : j = k
        · subst e; exact h
        · exact HA.out j hj (by omega)
      have bad : okM m.data.toList s[k] = false → r = false := fun h => by
        rw [HR.out]; unfold madeB; rw [not_all s _ k hlt h, Bool.and_false]
      cases hl : letB (s[k].toNat : Int)
      · cases hd : digB (s[k].toNat : Int)
        · by_cases hm : 0 ≤ Lib.indexByte m.data.toList s[k]
          · have HF := fine (by unfold okM; rw [hl, hd, decide_eq_true hm]; rfl)
            obtain ⟨q, hq⟩ : ∃ q, q = Lib.indexByte m.data.toList s[k] := ⟨_, rfl⟩
            have hq0 : 0 ≤ q := by rw [hq]; exact hm
            have C1 := Lib.hid (letter_any s[k].toNat w hb false hl.symm)
            have C2 := Lib.hid (digit_any s[k].toNat w hb false hd.symm)
            have C3 := Lib.hid (indexs_any m s[k] w q hq)
            clear fine bad hl hd hm hq
            go_wp2_with (first | (go_at_call 156; refine C1.out.mono ?_; rintro e w' ⟨rfl, rfl⟩) | (go_at_call 157; refine C2.out.mono ?_; rintro e w' ⟨rfl, rfl⟩) | (go_at_call 158; refine C3.out.mono ?_; rintro e w' ⟨rfl, rfl⟩))
            go_round
            case rel => exact ⟨k + 1, by omega, by go_num, HF⟩
            case measure => simp [intOf]; omega
          · obtain rfl := bad (by unfold okM; rw [hl, hd, decide_eq_false hm]; rfl)
            obtain ⟨q, hq⟩ : ∃ q, q = Lib.indexByte m.data.toList s[k] := ⟨_, rfl⟩
            have hq0 : q < 0 := by rw [hq]; omega
            have C1 := Lib.hid (letter_any s[k].toNat w hb false hl.symm)
            have C2 := Lib.hid (digit_any s[k].toNat w hb false hd.symm)
            have C3 := Lib.hid (indexs_any m s[k] w q hq)
            clear fine bad hl hd hm hq
            go_wp2_with (first | (go_at_call 156; refine C1.out.mono ?_; rintro e w' ⟨rfl, rfl⟩) | (go_at_call 157; refine C2.out.mono ?_; rintro e w' ⟨rfl, rfl⟩) | (go_at_call 158; refine C3.out.mono ?_; rintro e w' ⟨rfl, rfl⟩))
            go_ret
            exact ⟨rfl, rfl⟩
        · have HF := fine (by unfold okM; rw [hl, hd]; rfl)
          have C1 := Lib.hid (letter_any s[k].toNat w hb false hl.symm)
          have C2 := Lib.hid (digit_any s[k].toNat w hb true hd.symm)
          clear fine bad hl hd
          go_wp2_with (first | (go_at_call 156; refine C1.out.mono ?_; rintro e w' ⟨rfl, rfl⟩) | (go_at_call 157; refine C2.out.mono ?_; rintro e w' ⟨rfl, rfl⟩))
          go_round
          case rel => exact ⟨k + 1, by omega, by go_num, HF⟩
          case measure => simp [intOf]; omega
      · have HF := fine (by unfold okM; rw [hl]; rfl)
        have C1 := Lib.hid (letter_any s[k].toNat w hb true hl.symm)
        clear fine bad hl
        go_wp2_with (go_at_call 156; refine C1.out.mono ?_; rintro e w' ⟨rfl, rfl⟩)
        go_round
        case rel => exact ⟨k + 1, by omega, by go_num, HF⟩
        case measure => simp [intOf]; omega
    · have HT : r = true := by
        rw [HR.out]; unfold madeB
        rw [L.out, decide_eq_true (by omega), decide_eq_true (by omega), all_at s _ (fun j hj => HA.out j hj (by omega))]; rfl
      obtain rfl := HT
      go_wp2
      go_ret
      exact ⟨rfl, rfl⟩
end Go.Proofs.YtmgokplpkmndoaaGreat
