/-
  The document's Node: the same test as the program's.
-/
import Derived.Test.YtckdddbiffoolaaDoorNRef
namespace Go.Proofs.YtckdddbiffoolaaDoor
open Go.RowKit
set_option linter.unusedVariables false
set_option linter.unusedSimpArgs false

set_option maxHeartbeats 2000000 in
theorem refnode_none (s : ByteArray) (w : World) (h : NoCut s) (hs : s.size ≤ 140737488351232) (r : Bool) (hr : r = baseB s.data.toList) :
    Calls Tryd.prog 22 #[.string s] w fun e w' => e = .returned (.bool r) ∧ w = w' := by
  have HR := Lib.hid hr
  have C := Lib.hid (refcut_any s w hs (-1) h.symm)
  clear hr h
  go_enter Tryd.func22, Tryd.ntmps22
  go_wp2_with (go_at_call 33; refine C.out.mono ?_; rintro e w' ⟨rfl, rfl⟩)
  go_loop [30] (fun i => ∃ k : Nat, k ≤ s.size ∧ i = .int .i64 k ∧ AllBut s (-1) k) (fun i => s.size - (intOf i).toNat)
  case atStart => exact ⟨0, Nat.zero_le _, rfl, AllBut.zero _ _⟩
  case round =>
    obtain ⟨k, hk, rfl, hall⟩ := hrel
    have HA := Lib.hid hall
    clear hall
    by_cases hlt : k < s.size
    · have hb := byte_le s[k]
      have hk1 : ((k : Int) == -1) = false := by rw [beq_eq_false_iff_ne]; omega
      have hk2 : ((k : Int) != -1) = true := by rw [bne, hk1]; rfl
      cases hl : stB (s[k].toNat : Int)
      · obtain rfl : r = false := by rw [HR.out, baseB, made_bad s k hlt hl]; rfl
        have C1 := Lib.hid (stands_any s[k].toNat w hb false hl.symm)
        clear hl
        go_wp2_with (go_at_call 34; refine C1.out.mono ?_; rintro e w' ⟨rfl, rfl⟩)
        go_ret
        exact ⟨rfl, rfl⟩
      · have HF := Lib.hid (HA.out.succ hlt (fun _ => hl))
        have C1 := Lib.hid (stands_any s[k].toNat w hb true hl.symm)
        clear hl
        go_wp2_with (go_at_call 34; refine C1.out.mono ?_; rintro e w' ⟨rfl, rfl⟩)
        go_round
        case rel => exact ⟨k + 1, by omega, by go_num, HF⟩
        case measure => simp [intOf]; omega
    · by_cases h1 : 1 ≤ s.size
      · by_cases h2 : s.size ≤ 31
        · have hm := made_true s h1 h2 (fun j hj => HA.out j hj (by omega) (by omega))
          have hf := first_at s (by omega)
          have HT : Hid (r = (letB s[0].toNat || decide (s[0].toNat = 95))) := by rw [HR.out, baseB, hm, Bool.true_and, firstB, hf]; rfl
          have hb := byte_le s[0]
          clear hm hf
          go_wp2
          all_goals
            go_ret
            refine ⟨congrArg (fun b => Ending.returned (.bool b)) ?_, rfl⟩
            rw [HT.out, Bool.eq_iff_iff]
            simp only [letB, Bool.or_eq_true, Bool.and_eq_true, decide_eq_true_eq, beq_iff_eq]
            try simp
            try omega
        · obtain rfl : r = false := by rw [HR.out, baseB, made_len s (by omega)]; rfl
          go_wp2
          go_ret
          exact ⟨rfl, rfl⟩
      · obtain rfl : r = false := by rw [HR.out, baseB, made_len s (by omega)]; rfl
        go_wp2
        go_ret
        exact ⟨rfl, rfl⟩

theorem ext_size (s : ByteArray) (a b : Nat) (h : b ≤ s.size) : (s.extract a b).size = b - a := by rw [ByteArray.size_extract]; omega
theorem head_at (s : ByteArray) (i j : Nat) (h : i ≤ s.size) (hj : j < i) : (s.extract 0 i)[j]'(by rw [ext_size _ _ _ h]; omega) = s[j] := by
  rw [ByteArray.getElem_extract]; simp only [Nat.zero_add]
theorem tail_at (s : ByteArray) (i j : Nat) (hj : j < (s.extract (i + 1) s.size).size) : (s.extract (i + 1) s.size)[j] = s[i + 1 + j]'(by rw [ext_size _ _ _ (Nat.le_refl _)] at hj; omega) :=
  ByteArray.getElem_extract hj

set_option maxHeartbeats 2000000 in
theorem refnode_some (s : ByteArray) (i : Nat) (w : World) (h : CutAt s i) (hs : s.size ≤ 140737488351232) (r : Bool) (hr : r = (baseB (s.extract 0 i).data.toList && madeB nodeMarks (s.extract (i + 1) s.size).data.toList)) :
    Calls Tryd.prog 22 #[.string s] w fun e w' => e = .returned (.bool r) ∧ w = w' := by
  have HR := Lib.hid hr
  have C := Lib.hid (refcut_any s w hs i h.2.symm)
  have hi := h.1
  have S1 := Lib.hid (ext_size s 0 i (by omega))
  have S2 := Lib.hid (ext_size s (i + 1) s.size (Nat.le_refl _))
  clear hr h
  by_cases hu : 1 ≤ s.size - (i + 1) ∧ s.size - (i + 1) ≤ 31
  · obtain ⟨hu1, hu2⟩ := hu
    have v1 : ¬ ((s.size : Int) - (i : Int) - 1 < 1) := by omega
    have v2 : ¬ (31 < (s.size : Int) - (i : Int) - 1) := by omega
    go_enter Tryd.func22, Tryd.ntmps22
    go_wp2_with (go_at_call 33; refine C.out.mono ?_; rintro e w' ⟨rfl, rfl⟩)
    go_loop [30] (fun x => ∃ k : Nat, k ≤ s.size ∧ x = .int .i64 k ∧ AllBut s i k) (fun i => s.size - (intOf i).toNat)
    case atStart => exact ⟨0, Nat.zero_le _, rfl, AllBut.zero _ _⟩
    case round =>
      obtain ⟨k, hk, rfl, hall⟩ := hrel
      have HA := Lib.hid hall
      clear hall
      by_cases hlt : k < s.size
      · have hb := byte_le s[k]
        by_cases hki : k = i
        · have HF := Lib.hid (HA.out.succ hlt (fun hne => absurd (by rw [hki]) hne))
          have hk1 : ((k : Int) == (i : Int)) = true := by rw [beq_iff_eq]; omega
          have hk2 : ((k : Int) != (i : Int)) = false := by rw [bne, hk1]; rfl
          clear hki
          go_wp2
          go_round
          case rel => exact ⟨k + 1, by omega, by go_num, HF⟩
          case measure => simp [intOf]; omega
        · have hk1 : ((k : Int) == (i : Int)) = false := by rw [beq_eq_false_iff_ne]; omega
          have hk2 : ((k : Int) != (i : Int)) = true := by rw [bne, hk1]; rfl
          cases hl : stB (s[k].toNat : Int)
          · have HT : r = false := by
              rw [HR.out]
              rcases Nat.lt_or_ge k i with hc | hc
              · rw [baseB, made_bad (s.extract 0 i) k (by rw [S1.out]; omega) (by rw [head_at s i k (by omega) hc]; exact hl)]; rfl
              · rw [made_bad (s.extract (i + 1) s.size) (k - (i + 1)) (by rw [S2.out]; omega) (by rw [tail_at]; simp only [show i + 1 + (k - (i + 1)) = k from by omega]; exact hl), Bool.and_false]
            obtain rfl := HT
            have C1 := Lib.hid (stands_any s[k].toNat w hb false hl.symm)
            clear hl
            go_wp2_with (go_at_call 34; refine C1.out.mono ?_; rintro e w' ⟨rfl, rfl⟩)
            go_ret
            exact ⟨rfl, rfl⟩
          · have HF := Lib.hid (HA.out.succ hlt (fun _ => hl))
            have C1 := Lib.hid (stands_any s[k].toNat w hb true hl.symm)
            clear hl
            go_wp2_with (go_at_call 34; refine C1.out.mono ?_; rintro e w' ⟨rfl, rfl⟩)
            go_round
            case rel => exact ⟨k + 1, by omega, by go_num, HF⟩
            case measure => simp [intOf]; omega
      · have hm2 : madeB nodeMarks (s.extract (i + 1) s.size).data.toList = true := made_true _ (by rw [S2.out]; omega) (by rw [S2.out]; omega) (fun j hj => by rw [tail_at]; exact HA.out _ _ (by have := hj; rw [S2.out] at this; omega) (by omega))
        by_cases h1 : 1 ≤ i
        · by_cases h2 : i ≤ 31
          · have hm := made_true (s.extract 0 i) (by rw [S1.out]; omega) (by rw [S1.out]; omega) (fun j hj => by
              have hji : j < i := by rw [S1.out] at hj; omega
              rw [head_at s i j (by omega) hji]; exact HA.out j _ (by omega) (by omega))
            have h0 : 0 < (s.extract 0 i).size := by rw [S1.out]; omega
            have hf := first_at (s.extract 0 i) h0
            have HT : Hid (r = (letB (s.extract 0 i)[0].toNat || decide ((s.extract 0 i)[0].toNat = 95))) := by rw [HR.out, baseB, hm, hm2, Bool.true_and, Bool.and_true, firstB, hf]; rfl
            have hb := byte_le (s.extract 0 i)[0]
            clear hm hm2 hf
            go_wp2
            all_goals
              go_ret
              refine ⟨congrArg (fun b => Ending.returned (.bool b)) ?_, rfl⟩
              rw [HT.out, Bool.eq_iff_iff]
              simp only [letB, Bool.or_eq_true, Bool.and_eq_true, decide_eq_true_eq, beq_iff_eq]
              try simp
              try omega
          · obtain rfl : r = false := by rw [HR.out, baseB, made_len (s.extract 0 i) (by rw [S1.out]; omega)]; rfl
            clear hm2
            go_wp2
            go_ret
            exact ⟨rfl, rfl⟩
        · obtain rfl : r = false := by rw [HR.out, baseB, made_len (s.extract 0 i) (by rw [S1.out]; omega)]; rfl
          clear hm2
          go_wp2
          go_ret
          exact ⟨rfl, rfl⟩
  · obtain rfl : r = false := by rw [HR.out, made_len (s.extract (i + 1) s.size) (by rw [S2.out]; exact hu), Bool.and_false]
    by_cases hu1 : (s.size : Int) - (i : Int) - 1 < 1
    · clear hu
      go_enter Tryd.func22, Tryd.ntmps22
      go_wp2_with (go_at_call 33; refine C.out.mono ?_; rintro e w' ⟨rfl, rfl⟩)
      go_ret
      exact ⟨rfl, rfl⟩
    · have hu2 : 31 < (s.size : Int) - (i : Int) - 1 := by omega
      clear hu
      go_enter Tryd.func22, Tryd.ntmps22
      go_wp2_with (go_at_call 33; refine C.out.mono ?_; rintro e w' ⟨rfl, rfl⟩)
      go_ret
      exact ⟨rfl, rfl⟩
end Go.Proofs.YtckdddbiffoolaaDoor
