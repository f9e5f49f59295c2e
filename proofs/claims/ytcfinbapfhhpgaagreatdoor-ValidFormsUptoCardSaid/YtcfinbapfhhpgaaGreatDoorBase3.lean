/-
  Base, part 3.
-/
import Derived.Test.YtcfinbapfhhpgaaGreatDoorBase2
import Derived.Laws.Strings3
import Derived.Lib.Strings
import Derived.Lib.Slices
import Derived.BigCall
import Derived.BigGuard
import Derived.Deep.Draws
import Derived.Test.YtcfinbapfhhpgaaGreatDoorBase1
namespace Go.Proofs.YtcfinbapfhhpgaaGreatDoor
open Go.RowKit
set_option linter.unusedVariables false
set_option linter.unusedSimpArgs false
set_option maxRecDepth 20000
set_option maxHeartbeats 16000000
def CutAt (s : ByteArray) (i : Nat) : Prop := i < s.size /\ Lib.indexByte s.data.toList 64 = (i : Int)
def NoCut (s : ByteArray) : Prop := Lib.indexByte s.data.toList 64 = -1
theorem qnd_ (l : List UInt8) (c : UInt8) (i : Nat) (h : Lib.indexByte l c = i) : i < l.length := by
 have h1 := (Lib.indexByte_some h).1
 rcases Nat.lt_or_ge i l.length with h | h
 ·exact h
 ·rw [List.getElem?_eq_none h] at h1; cases h1
theorem qf5_ (s : ByteArray) : NoCut s \/ ∃ i, CutAt s i := by
 have hge := Lib.indexByte_ge s.data.toList 64
 by_cases hn : Lib.indexByte s.data.toList 64 = -1
 ·exact .inl hn
 ·refine .inr ⟨(Lib.indexByte s.data.toList 64).toNat, ?_, by omega⟩
  exact qnd_ s.data.toList 64 _ (by omega)
theorem qlg_ (s : ByteArray) (k : Nat) (hk : k < s.size) : s.data.toList[k]? = some s[k] := by
 rw [List.getElem?_eq_getElem (show k < s.data.toList.length from hk)]; rfl
theorem NoCut.ne {s : ByteArray} (h : NoCut s) (k : Nat) (hk : k < s.size) : s[k] ≠ 64 := fun e => Lib.indexByte_none h k (by rw [qlg_ s k hk, e])
theorem CutAt.at_ {s : ByteArray} {i : Nat} (h : CutAt s i) : s[i]'h.1 = 64 := by
 have h1 := (Lib.indexByte_some h.2).1
 rw [qlg_ s i h.1] at h1
 exact Option.some.inj h1
theorem CutAt.ne {s : ByteArray} {i : Nat} (h : CutAt s i) (k : Nat) (hk : k < i) : s[k]'(Nat.lt_trans hk h.1) ≠ 64 := fun e =>
 (Lib.indexByte_some h.2).2 k hk (by rw [qlg_ s k (Nat.lt_trans hk h.1), e])
theorem byte_ne (c d : UInt8) (h : c ≠ d) : ((c.toNat : Int) == (d.toNat : Int)) = false := by
 rw [beq_eq_false_iff_ne]; intro e; exact h (UInt8.toNat.inj (by omega))
theorem lite_none (s : ByteArray) (w : World) (h : NoCut s) :
  Calls Tryz.prog 186 #[.string s, .string ⟨#[64]⟩] w fun e w' => e = .returned (.tuple #[.string s, .string ByteArray.empty, .bool false]) /\ w = w' := by
 have C := Lib.hid (Go.Proofs.Tryz.stringslite_Index_one s 64 w)
 rw [h] at C
 clear h
 go_enter Tryz.func186, Tryz.ntmps186
 go_wp2_with (go_at_call 194; refine C.out.mono ?_; rintro e w' ⟨rfl, rfl⟩)
 go_ret3
 exact ⟨rfl, rfl⟩
theorem lite_some (s : ByteArray) (i : Nat) (w : World) (h : CutAt s i) (hs : s.size <= 140737488351232) :
  Calls Tryz.prog 186 #[.string s, .string ⟨#[64]⟩] w fun e w' => e = .returned (.tuple #[.string (s.extract 0 i), .string (s.extract (i + 1) s.size), .bool true]) /\ w' = w.drewN 1 := by
 have C := Lib.hid (Go.Proofs.Tryz.stringslite_Index_one s 64 w)
 have hi := h.1
 rw [h.2] at C
 clear h
 have c1 : (0 : Int) <= ↑i := by omega
 have c2 : (↑i : Int) <= ↑s.size := by omega
 have c3 : (0 : Int) <= ↑i + 1 := by omega
 have c4 : (↑i + 1 : Int) <= ↑s.size := by omega
 have e1 : IntKind.i64.wrap ((i : Int) + 1) = (i : Int) + 1 := IntWalk.i64_in _ (by omega)
 have e2 : ((i : Int) + 1).toNat = i + 1 := by omega
 go_enter Tryz.func186, Tryz.ntmps186
 go_wp2_with (go_at_call 194; refine C.out.mono ?_; rintro e w' ⟨rfl, rfl⟩)
 go_region
 go_wp2
 go_ret3
 exact ⟨rfl, rfl⟩
theorem cut_none (s : ByteArray) (w : World) (h : NoCut s) :
  Calls Tryz.prog 167 #[.string s, .string ⟨#[64]⟩] w fun e w' => e = .returned (.tuple #[.string s, .string ByteArray.empty, .bool false]) /\ w = w' := by
 have C := Lib.hid (lite_none s w h)
 clear h
 go_enter Tryz.func167, Tryz.ntmps167
 go_wp2_with (go_at_call 186; refine C.out.mono ?_; rintro e w' ⟨rfl, rfl⟩)
 go_ret3
 exact ⟨rfl, rfl⟩
theorem cut_some (s : ByteArray) (i : Nat) (w : World) (h : CutAt s i) (hs : s.size <= 140737488351232) :
  Calls Tryz.prog 167 #[.string s, .string ⟨#[64]⟩] w fun e w' => e = .returned (.tuple #[.string (s.extract 0 i), .string (s.extract (i + 1) s.size), .bool true]) /\ w' = w.drewN 1 := by
 have C := Lib.hid (lite_some s i w h hs)
 clear h
 go_enter Tryz.func167, Tryz.ntmps167
 go_wp2_with (go_at_call 186; refine C.out.mono ?_; rintro e w' ⟨rfl, rfl⟩)
 go_ret3
 exact ⟨rfl, rfl⟩
def qbk_ : List UInt8 := [44, 46, 95, 43, 45]
def qb8_ : List UInt8 := [44, 46, 95, 43, 45, 63, 35]
def qm4_ (l : List UInt8) : Bool := letB (l.getD 0 0).toNat || decide ((l.getD 0 0).toNat = 95)
def baseB (l : List UInt8) : Bool := madeB qbk_ l && qm4_ l
theorem qj8_ (s : ByteArray) (h : 0 < s.size) : s.data.toList.getD 0 0 = s[0] := by
 rw [List.getD, qlg_ s 0 h]; rfl
theorem made_pos {m l : List UInt8} (h : madeB m l = true) : 0 < l.length := by
 unfold madeB at h
 rw [Bool.and_eq_true, Bool.and_eq_true, decide_eq_true_eq] at h
 omega
theorem qom_ (s : ByteArray) (w : World) (hs : s.size <= 140737488351232) (r : Bool) (hr : r = baseB s.data.toList) :
  Calls Tryz.prog 168 #[.string s] w fun e w' => e = .returned (.bool r) /\ w = w' := by
 cases hm : madeB qbk_ s.data.toList
 ·obtain rfl : r = false := by rw [hr, baseB, hm]; rfl
  have C := Lib.hid (qhs_ s ⟨#[44, 46, 95, 43, 45]⟩ w hs false hm.symm)
  clear hr hm
  go_enter Tryz.func168, Tryz.ntmps168
  go_wp2_with (go_at_call 169; refine C.out.mono ?_; rintro e w' ⟨rfl, rfl⟩)
  go_ret
  exact ⟨rfl, rfl⟩
 ·have C := Lib.hid (qhs_ s ⟨#[44, 46, 95, 43, 45]⟩ w hs true hm.symm)
  have h0 : 0 < s.size := made_pos hm
  have hf := qj8_ s h0
  have hb := qgh_ s[0]
  cases hl : letB (s[0].toNat : Int)
  ·have HE : r = ((s[0].toNat : Int) == 95) := by
    rw [hr, baseB, hm, qm4_, hf, hl, Bool.true_and, Bool.false_or, Bool.eq_iff_iff]; simp; omega
   have C2 := Lib.hid (qcs_ s[0].toNat w hb false hl.symm)
   have HR := Lib.hid HE
   clear hr hm hf HE hl
   go_enter Tryz.func168, Tryz.ntmps168
   go_wp2_with (first | (go_at_call 169; refine C.out.mono ?_; rintro e w' ⟨rfl, rfl⟩) | (go_at_call 187; refine C2.out.mono ?_; rintro e w' ⟨rfl, rfl⟩))
   go_ret
   exact ⟨congrArg (fun b => Ending.returned (.bool b)) HR.out.symm, rfl⟩
  ·obtain rfl : r = true := by rw [hr, baseB, hm, qm4_, hf, hl]; rfl
   have C2 := Lib.hid (qcs_ s[0].toNat w hb true hl.symm)
   clear hr hm hf hl
   go_enter Tryz.func168, Tryz.ntmps168
   go_wp2_with (first | (go_at_call 169; refine C.out.mono ?_; rintro e w' ⟨rfl, rfl⟩) | (go_at_call 187; refine C2.out.mono ?_; rintro e w' ⟨rfl, rfl⟩))
   go_ret
   exact ⟨rfl, rfl⟩
theorem node_none (s : ByteArray) (w : World) (h : NoCut s) (hs : s.size <= 140737488351232) (r : Bool) (hr : r = baseB s.data.toList) :
  Calls Tryz.prog 133 #[.string s] w fun e w' => e = .returned (.bool r) /\ w = w' := by
 have C := Lib.hid (cut_none s w h)
 have C2 := Lib.hid (qom_ s w hs r hr)
 clear h hr
 go_enter Tryz.func133, Tryz.ntmps133
 cases r
 all_goals
  go_wp2_with (first | (go_at_call 167; refine C.out.mono ?_; rintro e w' ⟨rfl, rfl⟩) | (go_at_call 168; refine C2.out.mono ?_; rintro e w' ⟨rfl, rfl⟩))
  go_ret
  exact ⟨rfl, rfl⟩
theorem node_some (s : ByteArray) (i : Nat) (w : World) (h : CutAt s i) (hs : s.size <= 140737488351232) (r1 r2 : Bool) (hr1 : r1 = baseB (s.extract 0 i).data.toList) (hr2 : r2 = madeB qbk_ (s.extract (i + 1) s.size).data.toList) :
  Calls Tryz.prog 133 #[.string s] w fun e w' => e = .returned (.bool (r1 && r2)) /\ w' = w.drewN 1 := by
 have C := Lib.hid (cut_some s i w h hs)
 have C2 := Lib.hid (qom_ (s.extract 0 i) (w.drewN 1) (by rw [ByteArray.size_extract]; omega) r1 hr1)
 have C3 := Lib.hid (qhs_ (s.extract (i + 1) s.size) ⟨#[44, 46, 95, 43, 45]⟩ (w.drewN 1) (by rw [ByteArray.size_extract]; omega) r2 hr2)
 clear h hr1 hr2
 go_enter Tryz.func133, Tryz.ntmps133
 cases r1
 all_goals
  go_wp2_with (first | (go_at_call 167; refine C.out.mono ?_; rintro e w' ⟨rfl, rfl⟩) | (go_at_call 168; refine C2.out.mono ?_; rintro e w' ⟨rfl, rfl⟩) | (go_at_call 169; refine C3.out.mono ?_; rintro e w' ⟨rfl, rfl⟩))
  go_ret
  exact ⟨rfl, rfl⟩
theorem qcc_ (c : Int) (w : World) (h : 0 <= c /\ c <= 255) (r : Bool) (hr : r = stB c) :
  Calls Tryz.prog 55 #[.int .u8 c] w fun e w' => e = .returned (.bool r) /\ w = w' := by
 have HR := Lib.hid hr
 clear hr
 go_enter Tryz.func55, Tryz.ntmps55
 go_wp2
 all_goals
  go_ret
  refine ⟨congrArg (fun b => Ending.returned (.bool b)) ?_, rfl⟩
  rw [HR.out, Bool.eq_iff_iff]
  simp only [stB, letB, digB, markB, Bool.or_eq_true, Bool.and_eq_true, decide_eq_true_eq, beq_iff_eq]
  try simp
  try omega
theorem qoi_ : ∀ n : Fin 256, okM qbk_ (UInt8.ofNat n.val) = stB n.val := by decide
theorem node_ok (c : UInt8) : okM qbk_ c = stB c.toNat := by
 have h := qoi_ ⟨c.toNat, c.toNat_lt⟩
 simpa using h
def stP (c : Int) : Bool := stB c || decide (c = 63) || decide (c = 35)
theorem qmp_ : ∀ n : Fin 256, okM qb8_ (UInt8.ofNat n.val) = stP n.val := by decide
theorem prop_ok (c : UInt8) : okM qb8_ c = stP c.toNat := by
 have h := qmp_ ⟨c.toNat, c.toNat_lt⟩
 simpa using h
theorem qi6_ (s : ByteArray) (w : World) (hs : s.size <= 140737488351232) (r : Int) (hr : r = Lib.indexByte s.data.toList 64) :
  Calls Tryz.prog 54 #[.string s] w fun e w' => e = .returned (.int .i64 r) /\ w = w' := by
 rcases qf5_ s with h | ⟨i, h⟩
 ·obtain rfl : r = -1 := hr.trans h
  have H := Lib.hid h
  clear hr h
  go_enter Tryz.func54, Tryz.ntmps54
  go_wp2
  go_loop [6] (fun i => ∃ k : Nat, k <= s.size /\ i = .int .i64 k) (fun i => s.size - (intOf i).toNat)
  case atStart => exact ⟨0, Nat.zero_le _, rfl⟩
  case round =>
   obtain ⟨k, hk, rfl⟩ := hrel
   by_cases hlt : k < s.size
   ·have hne : ((s[k].toNat : Int) == 64) = false := byte_ne s[k] 64 (H.out.ne k hlt)
    go_wp2
    go_round
    case rel => exact ⟨k + 1, by omega, by go_num⟩
    case measure => simp [intOf]; omega
   ·go_wp2
    go_ret
    exact ⟨rfl, rfl⟩
 ·obtain rfl : r = (i : Int) := hr.trans h.2
  have H := Lib.hid h
  have hi := h.1
  clear hr h
  go_enter Tryz.func54, Tryz.ntmps54
  go_wp2
  go_loop [6] (fun x => ∃ k : Nat, k <= i /\ x = .int .i64 k) (fun i => s.size - (intOf i).toNat)
  case atStart => exact ⟨0, Nat.zero_le _, rfl⟩
  case round =>
   obtain ⟨k, hk, rfl⟩ := hrel
   have hlt : k < s.size := by omega
   by_cases hki : k < i
   ·have hne : ((s[k].toNat : Int) == 64) = false := byte_ne s[k] 64 (H.out.ne k hki)
    go_wp2
    go_round
    case rel => exact ⟨k + 1, by omega, by go_num⟩
    case measure => simp [intOf]; omega
   ·obtain rfl : k = i := by omega
    have heq : ((s[k].toNat : Int) == 64) = true := by rw [H.out.at_]; rfl
    go_wp2
    go_ret
    exact ⟨rfl, rfl⟩
theorem qmj_ (s : ByteArray) (w : World) (hs : s.size <= 140737488351232) (r : Bool) (hr : r = madeB qb8_ s.data.toList) :
  Calls Tryz.prog 27 #[.string s] w fun e w' => e = .returned (.bool r) /\ w = w' := by
 have HR := Lib.hid hr
 clear hr
 have L := Lib.hid (qhh_ s)
 go_enter Tryz.func27, Tryz.ntmps27
 go_wp2
 go_loop [6] (fun i => ∃ k : Nat, k <= s.size /\ i = .int .i64 k /\ ∀ j (hj : j < s.size), j < k -> okM qb8_ s[j] = true) (fun i => s.size - (intOf i).toNat)
 case atStart => exact ⟨0, Nat.zero_le _, rfl, fun _ _ h => absurd h (by omega)⟩
 case round =>
  obtain ⟨k, hk, rfl, hall⟩ := hrel
  have HA := Lib.hid hall
  clear hall
  by_cases hlt : k < s.size
  ·have hb := qgh_ s[k]
   have fine : okM qb8_ s[k] = true -> Hid (∀ j (hj : j < s.size), j < k + 1 -> okM qb8_ s[j] = true) := fun h j hj hjk => by
    by_cases e : j = k
    ·subst e; exact h
    ·exact HA.out j hj (by omega)
   have bad : okM qb8_ s[k] = false -> r = false := fun h => by
    rw [HR.out]; unfold madeB; rw [qnu_ s _ k hlt h, Bool.and_false]
   rw [prop_ok] at fine bad
   cases hl : stB (s[k].toNat : Int)
   ·by_cases h1 : (s[k].toNat : Int) = 63 \/ (s[k].toNat : Int) = 35
    ·have HF := fine (by unfold stP; rw [hl]; rcases h1 with h | h <;> rw [h] <;> rfl)
     have C1 := Lib.hid (qcc_ s[k].toNat w hb false hl.symm)
     have t1 : ((s[k].toNat : Int) == 63) = false -> ((s[k].toNat : Int) == 35) = true := fun h => by
      rw [beq_eq_false_iff_ne] at h; rw [beq_iff_eq]; exact h1.resolve_left h
     clear fine bad hl h1
     cases e1 : ((s[k].toNat : Int) == 63)
     ·have e2 := t1 e1
      have e3 : ((s[k].toNat : Int) != 63) = true := by rw [bne, e1]; rfl
      have e4 : ((s[k].toNat : Int) != 35) = false := by rw [bne, e2]; rfl
      clear t1
      go_wp2_with (go_at_call 55; refine C1.out.mono ?_; rintro e w' ⟨rfl, rfl⟩)
      go_round
      case rel => exact ⟨k + 1, by omega, by go_num, HF⟩
      case measure => simp [intOf]; omega
     ·have e3 : ((s[k].toNat : Int) != 63) = false := by rw [bne, e1]; rfl
      clear t1
      go_wp2_with (go_at_call 55; refine C1.out.mono ?_; rintro e w' ⟨rfl, rfl⟩)
      go_round
      case rel => exact ⟨k + 1, by omega, by go_num, HF⟩
      case measure => simp [intOf]; omega
    ·obtain rfl := bad (by unfold stP; rw [hl, decide_eq_false (by omega), decide_eq_false (by omega)]; rfl)
     have C1 := Lib.hid (qcc_ s[k].toNat w hb false hl.symm)
     have e1 : ((s[k].toNat : Int) == 63) = false := by rw [beq_eq_false_iff_ne]; omega
     have e2 : ((s[k].toNat : Int) == 35) = false := by rw [beq_eq_false_iff_ne]; omega
     have e3 : ((s[k].toNat : Int) != 63) = true := by rw [bne, e1]; rfl
     have e4 : ((s[k].toNat : Int) != 35) = true := by rw [bne, e2]; rfl
     clear fine bad hl h1
     go_wp2_with (go_at_call 55; refine C1.out.mono ?_; rintro e w' ⟨rfl, rfl⟩)
     go_ret
     exact ⟨rfl, rfl⟩
   ·have HF := fine (by unfold stP; rw [hl]; rfl)
    have C1 := Lib.hid (qcc_ s[k].toNat w hb true hl.symm)
    clear fine bad hl
    go_wp2_with (go_at_call 55; refine C1.out.mono ?_; rintro e w' ⟨rfl, rfl⟩)
    go_round
    case rel => exact ⟨k + 1, by omega, by go_num, HF⟩
    case measure => simp [intOf]; omega
  ·have HT : r = (decide (1 <= s.size) && decide (s.size <= 31)) := by
    rw [HR.out]; unfold madeB
    rw [L.out, all_at s _ (fun j hj => HA.out j hj (by omega)), Bool.and_true]
   by_cases h1 : 1 <= s.size
   ·by_cases h2 : s.size <= 31
    ·obtain rfl : r = true := by rw [HT, decide_eq_true h1, decide_eq_true h2]; rfl
     clear HT
     go_wp2
     go_ret
     exact ⟨congrArg (fun b => Ending.returned (.bool b)) (decide_eq_true (p := (s.size : Int) <= 31) (by omega)), rfl⟩
    ·obtain rfl : r = false := by rw [HT, decide_eq_true h1, decide_eq_false h2]; rfl
     clear HT
     go_wp2
     go_ret
     exact ⟨congrArg (fun b => Ending.returned (.bool b)) (decide_eq_false (p := (s.size : Int) <= 31) (by omega)), rfl⟩
   ·obtain rfl : r = false := by rw [HT, decide_eq_false h1]; rfl
    clear HT
    go_wp2
    go_ret
    exact ⟨rfl, rfl⟩
def AllBut (s : ByteArray) (i : Int) (k : Nat) : Prop := ∀ j (hj : j < s.size), j < k -> (j : Int) ≠ i -> stB s[j].toNat = true
theorem AllBut.zero (s : ByteArray) (i : Int) : AllBut s i 0 := fun _ _ h => absurd h (by omega)
theorem AllBut.succ {s : ByteArray} {i : Int} {k : Nat} (h : AllBut s i k) (hk : k < s.size) (h1 : (k : Int) ≠ i -> stB s[k].toNat = true) : AllBut s i (k + 1) := fun j hj hjk hne => by
 by_cases e : j = k
 ·subst e; exact h1 hne
 ·exact h j hj (by omega) hne
theorem qh2_ (s : ByteArray) (h1 : 1 <= s.size) (h2 : s.size <= 31) (h : ∀ j (hj : j < s.size), stB s[j].toNat = true) : madeB qbk_ s.data.toList = true := by
 unfold madeB
 rw [qhh_, decide_eq_true h1, decide_eq_true h2, all_at s _ (fun j hj => by rw [node_ok]; exact h j hj)]; rfl
theorem qfw_ (s : ByteArray) (h : ¬ (1 <= s.size /\ s.size <= 31)) : madeB qbk_ s.data.toList = false := by
 unfold madeB
 rw [qhh_]
 by_cases h1 : 1 <= s.size
 ·rw [decide_eq_false (p := s.size <= 31) (by omega), Bool.and_false]; rfl
 ·rw [decide_eq_false h1]; rfl
theorem qj2_ (s : ByteArray) (j : Nat) (hj : j < s.size) (h : stB s[j].toNat = false) : madeB qbk_ s.data.toList = false := by
 unfold madeB
 rw [qnu_ s _ j hj (by rw [node_ok]; exact h), Bool.and_false]
theorem qkn_ (s : ByteArray) (w : World) (h : NoCut s) (hs : s.size <= 140737488351232) (r : Bool) (hr : r = baseB s.data.toList) :
  Calls Tryz.prog 26 #[.string s] w fun e w' => e = .returned (.bool r) /\ w = w' := by
 have HR := Lib.hid hr
 have C := Lib.hid (qi6_ s w hs (-1) h.symm)
 clear hr h
 go_enter Tryz.func26, Tryz.ntmps26
 go_wp2_with (go_at_call 54; refine C.out.mono ?_; rintro e w' ⟨rfl, rfl⟩)
 go_loop [30] (fun i => ∃ k : Nat, k <= s.size /\ i = .int .i64 k /\ AllBut s (-1) k) (fun i => s.size - (intOf i).toNat)
 case atStart => exact ⟨0, Nat.zero_le _, rfl, AllBut.zero _ _⟩
 case round =>
  obtain ⟨k, hk, rfl, hall⟩ := hrel
  have HA := Lib.hid hall
  clear hall
  by_cases hlt : k < s.size
  ·have hb := qgh_ s[k]
   have hk1 : ((k : Int) == -1) = false := by rw [beq_eq_false_iff_ne]; omega
   have hk2 : ((k : Int) != -1) = true := by rw [bne, hk1]; rfl
   cases hl : stB (s[k].toNat : Int)
   ·obtain rfl : r = false := by rw [HR.out, baseB, qj2_ s k hlt hl]; rfl
    have C1 := Lib.hid (qcc_ s[k].toNat w hb false hl.symm)
    clear hl
    go_wp2_with (go_at_call 55; refine C1.out.mono ?_; rintro e w' ⟨rfl, rfl⟩)
    go_ret
    exact ⟨rfl, rfl⟩
   ·have HF := Lib.hid (HA.out.succ hlt (fun _ => hl))
    have C1 := Lib.hid (qcc_ s[k].toNat w hb true hl.symm)
    clear hl
    go_wp2_with (go_at_call 55; refine C1.out.mono ?_; rintro e w' ⟨rfl, rfl⟩)
    go_round
    case rel => exact ⟨k + 1, by omega, by go_num, HF⟩
    case measure => simp [intOf]; omega
  ·by_cases h1 : 1 <= s.size
   ·by_cases h2 : s.size <= 31
    ·have hm := qh2_ s h1 h2 (fun j hj => HA.out j hj (by omega) (by omega))
     have hf := qj8_ s (by omega)
     have HT : Hid (r = (letB s[0].toNat || decide (s[0].toNat = 95))) := by rw [HR.out, baseB, hm, Bool.true_and, qm4_, hf]; rfl
     have hb := qgh_ s[0]
     clear hm hf
     go_wp2
     all_goals
      go_ret
      refine ⟨congrArg (fun b => Ending.returned (.bool b)) ?_, rfl⟩
      rw [HT.out, Bool.eq_iff_iff]
      simp only [letB, Bool.or_eq_true, Bool.and_eq_true, decide_eq_true_eq, beq_iff_eq]
      try simp
      try omega
    ·obtain rfl : r = false := by rw [HR.out, baseB, qfw_ s (by omega)]; rfl
     go_wp2
     go_ret
     exact ⟨rfl, rfl⟩
   ·obtain rfl : r = false := by rw [HR.out, baseB, qfw_ s (by omega)]; rfl
    go_wp2
    go_ret
    exact ⟨rfl, rfl⟩
theorem qhu_ (s : ByteArray) (a b : Nat) (h : b <= s.size) : (s.extract a b).size = b - a := by rw [ByteArray.size_extract]; omega
theorem head_at (s : ByteArray) (i j : Nat) (h : i <= s.size) (hj : j < i) : (s.extract 0 i)[j]'(by rw [qhu_ _ _ _ h]; omega) = s[j] := by
 rw [ByteArray.getElem_extract]; simp only [Nat.zero_add]
theorem tail_at (s : ByteArray) (i j : Nat) (hj : j < (s.extract (i + 1) s.size).size) : (s.extract (i + 1) s.size)[j] = s[i + 1 + j]'(by rw [qhu_ _ _ _ (Nat.le_refl _)] at hj; omega) :=
 ByteArray.getElem_extract hj
theorem qjn_ (s : ByteArray) (i : Nat) (w : World) (h : CutAt s i) (hs : s.size <= 140737488351232) (r : Bool) (hr : r = (baseB (s.extract 0 i).data.toList && madeB qbk_ (s.extract (i + 1) s.size).data.toList)) :
  Calls Tryz.prog 26 #[.string s] w fun e w' => e = .returned (.bool r) /\ w = w' := by
 have HR := Lib.hid hr
 have C := Lib.hid (qi6_ s w hs i h.2.symm)
 have hi := h.1
 have S1 := Lib.hid (qhu_ s 0 i (by omega))
 have S2 := Lib.hid (qhu_ s (i + 1) s.size (Nat.le_refl _))
 clear hr h
 by_cases hu : 1 <= s.size - (i + 1) /\ s.size - (i + 1) <= 31
 ·obtain ⟨hu1, hu2⟩ := hu
  have v1 : ¬ ((s.size : Int) - (i : Int) - 1 < 1) := by omega
  have v2 : ¬ (31 < (s.size : Int) - (i : Int) - 1) := by omega
  go_enter Tryz.func26, Tryz.ntmps26
  go_wp2_with (go_at_call 54; refine C.out.mono ?_; rintro e w' ⟨rfl, rfl⟩)
  go_loop [30] (fun x => ∃ k : Nat, k <= s.size /\ x = .int .i64 k /\ AllBut s i k) (fun i => s.size - (intOf i).toNat)
  case atStart => exact ⟨0, Nat.zero_le _, rfl, AllBut.zero _ _⟩
  case round =>
   obtain ⟨k, hk, rfl, hall⟩ := hrel
   have HA := Lib.hid hall
   clear hall
   by_cases hlt : k < s.size
   ·have hb := qgh_ s[k]
    by_cases hki : k = i
    ·have HF := Lib.hid (HA.out.succ hlt (fun hne => absurd (by rw [hki]) hne))
     have hk1 : ((k : Int) == (i : Int)) = true := by rw [beq_iff_eq]; omega
     have hk2 : ((k : Int) != (i : Int)) = false := by rw [bne, hk1]; rfl
     clear hki
     go_wp2
     go_round
     case rel => exact ⟨k + 1, by omega, by go_num, HF⟩
     case measure => simp [intOf]; omega
    ·have hk1 : ((k : Int) == (i : Int)) = false := by rw [beq_eq_false_iff_ne]; omega
     have hk2 : ((k : Int) != (i : Int)) = true := by rw [bne, hk1]; rfl
     cases hl : stB (s[k].toNat : Int)
     ·have HT : r = false := by
       rw [HR.out]
       rcases Nat.lt_or_ge k i with hc | hc
       ·rw [baseB, qj2_ (s.extract 0 i) k (by rw [S1.out]; omega) (by rw [head_at s i k (by omega) hc]; exact hl)]; rfl
       ·rw [qj2_ (s.extract (i + 1) s.size) (k - (i + 1)) (by rw [S2.out]; omega) (by rw [tail_at]; simp only [show i + 1 + (k - (i + 1)) = k from by omega]; exact hl), Bool.and_false]
      obtain rfl := HT
      have C1 := Lib.hid (qcc_ s[k].toNat w hb false hl.symm)
      clear hl
      go_wp2_with (go_at_call 55; refine C1.out.mono ?_; rintro e w' ⟨rfl, rfl⟩)
      go_ret
      exact ⟨rfl, rfl⟩
     ·have HF := Lib.hid (HA.out.succ hlt (fun _ => hl))
      have C1 := Lib.hid (qcc_ s[k].toNat w hb true hl.symm)
      clear hl
      go_wp2_with (go_at_call 55; refine C1.out.mono ?_; rintro e w' ⟨rfl, rfl⟩)
      go_round
      case rel => exact ⟨k + 1, by omega, by go_num, HF⟩
      case measure => simp [intOf]; omega
   ·have hm2 : madeB qbk_ (s.extract (i + 1) s.size).data.toList = true := qh2_ _ (by rw [S2.out]; omega) (by rw [S2.out]; omega) (fun j hj => by rw [tail_at]; exact HA.out _ _ (by have := hj; rw [S2.out] at this; omega) (by omega))
    by_cases h1 : 1 <= i
    ·by_cases h2 : i <= 31
     ·have hm := qh2_ (s.extract 0 i) (by rw [S1.out]; omega) (by rw [S1.out]; omega) (fun j hj => by
       have hji : j < i := by rw [S1.out] at hj; omega
       rw [head_at s i j (by omega) hji]; exact HA.out j _ (by omega) (by omega))
      have h0 : 0 < (s.extract 0 i).size := by rw [S1.out]; omega
      have hf := qj8_ (s.extract 0 i) h0
      have HT : Hid (r = (letB (s.extract 0 i)[0].toNat || decide ((s.extract 0 i)[0].toNat = 95))) := by rw [HR.out, baseB, hm, hm2, Bool.true_and, Bool.and_true, qm4_, hf]; rfl
      have hb := qgh_ (s.extract 0 i)[0]
      clear hm hm2 hf
      go_wp2
      all_goals
       go_ret
       refine ⟨congrArg (fun b => Ending.returned (.bool b)) ?_, rfl⟩
       rw [HT.out, Bool.eq_iff_iff]
       simp only [letB, Bool.or_eq_true, Bool.and_eq_true, decide_eq_true_eq, beq_iff_eq]
       try simp
       try omega
     ·obtain rfl : r = false := by rw [HR.out, baseB, qfw_ (s.extract 0 i) (by rw [S1.out]; omega)]; rfl
      clear hm2
      go_wp2
      go_ret
      exact ⟨rfl, rfl⟩
    ·obtain rfl : r = false := by rw [HR.out, baseB, qfw_ (s.extract 0 i) (by rw [S1.out]; omega)]; rfl
     clear hm2
     go_wp2
     go_ret
     exact ⟨rfl, rfl⟩
 ·obtain rfl : r = false := by rw [HR.out, qfw_ (s.extract (i + 1) s.size) (by rw [S2.out]; exact hu), Bool.and_false]
  by_cases hu1 : (s.size : Int) - (i : Int) - 1 < 1
  ·clear hu
   go_enter Tryz.func26, Tryz.ntmps26
   go_wp2_with (go_at_call 54; refine C.out.mono ?_; rintro e w' ⟨rfl, rfl⟩)
   go_ret
   exact ⟨rfl, rfl⟩
  ·have hu2 : 31 < (s.size : Int) - (i : Int) - 1 := by omega
   clear hu
   go_enter Tryz.func26, Tryz.ntmps26
   go_wp2_with (go_at_call 54; refine C.out.mono ?_; rintro e w' ⟨rfl, rfl⟩)
   go_ret
   exact ⟨rfl, rfl⟩
theorem prop_any (s : ByteArray) (w : World) (hs : s.size <= 140737488351232) (r : Bool) (hr : r = madeB qb8_ s.data.toList) :
  Calls Tryz.prog 135 #[.string s] w fun e w' => e = .returned (.bool r) /\ w = w' := by
 have C := Lib.hid (qhs_ s ⟨#[44, 46, 95, 43, 45, 63, 35]⟩ w hs r hr)
 clear hr
 go_enter Tryz.func135, Tryz.ntmps135
 go_wp2_with (go_at_call 169; refine C.out.mono ?_; rintro e w' ⟨rfl, rfl⟩)
 go_ret
 exact ⟨rfl, rfl⟩
theorem qlx_ (w : World) (n : Nat) : Below w.heap.size w (w.drewN n) := ⟨rfl, rfl, rfl, Nat.le_refl _, fun _ _ => rfl⟩
def nodeB (s : ByteArray) : Bool :=
 if Lib.indexByte s.data.toList 64 = -1 then baseB s.data.toList
 else baseB (s.extract 0 (Lib.indexByte s.data.toList 64).toNat).data.toList && madeB qbk_ (s.extract ((Lib.indexByte s.data.toList 64).toNat + 1) s.size).data.toList
theorem qi9_ {s : ByteArray} (h : NoCut s) : nodeB s = baseB s.data.toList := if_pos h
theorem qib_ {s : ByteArray} {i : Nat} (h : CutAt s i) : nodeB s = (baseB (s.extract 0 i).data.toList && madeB qbk_ (s.extract (i + 1) s.size).data.toList) := by
 have e : (Lib.indexByte s.data.toList 64).toNat = i := by rw [h.2]; rfl
 rw [nodeB, if_neg (by rw [h.2]; omega), e]
def propB (s : ByteArray) : Bool := madeB qb8_ s.data.toList
theorem nodeB_any (s : ByteArray) (w : World) (hs : s.size <= 140737488351232) (r : Bool) (hr : nodeB s = r) : Calls Tryz.prog 133 #[.string s] w fun e w' => e = .returned (.bool r) /\ Below w.heap.size w w' := by
 subst hr
 rcases qf5_ s with h | ⟨i, h⟩
 ·refine (node_none s w h hs _ rfl).mono fun e w' ⟨h1, h2⟩ => ⟨by rw [h1, qi9_ h], ?_⟩
  subst h2
  exact Below.refl _ _
 ·refine (node_some s i w h hs _ _ rfl rfl).mono fun e w' ⟨h1, h2⟩ => ⟨by rw [h1, qib_ h], ?_⟩
  subst h2
  exact qlx_ w 1
theorem qjr_ (s : ByteArray) (w : World) (hs : s.size <= 140737488351232) (r : Bool) (hr : nodeB s = r) : Calls Tryz.prog 26 #[.string s] w fun e w' => e = .returned (.bool r) /\ w = w' := by
 subst hr
 rcases qf5_ s with h | ⟨i, h⟩
 ·exact qkn_ s w h hs _ (qi9_ h)
 ·exact qjn_ s i w h hs _ (qib_ h)
theorem propB_any (s : ByteArray) (w : World) (hs : s.size <= 140737488351232) (r : Bool) (hr : propB s = r) : Calls Tryz.prog 135 #[.string s] w fun e w' => e = .returned (.bool r) /\ w = w' := prop_any s w hs r hr.symm
theorem qfu_ (s : ByteArray) (w : World) (hs : s.size <= 140737488351232) (r : Bool) (hr : propB s = r) : Calls Tryz.prog 27 #[.string s] w fun e w' => e = .returned (.bool r) /\ w = w' := qmj_ s w hs r hr.symm
def misP (p : PV) : Bool := !propB p.name
noncomputable def qgg_ (n : Nd) (d : Int) : Bool := if d = 1 then n.name.toList.isEmpty else nodeB n.name
noncomputable def qey_ (n : Nd) (d : Int) : Int :=
 if 16 < d then 6 else if qgg_ n d = false then 5 else if n.props.any misP = true then 5 else if qb0_ (n.props.map PV.name) = true then 9 else if qb0_ (n.kids.map Nd.name) = true then 9 else 0
theorem isMis_any (p : PV) (B : Nat) (w : World) (hp : p.In w B) (q : Bool) (hq : misP p = q) :
  Calls Tryz.prog 95 #[.agg #[.string p.name, p.val]] w fun e w' => e = .returned (.bool q) /\ Below w.heap.size w w' := by
 have C := Lib.hid (fun w => propB_any p.name w hp.1.1 (!q) (by rw [<- hq, misP, Bool.not_not]))
 clear hp hq
 obtain ⟨x, a, c, zs⟩ := p
 replace C : Hid (∀ w, Calls Tryz.prog 135 #[.string x] w _) := C
 show Calls _ _ #[.agg #[.string x, .slice a zs.length c]] _ _
 go_enter Tryz.func95, Tryz.ntmps95
 go_wp2_with fail
 refine (C.out _).mono ?_
 rintro e w' ⟨rfl, rfl⟩
 go_wp2
 go_ret
 exact ⟨by simp, (Below.refl _ _).alloc (Nat.le_refl _) _⟩
def Good {α : Type} (f : α -> Bool) (l : List α) (k : Nat) : Prop := ∀ j (hj : j < l.length), j < k -> f l[j] = false
theorem Good.zero {α : Type} (f : α -> Bool) (l : List α) : Good f l 0 := fun _ _ h => absurd h (Nat.not_lt_zero _)
theorem Good.succ {α : Type} {f : α -> Bool} {l : List α} {k : Nat} (h : Good f l k) (hk : k < l.length) (he : f l[k] = false) : Good f l (k + 1) := fun j hj hlt => by
 rcases Nat.lt_succ_iff_lt_or_eq.1 hlt with h' | rfl
 ·exact h j hj h'
 ·exact he
theorem Good.all {α : Type} {f : α -> Bool} {l : List α} {k : Nat} (h : Good f l k) (hk : ¬ k < l.length) : l.any f = false := by
 rw [List.any_eq_false]
 intro x hx
 obtain ⟨i, hi, rfl⟩ := List.getElem_of_mem hx
 rw [h i hi (by omega)]
 simp
theorem qoa_ {α : Type} {f : α -> Bool} {l : List α} {k : Nat} (hk : k < l.length) (he : f l[k] = true) : l.any f = true := List.any_eq_true.2 ⟨_, List.getElem_mem hk, he⟩
theorem qoh_ (n : Nd) (w : World) (hin : n.In w w.heap.size) (r : Bool) (hr : n.props.any misP = r) :
  Calls Tryz.prog 134 #[n.pv, .func (.func 95) #[] #[]] w fun e w' => (∃ i : Int, e = .returned (.int .i64 i) /\ decide (0 <= i) = r) /\ Below w.heap.size w w' := by
 obtain ⟨nm, pa, pc, ps, ka, kc, ks⟩ := n
 have HI := Lib.hid hin
 have HR := Lib.hid (show ps.any misP = r from hr)
 obtain ⟨hl, hm⟩ : ps.length <= pc /\ pc <= 9223372036854775807 := hin.plen
 clear hin hr
 show Calls _ _ #[.slice pa ps.length pc, _] _ _
 go_enter Tryz.func134, Tryz.ntmps134
 go_wp2_with fail
 go_loopw [8] (fun i wr => ∃ k : Nat, k <= ps.length /\ i = .int .i64 k /\ Good misP ps k /\ Below w.heap.size w wr) (fun i _ => ps.length - (intOf i).toNat)
 case atStart => exact ⟨0, Nat.zero_le _, rfl, Good.zero _ _, Below.refl _ _⟩
 case round =>
  obtain ⟨k, hk, rfl, hgood, hb⟩ := hrel
  have HA := Lib.hid hgood
  have HB := Lib.hid hb
  clear hgood hb
  by_cases hlt : k < ps.length
  ·obtain ⟨b, o, e, hb, c0, c1⟩ := (HI.out.under HB.out).pcell (i := k) hlt
   obtain rfl : pa = _ := e
   replace c0 : _ = some (Value.string ps[k].name) := c0
   replace c1 : _ = some (Value.slice ps[k].addr ps[k].zs.length ps[k].cap) := c1
   obtain ⟨q, hq⟩ : ∃ q, misP ps[k] = q := ⟨_, rfl⟩
   have C := Lib.hid (isMis_any ps[k] _ wr ((HI.out.prop (List.getElem_mem hlt)).keep (fun _ hp => HB.out.cell hp)) q hq)
   have HQ := Lib.hid hq
   clear hq
   cases q
   ·go_wp2_with fail
    refine C.out.mono ?_
    rintro e w' ⟨rfl, hb'⟩
    have HB2 := Lib.hid (HB.out.trans (hb'.mono HB.out.size))
    clear hb'
    go_wp2
    go_roundw
    case rel => exact ⟨k + 1, by omega, by go_num, HA.out.succ hlt HQ.out, HB2.out⟩
    case measure => simp [intOf]; omega
   ·obtain rfl : r = true := by rw [<- HR.out]; exact qoa_ hlt HQ.out
    go_wp2_with fail
    refine C.out.mono ?_
    rintro e w' ⟨rfl, hb'⟩
    have HB2 := Lib.hid (HB.out.trans (hb'.mono HB.out.size))
    clear hb'
    go_wp2
    go_ret
    exact ⟨⟨k, rfl, by simp⟩, HB2.out⟩
  ·obtain rfl : r = false := by rw [<- HR.out]; exact HA.out.all hlt
   go_wp2
   go_ret
   exact ⟨⟨-1, rfl, by simp⟩, HB.out⟩
theorem qgm_ (n : Nd) (w : World) (hin : n.In w w.heap.size) (r : Bool) (hr : n.props.any misP = r) :
  Calls Tryz.prog 94 #[n.pv, .func (.func 95) #[] #[]] w fun e w' => e = .returned (.bool r) /\ Below w.heap.size w w' := by
 have C := Lib.hid (qoh_ n w hin r hr)
 clear hin hr
 obtain ⟨nm, pa, pc, ps, ka, kc, ks⟩ := n
 show Calls _ _ #[.slice pa ps.length pc, _] _ _
 go_enter Tryz.func94, Tryz.ntmps94
 go_wp2_with fail
 refine C.out.mono ?_
 rintro e w' ⟨⟨i, rfl, hi⟩, hb⟩
 have HB := Lib.hid hb
 have HV := Lib.hid hi
 clear hb hi
 go_wp2
 go_ret
 exact ⟨congrArg (fun b => Ending.returned (.bool b)) HV.out, HB.out⟩
theorem mayBe_any (n : Nd) (d : Int) (w : World) (hin : n.In w w.heap.size) (r : Bool) (hr : qgg_ n d = r) :
  Calls Tryz.prog 93 #[n.val, .int .i64 d] w fun e w' => e = .returned (.bool r) /\ Below w.heap.size w w' := by
 have hs := hin.name_le.1
 obtain ⟨nm, pa, pc, ps, ka, kc, ks⟩ := n
 replace hs : nm.size <= 140737488351232 := hs
 clear hin
 show Calls _ _ #[.agg #[.string nm, .slice pa ps.length pc, .slice ka ks.length kc], .int .i64 d] _ _
 have HB := Lib.hid ((Below.refl w.heap.size w).alloc (Nat.le_refl _) (.cells #[Value.string nm, .slice pa ps.length pc, .slice ka ks.length kc] 27))
 by_cases hd : d = 1
 ·subst hd
  have hr' : nm.toList.isEmpty = r := by rw [<- hr, qgg_, if_pos rfl]; rfl
  have HR := Lib.hid hr'
  clear hr hr'
  go_enter Tryz.func93, Tryz.ntmps93
  go_wp2
  go_ret
  exact ⟨congrArg (fun b => Ending.returned (.bool b)) HR.out, HB.out⟩
 ·have hd1 : (d == 1) = false := by rw [beq_eq_false_iff_ne]; exact hd
  have C := Lib.hid (fun w => nodeB_any nm w hs r (by rw [<- hr, qgg_, if_neg hd]; rfl))
  clear hr hd
  go_enter Tryz.func93, Tryz.ntmps93
  go_wp2_with fail
  refine (C.out _).mono ?_
  rintro e w' ⟨rfl, hb⟩
  have HB2 := Lib.hid (HB.out.trans (hb.mono HB.out.size))
  clear hb
  go_wp2
  go_ret
  exact ⟨rfl, HB2.out⟩
theorem alone_any (n : Nd) (d : Int) (w : World) (hin : n.In w w.heap.size) (hd0 : 1 <= d) (hd1 : d <= 17) (E : Int) (hE : qey_ n d = E) :
  Calls Tryz.prog 61 #[n.val, .int .i64 d] w fun e w' => e = .returned (.int .i64 E) /\ Below w.heap.size w w' := by
 obtain ⟨r1, h1⟩ : ∃ r, qgg_ n d = r := ⟨_, rfl⟩
 obtain ⟨r2, h2⟩ : ∃ r, n.props.any misP = r := ⟨_, rfl⟩
 obtain ⟨r3, h3⟩ : ∃ r, qb0_ (n.props.map PV.name) = r := ⟨_, rfl⟩
 obtain ⟨r4, h4⟩ : ∃ r, qb0_ (n.kids.map Nd.name) = r := ⟨_, rfl⟩
 have HE : Hid ((if 16 < d then 6 else if r1 = false then 5 else if r2 = true then 5 else if r3 = true then 9 else if r4 = true then 9 else 0) = E) := by
  rw [<- hE, qey_, h1, h2, h3, h4]; exact rfl
 have HI := Lib.hid hin
 have C1 := Lib.hid (fun w h => mayBe_any n d w h r1 h1)
 have C2 := Lib.hid (fun w h => qgm_ n w h r2 h2)
 have C3 := Lib.hid (fun w h => qoz_ n w h r3 h3)
 have C4 := Lib.hid (fun w h => qo8_ n w h r4 h4)
 clear hE h1 h2 h3 h4 hin
 obtain ⟨nm, pa, pc, ps, ka, kc, ks⟩ := n
 show Calls _ _ #[.agg #[.string nm, .slice pa ps.length pc, .slice ka ks.length kc], .int .i64 d] _ _
 have HB := Lib.hid ((Below.refl w.heap.size w).alloc (Nat.le_refl _) (.cells #[Value.string nm, .slice pa ps.length pc, .slice ka ks.length kc] 27))
 have bx : ∀ (W : World), Below (w.heap.size + 1) (w.alloc (.cells #[Value.string nm, .slice pa ps.length pc, .slice ka ks.length kc] 27)) W -> W.cell? ⟨w.heap.size, 1, none⟩ = some (.slice pa ps.length pc) /\ W.cell? ⟨w.heap.size, 2, none⟩ = some (.slice ka ks.length kc) := fun W h =>
  ⟨(h.cell (Nat.lt_succ_self _)).trans (World.cell?_alloc_new _ _ _ _), (h.cell (Nat.lt_succ_self _)).trans (World.cell?_alloc_new _ _ _ _)⟩
 have BX := Lib.hid bx
 clear bx
 by_cases h16 : 16 < d
 ·obtain rfl : E = 6 := by rw [<- HE.out, if_pos h16]
  go_enter Tryz.func61, Tryz.ntmps61
  go_wp2
  go_ret
  exact ⟨rfl, HB.out⟩
 ·have h16' : ¬ (16 < d) := h16
  cases r1
  ·obtain rfl : E = 5 := by rw [<- HE.out, if_neg (show ¬ (16 < d) by omega), if_pos rfl]
   go_enter Tryz.func61, Tryz.ntmps61
   go_wp2_with fail
   refine (C1.out _ (HI.out.on HB.out)).mono ?_
   rintro e w1 ⟨rfl, hb⟩
   have HB1 := Lib.hid (HB.out.trans (hb.mono HB.out.size))
   clear hb
   go_wp2
   go_ret
   exact ⟨rfl, HB1.out⟩
  ·go_enter Tryz.func61, Tryz.ntmps61
   go_wp2_with fail
   refine (C1.out _ (HI.out.on HB.out)).mono ?_
   rintro e w1 ⟨rfl, hb⟩
   have HB1 := Lib.hid (HB.out.trans (hb.mono HB.out.size))
   have HX1 := Lib.hid (hb.mono (B' := w.heap.size + 1) (by simp))
   obtain ⟨b1, b2⟩ := BX.out _ HX1.out
   clear hb
   go_wp2_with fail
   refine (C2.out _ (HI.out.on HB1.out)).mono ?_
   rintro e w2 ⟨rfl, hb⟩
   have HB2 := Lib.hid (HB1.out.trans (hb.mono HB1.out.size))
   have HX2 := Lib.hid (HX1.out.trans (hb.mono (by have := HX1.out.size; simpa using this)))
   clear hb b1 b2
   obtain ⟨b1, b2⟩ := BX.out _ HX2.out
   cases r2
   ·go_wp2_with fail
    refine (C3.out _ (HI.out.on HB2.out)).mono ?_
    rintro e w3 ⟨rfl, hb⟩
    have HB3 := Lib.hid (HB2.out.trans (hb.mono HB2.out.size))
    have HX3 := Lib.hid (HX2.out.trans (hb.mono (by have := HX2.out.size; simpa using this)))
    clear hb b1 b2
    obtain ⟨b1, b2⟩ := BX.out _ HX3.out
    cases r3
    ·go_wp2_with fail
     refine (C4.out _ (HI.out.on HB3.out)).mono ?_
     rintro e w4 ⟨rfl, hb⟩
     have HB4 := Lib.hid (HB3.out.trans (hb.mono HB3.out.size))
     clear hb b1 b2
     cases r4
     ·obtain rfl : E = 0 := by rw [<- HE.out, if_neg (show ¬ (16 < d) by omega)]; rfl
      go_wp2
      go_ret
      exact ⟨rfl, HB4.out⟩
     ·obtain rfl : E = 9 := by rw [<- HE.out, if_neg (show ¬ (16 < d) by omega)]; rfl
      go_wp2
      go_ret
      exact ⟨rfl, HB4.out⟩
    ·obtain rfl : E = 9 := by rw [<- HE.out, if_neg (show ¬ (16 < d) by omega)]; rfl
     go_wp2
     go_ret
     exact ⟨rfl, HB3.out⟩
   ·obtain rfl : E = 5 := by rw [<- HE.out, if_neg (show ¬ (16 < d) by omega)]; rfl
    go_wp2
    go_ret
    exact ⟨rfl, HB2.out⟩
mutual
noncomputable def qbj_ : Nd -> Int -> Int
 | .mk a b c p e f ks, d => if qey_ (.mk a b c p e f ks) d = 0 then qde_ ks (d + 1) else qey_ (.mk a b c p e f ks) d
noncomputable def qde_ : List Nd -> Int -> Int
 | [], _ => 0
 | k :: l, d => if qbj_ k d = 0 then qde_ l d else qbj_ k d
end
theorem qfj_ (n : Nd) (d : Int) : qbj_ n d = if qey_ n d = 0 then qde_ n.kids (d + 1) else qey_ n d := by
 cases n
 rw [qbj_]
 rfl
theorem qeh_ (d : Int) : ∀ (l : List Nd) (k : Nat) (hk : k < l.length), (∀ j (hj : j < l.length), j < k -> qbj_ l[j] d = 0) -> qbj_ l[k] d ≠ 0 -> qde_ l d = qbj_ l[k] d
 | x :: l, 0, hk, _, h => by
  have h' : qbj_ x d ≠ 0 := h
  rw [qde_, if_neg h']
  rfl
 | x :: l, k + 1, hk, h', h => by
  have h0 : qbj_ x d = 0 := h' 0 (by simp) (by omega)
  rw [qde_, if_pos h0, qeh_ d l k (by simpa using hk) (fun j hj hlt => h' (j + 1) (by simpa using hj) (by omega)) h]
  rfl
theorem qef_ (d : Int) : ∀ (l : List Nd), (∀ j (hj : j < l.length), qbj_ l[j] d = 0) -> qde_ l d = 0
 | [], _ => rfl
 | x :: l, h => by
  have h0 : qbj_ x d = 0 := h 0 (by simp)
  rw [qde_, if_pos h0, qef_ d l (fun j hj => h (j + 1) (by simpa using hj))]
def Fine (l : List Nd) (d : Int) (k : Nat) : Prop := ∀ j (hj : j < l.length), j < k -> qbj_ l[j] d = 0
theorem Fine.zero (l : List Nd) (d : Int) : Fine l d 0 := fun _ _ h => absurd h (Nat.not_lt_zero _)
theorem Fine.succ {l : List Nd} {d : Int} {k : Nat} (h : Fine l d k) (hk : k < l.length) (he : qbj_ l[k] d = 0) : Fine l d (k + 1) := fun j hj hlt => by
 rcases Nat.lt_succ_iff_lt_or_eq.1 hlt with h' | rfl
 ·exact h j hj h'
 ·exact he
theorem qnj_ {n : Nd} {d : Int} (h : qey_ n d = 0) : d <= 16 := by
 by_cases h16 : 16 < d
 ·rw [qey_, if_pos h16] at h; omega
 ·omega
theorem qir_ : ∀ (n : Nd) (d : Int) (w : World), n.In w w.heap.size -> 1 <= d -> d <= 17 -> ∀ E : Int, qbj_ n d = E -> Calls Tryz.prog 37 #[n.val, .int .i64 d] w fun e w' => e = .returned (.int .i64 E) /\ Below w.heap.size w w' := by
 refine Nd.ind ?_
 intro n ih d w hin hd0 hd1 E hE
 obtain ⟨E1, h1⟩ : ∃ E1, qey_ n d = E1 := ⟨_, rfl⟩
 have HE : Hid ((if E1 = 0 then qde_ n.kids (d + 1) else E1) = E) := by rw [<- h1, <- qfj_]; exact hE
 have HD := Lib.hid (fun h : E1 = 0 => qnj_ (h1.trans h))
 have HI := Lib.hid hin
 have IH := Lib.hid ih
 have C1 := Lib.hid (fun w h => alone_any n d w h hd0 hd1 E1 h1)
 obtain ⟨hl, hm⟩ := hin.klen
 clear hin ih hE h1
 obtain ⟨nm, pa, pc, ps, ka, kc, ks⟩ := n
 replace hl : ks.length <= kc := hl
 replace hm : kc <= 9223372036854775807 := hm
 replace HE : Hid ((if E1 = 0 then qde_ ks (d + 1) else E1) = E) := HE
 show Calls _ _ #[.agg #[.string nm, .slice pa ps.length pc, .slice ka ks.length kc], .int .i64 d] _ _
 have HB := Lib.hid ((Below.refl w.heap.size w).alloc (Nat.le_refl _) (.cells #[Value.string nm, .slice pa ps.length pc, .slice ka ks.length kc] 27))
 go_enter Tryz.func37, Tryz.ntmps37
 go_wp2_with fail
 refine (C1.out _ (HI.out.on HB.out)).mono ?_
 rintro e w1 ⟨rfl, hb⟩
 have HB1 := Lib.hid (HB.out.trans (hb.mono HB.out.size))
 have b2 := (hb.cell (p := ⟨w.heap.size, 2, none⟩) (by simp)).trans (World.cell?_alloc_new _ _ _ _)
 replace b2 : _ = some (Value.slice ka ks.length kc) := b2
 clear hb
 by_cases h0 : E1 = 0
 ·have HF : Hid (qde_ ks (d + 1) = E) := by have := HE.out; rwa [if_pos h0] at this
  have hd16 := HD.out h0
  subst h0
  clear HE HD
  go_wp2_with fail
  go_loopw [18] (fun i wr => ∃ k : Nat, k <= ks.length /\ i = .int .i64 k /\ Fine ks (d + 1) k /\ Below w.heap.size w wr) (fun i _ => ks.length - (intOf i).toNat)
  case atStart => exact ⟨0, Nat.zero_le _, rfl, Fine.zero _ _, HB1.out⟩
  case round =>
   clear b2
   obtain ⟨k, hk, rfl, hfine, hb⟩ := hrel
   have HA := Lib.hid hfine
   have HB' := Lib.hid hb
   clear hfine hb
   by_cases hlt : k < ks.length
   ·obtain ⟨b, o, e, hb, c0, c1, c2⟩ := (HI.out.under HB'.out).kcell (i := k) hlt
    obtain rfl : ka = _ := e
    replace c0 : _ = some (Value.string ks[k].name) := c0
    replace c1 : _ = some (Value.slice ks[k].pa ks[k].props.length ks[k].pc) := c1
    replace c2 : _ = some (Value.slice ks[k].ka ks[k].kids.length ks[k].kc) := c2
    have HB2 := Lib.hid (HB'.out.alloc HB'.out.size (.cells #[Value.string ks[k].name, .slice ks[k].pa ks[k].props.length ks[k].pc, .slice ks[k].ka ks[k].kids.length ks[k].kc] 27))
    obtain ⟨F, hF⟩ : ∃ F, qbj_ ks[k] (d + 1) = F := ⟨_, rfl⟩
    have C := Lib.hid (IH.out ks[k] (List.getElem_mem hlt) (d + 1) _ (((HI.out.kid (List.getElem_mem hlt)).under HB2.out).more HB2.out.size) (by omega) (by omega) F hF)
    have HQ := Lib.hid hF
    clear hF
    go_wp2_with fail
    refine C.out.mono ?_
    rintro e w' ⟨rfl, hb'⟩
    have HB3 := Lib.hid (HB2.out.trans (hb'.mono HB2.out.size))
    clear hb'
    by_cases hF0 : F = 0
    ·subst hF0
     go_wp2
     go_roundw
     case rel => exact ⟨k + 1, by omega, by go_num, HA.out.succ hlt HQ.out, HB3.out⟩
     case measure => simp [intOf]; omega
    ·have f1 : (F == 0) = false := by rw [beq_eq_false_iff_ne]; exact hF0
     have f2 : (F != 0) = true := by rw [bne, f1]; rfl
     obtain rfl : E = F := by rw [<- HF.out, qeh_ (d + 1) ks k hlt HA.out (by rw [HQ.out]; exact hF0)]; exact HQ.out
     clear hF0
     go_wp2
     go_ret
     exact ⟨rfl, HB3.out⟩
   ·obtain rfl : E = 0 := by rw [<- HF.out]; exact qef_ (d + 1) ks (fun j hj => HA.out j hj (by omega))
    go_wp2
    go_ret
    exact ⟨rfl, HB'.out⟩
 ·have f1 : (E1 == 0) = false := by rw [beq_eq_false_iff_ne]; exact h0
  have f2 : (E1 != 0) = true := by rw [bne, f1]; rfl
  obtain rfl : E = E1 := by rw [<- HE.out, if_neg h0]
  clear h0 HE HD
  go_wp2
  go_ret
  exact ⟨rfl, HB1.out⟩
end Go.Proofs.YtcfinbapfhhpgaaGreatDoor
