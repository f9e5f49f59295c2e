/-
  The library's ParseUint at base 16, 64 bits, over 1 to 16 digits: the number.
-/
import Derived.Test.YtbkopplepaonlaaDoorNMade
import Derived.Lib.ConvBytes
import Derived.Lib.Strings
import Derived.Lib.Walk
import Derived.Laws.Strings3
import Derived.Laws.Closers25
import Derived.Laws.Closers25b
import Derived.BigCall
import Derived.BigGuard
namespace Go.Proofs.YtbkopplepaonlaaDoor
open Go.RowKit
set_option linter.unusedVariables false
set_option linter.unusedSimpArgs false

/-- A digit of base 16. -/
def IsHex (c : UInt8) : Prop := (48 ≤ c.toNat ∧ c.toNat ≤ 57) ∨ (97 ≤ c.toNat ∧ c.toNat ≤ 102) ∨ (65 ≤ c.toNat ∧ c.toNat ≤ 70)
def hexDig (c : UInt8) : Nat := if c.toNat ≤ 57 then c.toNat - 48 else if c.toNat ≤ 70 then c.toNat - 55 else c.toNat - 87
/-- The number that the digits are, behind a number. -/
def hexFrom (a : Nat) (l : List UInt8) : Nat := l.foldl (fun a c => a * 16 + hexDig c) a
theorem hexDig_lt {c : UInt8} (h : IsHex c) : hexDig c < 16 := by
  unfold IsHex at h; unfold hexDig; split
  · omega
  · split <;> omega
theorem hexFrom_snoc (l : List UInt8) (c : UInt8) : hexFrom 0 (l ++ [c]) = hexFrom 0 l * 16 + hexDig c := by unfold hexFrom; rw [List.foldl_append]; rfl
theorem hexFrom_lt : ∀ (l : List UInt8) (a : Nat), (∀ c ∈ l, IsHex c) → hexFrom a l < (a + 1) * 16 ^ l.length
  | [], a, _ => by simp [hexFrom]
  | c :: l, a, h => by
    have h1 := hexFrom_lt l (a * 16 + hexDig c) (fun x hx => h x (List.mem_cons_of_mem _ hx))
    have h2 := hexDig_lt (h c (List.mem_cons_self ..))
    have h3 : (a * 16 + hexDig c + 1) * 16 ^ l.length ≤ ((a + 1) * 16) * 16 ^ l.length := Nat.mul_le_mul_right _ (by omega)
    rw [List.length_cons, Nat.pow_succ]
    calc hexFrom a (c :: l) = hexFrom (a * 16 + hexDig c) l := rfl
      _ < _ := h1
      _ ≤ _ := h3
      _ = _ := by rw [Nat.mul_assoc, Nat.mul_comm 16]
theorem take_succ (l : List UInt8) (k : Nat) (h : k < l.length) : l.take (k + 1) = l.take k ++ [l[k]] := by
  rw [List.take_succ_eq_append_getElem h]

set_option maxRecDepth 100000 in
theorem lower_up : ∀ n : Fin 256, 65 ≤ n.val → n.val ≤ 70 → bits .or .u8 (n.val : Int) 32 = n.val + 32 := by decide
set_option maxRecDepth 100000 in
theorem lower_down : ∀ n : Fin 256, 97 ≤ n.val → n.val ≤ 102 → bits .or .u8 (n.val : Int) 32 = n.val := by decide

theorem lower_any (c r : Int) (w : World) (hr : bits .or .u8 c 32 = r) :
    Calls Tryd.prog 18 #[.int .u8 c] w fun e w' => e = .returned (.int .u8 r) ∧ w = w' := by
  have HR := Lib.hid hr
  clear hr
  go_enter Tryd.func18, Tryd.ntmps18
  go_wp2
  go_ret
  exact ⟨by rw [HR.out]; rfl, rfl⟩

set_option maxHeartbeats 8000000 in
set_option maxRecDepth 100000 in
theorem parse_inner (t : ByteArray) (h0 : 0 < t.size) (h16 : t.size ≤ 16) (hx : ∀ c ∈ t.data.toList, IsHex c) (w : World) :
    Calls Tryd.prog 12 #[.string t, .int .i64 16, .int .i64 64] w fun e w' => e = .returned (.tuple #[.int .u64 (hexFrom 0 t.data.toList), .nilIface]) ∧ w' = Lib.bytesWorld w 5 t := by
  have hemp : t.toList.isEmpty = false := by
    rw [← decide_eq_emptyBytes]
    exact decide_eq_false (fun h => by rw [h] at h0; exact absurd h0 (by decide))
  have hcv := Lib.run_convert_string_bytes (P := Tryd.prog) w 9 43 5 t (u := .string) Tryd.underlying9 Tryd.underlying43 Tryd.underlying5
  have hB : ∀ j, j < t.size → (Lib.bytesWorld w 5 t).cell? ⟨w.heap.size, j, none⟩ = some (.int .u8 (t.data.toList.getD j 0).toNat) := fun j hj => Lib.bytesWorld_cell w 5 t j hj
  obtain ⟨W1, hW1⟩ : ∃ W1, W1 = Lib.bytesWorld w 5 t := ⟨_, rfl⟩
  rw [← hW1] at hcv hB ⊢
  clear hW1
  obtain ⟨bs, hL⟩ : ∃ bs, bs = t.data.toList := ⟨_, rfl⟩
  have hLn : bs.length = t.size := by rw [hL]; rfl
  rw [← hL] at hB hx ⊢
  clear hL
  have HX := Lib.hid hx
  have HB := Lib.hid hB
  clear hx hB
  have hmv : IntKind.u64.wrap (IntKind.u64.wrap 18446744073709551616 - 1) = 18446744073709551615 := by
    rw [IntKind.wrap_u64, IntKind.wrap_u64]
    decide
  go_enter Tryd.func12, Tryd.ntmps12
  go_wp2
  go_loop [12, 13, 101] (fun vu vn vi => ∃ (k : Nat) (a : Int), vu = .bool false ∧ vn = .int .u64 a ∧ vi = .int .i64 k ∧ k ≤ t.size ∧ Hid (a = (hexFrom 0 (bs.take k) : Int)))
    (fun _ _ vi => t.size - (intOf vi).toNat)
  case atStart => exact ⟨0, 0, rfl, rfl, rfl, by omega, rfl⟩
  case round =>
    obtain ⟨k, a, rfl, rfl, rfl, hk, hh⟩ := hrel
    by_cases hkn : k < t.size
    · have hc := HB.out k hkn
      have hget : bs.getD k 0 = bs[k]'(by omega) := by simp [List.getD, List.getElem?_eq_getElem (show k < bs.length by omega)]
      have hsn := hexFrom_snoc (bs.take k) (bs[k]'(by omega))
      rw [← take_succ bs k (by omega)] at hsn
      have hlt := hexFrom_lt (bs.take k) 0 (fun c hc => HX.out c (List.mem_of_mem_take hc))
      rw [List.length_take, Nat.min_eq_left (by omega)] at hlt
      have hp : (16 : Nat) ^ k ≤ 16 ^ 15 := Nat.pow_le_pow_right (by omega) (by omega)
      have hp2 : (16 : Nat) ^ 15 = 1152921504606846976 := by decide
      have hch : IsHex (bs[k]'(by omega)) := HX.out _ (List.getElem_mem _)
      have hd := hexDig_lt hch
      have a0 : 0 ≤ a := by rw [hh.out]; omega
      have a1 : a < 1152921504606846976 := by rw [hh.out]; omega
      have HN := Lib.hid (show (hexFrom 0 (bs.take (k + 1)) : Int) = a * 16 + (hexDig (bs[k]'(by omega)) : Int) by rw [hsn, hh.out]; omega)
      rw [hget] at hc
      clear hget hsn hlt hp hp2 hh hd
      generalize bs[k]'(by omega) = c at hc hch HN
      have hc256 : c.toNat < 256 := c.toNat_lt
      rcases hch with ⟨hd0, hd1⟩ | ⟨hd0, hd1⟩ | ⟨hd0, hd1⟩
      · have HE := Lib.hid (show hexDig c = c.toNat - 48 by unfold hexDig; rw [if_pos hd1])
        go_wp2
        refine ⟨⟨k + 1, a * 16 + ((c.toNat : Int) - 48), rfl, (by first | rfl | (congr 1; omega)), (by first | rfl | (congr 1; omega)), by omega, Lib.hid (by rw [HN.out, HE.out]; omega)⟩, by simp [intOf]; omega⟩
      · have HE := Lib.hid (show hexDig c = c.toNat - 87 by unfold hexDig; rw [if_neg (by omega), if_neg (by omega)])
        have C := Lib.hid (fun W => lower_any (c.toNat : Int) (c.toNat : Int) W (lower_down ⟨c.toNat, hc256⟩ hd0 hd1))
        go_wp2_with (go_at_call 18; refine (C.out _).mono ?_; rintro e w' ⟨rfl, rfl⟩)
        refine ⟨⟨k + 1, a * 16 + ((c.toNat : Int) - 87), rfl, (by first | rfl | (congr 1; omega)), (by first | rfl | (congr 1; omega)), by omega, Lib.hid (by rw [HN.out, HE.out]; omega)⟩, by simp [intOf]; omega⟩
      · have HE := Lib.hid (show hexDig c = c.toNat - 55 by unfold hexDig; rw [if_neg (by omega), if_pos (by omega)])
        have C := Lib.hid (fun W => lower_any (c.toNat : Int) ((c.toNat : Int) + 32) W (lower_up ⟨c.toNat, hc256⟩ hd0 hd1))
        go_wp2_with (go_at_call 18; refine (C.out _).mono ?_; rintro e w' ⟨rfl, rfl⟩)
        refine ⟨⟨k + 1, a * 16 + ((c.toNat : Int) - 55), rfl, (by first | rfl | (congr 1; omega)), (by first | rfl | (congr 1; omega)), by omega, Lib.hid (by rw [HN.out, HE.out]; omega)⟩, by simp [intOf]; omega⟩
    · obtain rfl : k = t.size := by omega
      have HE := Lib.hid (show a = (hexFrom 0 bs : Int) by rw [hh.out, List.take_of_length_le (by omega)])
      clear hh
      go_wp2
      go_ret2
      exact ⟨by rw [HE.out]; rfl, rfl⟩

theorem bytes_below (w : World) (e : TypeId) (t : ByteArray) : Below w.heap.size w (Lib.bytesWorld w e t) :=
  ⟨rfl, rfl, rfl, by rw [Lib.bytesWorld_size]; omega, fun k hk => Lib.bytesWorld_at_old w e t k hk⟩

theorem parse_hex (t : ByteArray) (h0 : 0 < t.size) (h16 : t.size ≤ 16) (hx : ∀ c ∈ t.data.toList, IsHex c) (w : World) :
    Calls Tryd.prog 8 #[.string t, .int .i64 16, .int .i64 64] w fun e w' => e = .returned (.tuple #[.int .u64 (hexFrom 0 t.data.toList), .nilIface]) ∧ Below w.heap.size w w' := by
  have C := Lib.hid (fun W => parse_inner t h0 h16 hx W)
  obtain ⟨v, hv⟩ : ∃ v : Int, v = (hexFrom 0 t.data.toList : Int) := ⟨_, rfl⟩
  rw [← hv] at C ⊢
  clear hx hv
  go_enter Tryd.func8, Tryd.ntmps8
  go_wp2_with (go_at_call 12; refine (C.out _).mono ?_; rintro e w' ⟨rfl, rfl⟩)
  go_ret2
  exact ⟨rfl, bytes_below w 5 t⟩
end Go.Proofs.YtbkopplepaonlaaDoor
