/-
  Layer 2, NameBack: any number, in digits of base 16 behind a base and an @, is a unit, and that number.
-/
import Derived.Test.YtbkopplepaonlaaDoorNUnit
namespace Go.Proofs.YtbkopplepaonlaaDoor
open Go.RowKit
set_option linter.unusedVariables false
set_option linter.unusedSimpArgs false

/-- How long a text is. -/
def strLen : Value → Nat | .string b => b.size | _ => 0

def digs (great : Bool) : ByteArray := if great then ⟨#[48, 49, 50, 51, 52, 53, 54, 55, 56, 57, 65, 66, 67, 68, 69, 70]⟩ else ⟨#[48, 49, 50, 51, 52, 53, 54, 55, 56, 57, 97, 98, 99, 100, 101, 102]⟩
def digC (great : Bool) (d : Nat) : UInt8 := UInt8.ofNat (if d < 10 then 48 + d else if great then 55 + d else 87 + d)
theorem dig_ext (great : Bool) (d : Fin 16) : ((digs great).extract d.val (d.val + 1)).data.toList = [digC great d.val] := by
  revert d; cases great <;> decide
theorem dig_hex (great : Bool) (d : Fin 16) : IsHex (digC great d.val) ∧ hexDig (digC great d.val) = d.val := by
  unfold IsHex
  revert d; cases great <;> decide

theorem hexFrom_acc : ∀ (l : List UInt8) (a : Nat), hexFrom a l = a * 16 ^ l.length + hexFrom 0 l
  | [], a => by simp [hexFrom]
  | c :: l, a => by
    have e1 : hexFrom a (c :: l) = hexFrom (a * 16 + hexDig c) l := rfl
    have e2 : hexFrom 0 (c :: l) = hexFrom (0 * 16 + hexDig c) l := rfl
    rw [e1, e2, hexFrom_acc l (a * 16 + hexDig c), hexFrom_acc l (0 * 16 + hexDig c), List.length_cons, Nat.pow_succ, Nat.add_mul, Nat.add_mul, Nat.mul_assoc, Nat.mul_comm 16]
    omega
theorem hexFrom_cons (c : UInt8) (l : List UInt8) : hexFrom 0 (c :: l) = hexDig c * 16 ^ l.length + hexFrom 0 l := by
  have e2 : hexFrom 0 (c :: l) = hexFrom (0 * 16 + hexDig c) l := rfl
  rw [e2, hexFrom_acc]; simp

/-- Behind k rounds: k digits, and what is left of the number. -/
def Goes (v : Nat) (s : ByteArray) (q : Int) : Prop :=
  s.size ≤ 16 ∧ q = ((v / 16 ^ s.size : Nat) : Int) ∧ hexFrom 0 s.data.toList = v % 16 ^ s.size ∧ ∀ c ∈ s.data.toList, IsHex c

theorem goes_start (v : Nat) : Goes v ByteArray.empty v := ⟨by decide, by show (v : Int) = ((v / 16 ^ 0 : Nat) : Int); simp, by show hexFrom 0 [] = v % 16 ^ 0; simp [hexFrom, Nat.mod_one], fun c hc => by cases hc⟩
theorem goes_le {v : Nat} {s : ByteArray} {q : Int} (hv : v < 18446744073709551616) (h : Goes v s q) : 0 ≤ q ∧ q ≤ 18446744073709551615 := by
  obtain ⟨_, h2, _⟩ := h
  have h3 := Nat.div_le_self v (16 ^ s.size)
  generalize v / 16 ^ s.size = n at h2 h3
  omega
theorem goes_room {v : Nat} {s : ByteArray} {q : Int} (hv : v < 18446744073709551616) (h : Goes v s q) (hq : 0 < q) : s.size ≤ 15 := by
  obtain ⟨h1, h2, _⟩ := h
  rcases Nat.lt_or_ge s.size 16 with h | h
  · omega
  · exfalso
    have e : s.size = 16 := by omega
    rw [e] at h2
    have : v / 16 ^ 16 = 0 := Nat.div_eq_of_lt (by have : (16 : Nat) ^ 16 = 18446744073709551616 := by decide
                                                   omega)
    omega
theorem goes_on {v : Nat} {s : ByteArray} {q : Int} (great : Bool) (h : Goes v s q) (hs : s.size ≤ 15) :
    Goes v ((digs great).extract (q % 16).toNat (q % 16 + 1).toNat ++ s) (q / 16) ∧ ((digs great).extract (q % 16).toNat (q % 16 + 1).toNat).size = 1 := by
  obtain ⟨h1, h2, h3, h4⟩ := h
  obtain ⟨d, hd⟩ : ∃ d : Fin 16, d.val = v / 16 ^ s.size % 16 := ⟨⟨v / 16 ^ s.size % 16, Nat.mod_lt _ (by omega)⟩, rfl⟩
  have e1 : (q % 16).toNat = d.val := by omega
  have e2 : (q % 16 + 1).toNat = d.val + 1 := by omega
  have hx := dig_ext great d
  obtain ⟨g1, g2⟩ := dig_hex great d
  rw [e1, e2]
  have hsz : ((digs great).extract d.val (d.val + 1)).size = 1 := by rw [← size_len, hx]; rfl
  have hl : ((digs great).extract d.val (d.val + 1) ++ s).data.toList = digC great d.val :: s.data.toList := by
    rw [ByteArray.data_append, Array.toList_append, hx]; rfl
  have hsz2 : ((digs great).extract d.val (d.val + 1) ++ s).size = s.size + 1 := by rw [ByteArray.size_append, hsz]; omega
  refine ⟨⟨by omega, ?_, ?_, ?_⟩, hsz⟩
  · rw [hsz2, Nat.pow_succ, ← Nat.div_div_eq_div_mul, h2]; omega
  · rw [hsz2, hl, hexFrom_cons, g2, size_len, h3, hd, Nat.pow_succ, Nat.mod_mul, Nat.mul_comm]; omega
  · rw [hl]
    intro c hc
    rcases List.mem_cons.1 hc with rfl | hc
    · exact g1
    · exact h4 c hc
theorem goes_end {v : Nat} {s : ByteArray} {q : Int} (h : Goes v s q) (hq : q = 0) : hexFrom 0 s.data.toList = v := by
  obtain ⟨_, h2, h3, _⟩ := h
  have h0 : v / 16 ^ s.size = 0 := by omega
  have := Nat.mod_add_div v (16 ^ s.size)
  rw [h0] at this
  rw [h3]; omega

set_option maxHeartbeats 1000000 in
theorem nameBack_small (v : Nat) (w : World) (hv : v < 18446744073709551616) :
    Calls Tryd.prog 3 #[.int .u64 v, .bool false] w fun e w' => e = .returned (.bool true) ∧ Below w.heap.size w w' := by
  have HV := Lib.hid hv
  have hz : (digs false).size = 16 := rfl
  have hD : digs false = ⟨#[48, 49, 50, 51, 52, 53, 54, 55, 56, 57, 97, 98, 99, 100, 101, 102]⟩ := rfl
  have HD := Lib.hid hD
  clear hD
  go_enter Tryd.func3, Tryd.ntmps3
  go_wp2_with fail
  refine (awake2 _).mono ?_
  rintro e w' ⟨rfl, rfl⟩
  go_wp2
  go_loop [6, 7] (fun vs vq => ∃ (s : ByteArray) (q : Int), vs = .string s ∧ vq = .int .u64 q ∧ Hid (Goes v s q)) (fun vs _ => 17 - strLen vs)
  case atStart => exact ⟨ByteArray.empty, v, rfl, rfl, goes_start v⟩
  case round =>
    obtain ⟨s, q, rfl, rfl, hg⟩ := hrel
    obtain ⟨q0, q1⟩ := goes_le HV.out hg.out
    by_cases hq : 0 < q
    · have hr := goes_room HV.out hg.out hq
      have HN := Lib.hid (goes_on false hg.out hr).1
      have hz1 := (goes_on false hg.out hr).2
      have t0 : 0 ≤ q % 16 := by omega
      have t1 : q % 16 + 1 ≤ 16 := by omega
      rw [HD.out] at HN hz hz1
      have hsum : ¬ (9223372036854775807 < 1 + s.size) := by omega
      go_wp2
      go_round
      case rel => exact ⟨_, _, rfl, rfl, HN⟩
      case measure => simp only [strLen, ByteArray.size_append, hz1]; omega
    · obtain rfl : q = 0 := by omega
      by_cases he : s.size = 0
      · obtain rfl : s = ByteArray.empty := ByteArray.size_eq_zero_iff.1 he
        have HN := Lib.hid (goes_on false hg.out (by omega)).1
        have hz1 := (goes_on false hg.out (by omega)).2
        rw [HD.out] at HN hz hz1
        have HZ := Lib.hid hz1
        clear hz1 he
        go_wp2
        go_round
        case rel => exact ⟨_, _, rfl, rfl, HN⟩
        case measure => simp only [strLen]; decide
      · have hemp : s.toList.isEmpty = false := by
          rw [← decide_eq_emptyBytes]
          exact decide_eq_false (fun h => he (by rw [h]; rfl))
        have HE := Lib.hid (goes_end hg.out rfl)
        have hs16 := hg.out.1
        have hx := hg.out.2.2.2
        have C1 := Lib.hid (fun W => unit_at s (by omega) hs16 hx W)
        have C2 := Lib.hid (fun W => node_at s (by omega) hs16 hx W)
        rw [HE.out] at C1
        have hsum : ¬ (9223372036854775807 < 5 + s.size) := by omega
        clear hx hs16 he
        go_wp2_with fail
        refine (C1.out _).mono ?_
        rintro e w' ⟨rfl, hb⟩
        have HB := Lib.hid hb
        clear hb
        go_wp2_with fail
        refine (C2.out _).mono ?_
        rintro e w'' ⟨rfl, rfl⟩
        go_wp2
        go_ret
        exact ⟨rfl, ((draws_below w 1).trans HB.out).trans ((draws_below w' 1).mono HB.out.size)⟩
set_option maxHeartbeats 1000000 in
theorem nameBack_great (v : Nat) (w : World) (hv : v < 18446744073709551616) :
    Calls Tryd.prog 3 #[.int .u64 v, .bool true] w fun e w' => e = .returned (.bool true) ∧ Below w.heap.size w w' := by
  have HV := Lib.hid hv
  have hz : (digs true).size = 16 := rfl
  have hD : digs true = ⟨#[48, 49, 50, 51, 52, 53, 54, 55, 56, 57, 65, 66, 67, 68, 69, 70]⟩ := rfl
  have HD := Lib.hid hD
  clear hD
  go_enter Tryd.func3, Tryd.ntmps3
  go_wp2_with fail
  refine (awake2 _).mono ?_
  rintro e w' ⟨rfl, rfl⟩
  go_wp2
  go_loop [6, 7] (fun vs vq => ∃ (s : ByteArray) (q : Int), vs = .string s ∧ vq = .int .u64 q ∧ Hid (Goes v s q)) (fun vs _ => 17 - strLen vs)
  case atStart => exact ⟨ByteArray.empty, v, rfl, rfl, goes_start v⟩
  case round =>
    obtain ⟨s, q, rfl, rfl, hg⟩ := hrel
    obtain ⟨q0, q1⟩ := goes_le HV.out hg.out
    by_cases hq : 0 < q
    · have hr := goes_room HV.out hg.out hq
      have HN := Lib.hid (goes_on true hg.out hr).1
      have hz1 := (goes_on true hg.out hr).2
      have t0 : 0 ≤ q % 16 := by omega
      have t1 : q % 16 + 1 ≤ 16 := by omega
      rw [HD.out] at HN hz hz1
      have hsum : ¬ (9223372036854775807 < 1 + s.size) := by omega
      go_wp2
      go_round
      case rel => exact ⟨_, _, rfl, rfl, HN⟩
      case measure => simp only [strLen, ByteArray.size_append, hz1]; omega
    · obtain rfl : q = 0 := by omega
      by_cases he : s.size = 0
      · obtain rfl : s = ByteArray.empty := ByteArray.size_eq_zero_iff.1 he
        have HN := Lib.hid (goes_on true hg.out (by omega)).1
        have hz1 := (goes_on true hg.out (by omega)).2
        rw [HD.out] at HN hz hz1
        have HZ := Lib.hid hz1
        clear hz1 he
        go_wp2
        go_round
        case rel => exact ⟨_, _, rfl, rfl, HN⟩
        case measure => simp only [strLen]; decide
      · have hemp : s.toList.isEmpty = false := by
          rw [← decide_eq_emptyBytes]
          exact decide_eq_false (fun h => he (by rw [h]; rfl))
        have HE := Lib.hid (goes_end hg.out rfl)
        have hs16 := hg.out.1
        have hx := hg.out.2.2.2
        have C1 := Lib.hid (fun W => unit_at s (by omega) hs16 hx W)
        have C2 := Lib.hid (fun W => node_at s (by omega) hs16 hx W)
        rw [HE.out] at C1
        have hsum : ¬ (9223372036854775807 < 5 + s.size) := by omega
        clear hx hs16 he
        go_wp2_with fail
        refine (C1.out _).mono ?_
        rintro e w' ⟨rfl, hb⟩
        have HB := Lib.hid hb
        clear hb
        go_wp2_with fail
        refine (C2.out _).mono ?_
        rintro e w'' ⟨rfl, rfl⟩
        go_wp2
        go_ret
        exact ⟨rfl, ((draws_below w 1).trans HB.out).trans ((draws_below w' 1).mono HB.out.size)⟩

theorem nameBack_true (v : Int) (great : Bool) (w : World) (hv : (Lit.int .u64 v).wf = true) :
    Calls Tryd.prog 3 #[.int .u64 v, .bool great] w fun e w' => e = .returned (.bool true) ∧ Below w.heap.size w w' := by
  have hb := bounds_u64 hv
  obtain ⟨n, rfl⟩ := Int.eq_ofNat_of_zero_le hb.1
  cases great
  · exact nameBack_small n w (by omega)
  · exact nameBack_great n w (by omega)
end Go.Proofs.YtbkopplepaonlaaDoor
