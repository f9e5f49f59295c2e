/-
  Layer 7, PropWide: out of what the program's Wide answers.
-/
import Derived.Test.YthlaoidlhbjaiaaLPropReads
namespace Go.Proofs.Ythlaoidlhbjaiaa
open Go.RowKit
set_option linter.unusedVariables false
set_option linter.unusedSimpArgs false

/-- The number that cells are, the greatest first. -/
def wideV (zs : List Int) : Int := zs.foldl (fun v z => v * 4294967296 + z) 0
theorem wideV_next (zs : List Int) (k : Nat) (h : k < zs.length) : wideV (zs.take (k + 1)) = wideV (zs.take k) * 4294967296 + zs.getD k 0 := by
  unfold wideV
  rw [take_next zs k h, List.foldl_append]
  simp [List.getD, List.getElem?_eq_getElem h]
theorem wideV_bound (zs : List Int) (hz : ∀ z ∈ zs, 0 ≤ z ∧ z ≤ 4294967295) : ∀ k, k ≤ zs.length → 0 ≤ wideV (zs.take k) ∧ wideV (zs.take k) < 4294967296 ^ k
  | 0, _ => by simp [wideV]
  | k + 1, h => by
    have h1 := wideV_bound zs hz k (by omega)
    have h2 := hz zs[k] (List.getElem_mem (by omega))
    have e : zs.getD k 0 = zs[k] := by simp [List.getD, List.getElem?_eq_getElem (show k < zs.length by omega)]
    rw [wideV_next zs k (by omega), e, Int.pow_succ]
    omega
def WideOK : Prop := ∀ (A : Option Addr) (n c : Nat) (zs : List Int) (w : World), zs.length = n → Cel w w.heap.size A n (u32s zs) → (∀ z ∈ zs, 0 ≤ z ∧ z ≤ 4294967295) → n ≤ 100 → n ≤ c → c ≤ 9223372036854775807 →
  Calls Try.prog 16 #[.slice A n c] w fun e w' => e = .returned (.tuple #[.int .u64 (if n ≤ 2 then wideV zs else 0), .int .i64 (if n ≤ 2 then 0 else 10)]) ∧ Below w.heap.size w w'

set_option maxRecDepth 20000 in
set_option maxHeartbeats 8000000 in
theorem propWide_true (hK : Awake7) (h1 : WideOK) (A : Option Addr) (n c : Nat) (zs : List Int) (w : World) (hl : zs.length = n) (hs : Cel w w.heap.size A n (u32s zs)) (hz : ∀ z ∈ zs, 0 ≤ z ∧ z ≤ 4294967295) (hnc : n ≤ c) (hc : c ≤ 9223372036854775807) :
    Calls Try.prog 5 #[.slice A n c] w fun e w' => e = .returned (.bool true) ∧ Below w.heap.size w w' := by
  have HK := Lib.hid hK
  have HS := Lib.hid hs
  have HL := Lib.hid hl
  have HZ := Lib.hid hz
  have C := Lib.hid (fun W (hW : Below w.heap.size w W) (h100 : n ≤ 100) => h1 A n c zs W hl (hs.on hW) hz h100 hnc hc)
  have HC := Lib.hid (And.intro hnc hc)
  clear hK hs h1 hl hz hnc hc
  go_enter Try.func5, Try.ntmps5
  go_wp2_with fail
  refine (HK.out _).mono ?_
  rintro e w1 ⟨rfl, hb⟩
  have HB1 := Lib.hid hb
  clear hb
  by_cases hbig : 100 < n
  · have k1 : decide ((100 : Int) < (n : Int)) = true := decide_eq_true (by omega)
    clear hbig
    go_wp2_with fail
    refine (HK.out _).mono ?_
    rintro e w2 ⟨rfl, hb⟩
    have HB2 := Lib.hid (HB1.out.trans (hb.mono HB1.out.size))
    clear hb
    go_wp2
    go_ret
    exact ⟨rfl, HB2.out⟩
  · have k1 : decide ((100 : Int) < (n : Int)) = false := decide_eq_false (by omega)
    have C1 := C.out _ HB1.out (by omega)
    clear hbig C
    by_cases h2 : n ≤ 2
    · have k2 : decide ((2 : Int) < (n : Int)) = false := decide_eq_false (by omega)
      rw [if_pos h2, if_pos h2] at C1
      obtain ⟨V, hV⟩ : ∃ V, wideV zs = V := ⟨_, rfl⟩
      rw [hV] at C1
      have HV := Lib.hid hV
      have HC1 := Lib.hid C1
      have H2 := Lib.hid h2
      clear C1 hV h2
      go_wp2_with fail
      refine HC1.out.mono ?_
      rintro e w2 ⟨rfl, hb⟩
      have HB2 := Lib.hid (HB1.out.trans (hb.mono HB1.out.size))
      clear hb
      go_wp2_with fail
      go_loopw [5, 31] (fun x i wr => ∃ (k : Nat) (v : Int), k ≤ n ∧ i = .int .i64 k ∧ x = .int .u64 v ∧ Hid (v = wideV (zs.take k)) ∧ Below w.heap.size w wr) (fun _ i _ => n - (intOf i).toNat)
      case atStart => exact ⟨0, 0, Nat.zero_le _, rfl, rfl, Lib.hid rfl, HB2.out⟩
      case round =>
        obtain ⟨k, v, hk, rfl, rfl, HW, hb⟩ := hrel
        have HB := Lib.hid hb
        by_cases hlt : k < n
        · obtain ⟨b, o, e, _, cc⟩ := u32_cell (HS.out.below hb) HL.out k hlt
          obtain rfl : A = _ := e
          obtain ⟨x, hx⟩ : ∃ x, zs.getD k 0 = x := ⟨_, rfl⟩
          rw [hx] at cc
          have hkz : k < zs.length := by rw [HL.out]; exact hlt
          have hn2 : n ≤ 2 := H2.out
          have hb1 := wideV_bound zs HZ.out k (by omega)
          have hb2 := wideV_bound zs HZ.out (k + 1) (by omega)
          have hxb : 0 ≤ x ∧ x ≤ 4294967295 := by
            rw [← hx]
            have := HZ.out zs[k] (List.getElem_mem hkz)
            simpa [List.getD, List.getElem?_eq_getElem hkz] using this
          have hnx := wideV_next zs k hkz
          rw [hx] at hnx
          rw [← HW.out] at hb1 hnx
          have hp : (4294967296 : Int) ^ k ≤ 4294967296 := by
            have := H2.out
            rcases (by omega : k = 0 ∨ k = 1) with rfl | rfl <;> decide
          have hv0 : 0 ≤ v := hb1.1
          have hv1 : v * 4294967296 ≤ 18446744069414584320 := by omega
          have HNX := Lib.hid hnx.symm
          have w1' : IntKind.u64.wrap (v * 4294967296) = v * 4294967296 := IntWalk.u64_in _ (by omega)
          have w2' : IntKind.u64.wrap x = x := IntWalk.u64_in _ (by omega)
          have w3' : IntKind.u64.wrap (v * 4294967296 + x) = v * 4294967296 + x := IntWalk.u64_in _ (by omega)
          clear hb hx hnx hb1 hb2 hp hkz
          go_wp2
          go_roundw
          case rel => exact ⟨k + 1, v * 4294967296 + x, by omega, by go_num, by first | rfl | rw [w3'], Lib.hid HNX.out, HB.out⟩
          case measure => simp [intOf]; omega
        · have HE : Hid (v = V) := Lib.hid (by rw [HW.out, List.take_of_length_le (by rw [HL.out]; omega), HV.out])
          obtain rfl := HE.out
          have q1 : (v == v) = true := by simp
          clear hb
          go_wp2
          go_ret
          exact ⟨rfl, HB.out⟩
    · have k2 : decide ((2 : Int) < (n : Int)) = true := decide_eq_true (by omega)
      rw [if_neg h2, if_neg h2] at C1
      have HC1 := Lib.hid C1
      clear C1 h2
      go_wp2_with fail
      refine HC1.out.mono ?_
      rintro e w2 ⟨rfl, hb⟩
      have HB2 := Lib.hid (HB1.out.trans (hb.mono HB1.out.size))
      clear hb
      go_wp2
      go_ret
      exact ⟨rfl, HB2.out⟩
end Go.Proofs.Ythlaoidlhbjaiaa
