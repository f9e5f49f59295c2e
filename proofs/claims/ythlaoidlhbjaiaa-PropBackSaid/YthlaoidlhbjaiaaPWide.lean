/-
  Layer 7: the program's Wide; the law's first question.
-/
import Derived.Test.YthlaoidlhbjaiaaLPropWide
import Derived.Laws.Bits64
import Derived.Laws.BitsAllLaws
namespace Go.Proofs.Ythlaoidlhbjaiaa
open Go.RowKit
set_option linter.unusedVariables false
set_option linter.unusedSimpArgs false

theorem or_wide (v z : Int) (h0 : 0 ≤ v) (h1 : v ≤ 4294967295) (h2 : 0 ≤ z) (h3 : z ≤ 4294967295) : bits .or .u64 (v * 4294967296) z = v * 4294967296 + z := by
  obtain ⟨a, rfl⟩ := Int.eq_ofNat_of_zero_le h0
  obtain ⟨b, rfl⟩ := Int.eq_ofNat_of_zero_le h2
  have e : ((a : Int) * 4294967296) = ((a * 4294967296 : Nat) : Int) := by omega
  rw [e, u64_or_nat (a * 4294967296) b (by omega) (by omega), nat_join 32 (a * 4294967296) b (by omega) (by omega)]
  omega

set_option maxRecDepth 20000 in
set_option maxHeartbeats 4000000 in
theorem wide_any (A : Option Addr) (n c : Nat) (zs : List Int) (w : World) (hl : zs.length = n) (hs : Cel w w.heap.size A n (u32s zs)) (hz : ∀ z ∈ zs, 0 ≤ z ∧ z ≤ 4294967295) (hn : n ≤ 1099511627776) (hnc : n ≤ c) (hc : c ≤ 9223372036854775807) :
    Calls Try.prog 16 #[.slice A n c] w fun e w' => e = .returned (.tuple #[.int .u64 (if n ≤ 2 then wideV zs else 0), .int .i64 (if n ≤ 2 then 0 else 10)]) ∧ w' = w := by
  have HS := Lib.hid hs
  have HL := Lib.hid hl
  have HZ := Lib.hid hz
  clear hs hl hz
  by_cases h2 : n ≤ 2
  · have k2 : decide ((2 : Int) < (n : Int)) = false := decide_eq_false (by omega)
    rw [if_pos h2, if_pos h2]
    have H2 := Lib.hid h2
    clear h2
    obtain ⟨V, hV⟩ : ∃ V, wideV zs = V := ⟨_, rfl⟩
    rw [hV]
    have HV := Lib.hid hV
    clear hV
    go_enter Try.func16, Try.ntmps16
    go_wp2_with fail
    go_loop [4, 12] (fun x i => ∃ (k : Nat) (v : Int), k ≤ n ∧ i = .int .i64 k ∧ x = .int .u64 v ∧ Hid (v = wideV (zs.take k))) (fun _ i => n - (intOf i).toNat)
    case atStart => exact ⟨0, 0, Nat.zero_le _, rfl, rfl, Lib.hid rfl⟩
    case round =>
      obtain ⟨k, v, hk, rfl, rfl, HW⟩ := hrel
      by_cases hlt : k < n
      · obtain ⟨b, o, e, _, cc⟩ := u32_cell HS.out HL.out k hlt
        obtain rfl : A = _ := e
        obtain ⟨x, hx⟩ : ∃ x, zs.getD k 0 = x := ⟨_, rfl⟩
        rw [hx] at cc
        have hkz : k < zs.length := by rw [HL.out]; exact hlt
        have hn2 : n ≤ 2 := H2.out
        have hb1 := wideV_bound zs HZ.out k (by omega)
        have hxb : 0 ≤ x ∧ x ≤ 4294967295 := by
          rw [← hx]
          have := HZ.out zs[k] (List.getElem_mem hkz)
          simpa [List.getD, List.getElem?_eq_getElem hkz] using this
        have hnx := wideV_next zs k hkz
        rw [hx] at hnx
        rw [← HW.out] at hb1 hnx
        have hp : (4294967296 : Int) ^ k ≤ 4294967296 := by
          have := H2.out
          rcases (by omega : k = 0 ∨ k = 1) with rfl | rfl <;> decide
        have hv0 : 0 ≤ v := hb1.1
        have hv1 : v ≤ 4294967295 := by omega
        have HNX := Lib.hid hnx.symm
        have w2' : IntKind.u64.wrap x = x := IntWalk.u64_in _ (by omega)
        have w3' := or_wide v x hv0 hv1 hxb.1 hxb.2
        clear hb1 hx hnx hp hkz
        go_wp2
        go_round
        case rel => exact ⟨k + 1, v * 4294967296 + x, by omega, by go_num, by first | rfl | rw [w3'], Lib.hid HNX.out⟩
        case measure => simp [intOf]; omega
      · have HE : Hid (v = V) := Lib.hid (by rw [HW.out, List.take_of_length_le (by rw [HL.out]; omega), HV.out])
        obtain rfl := HE.out
        go_wp2
        go_ret2
        exact ⟨rfl, rfl⟩
  · have k2 : decide ((2 : Int) < (n : Int)) = true := decide_eq_true (by omega)
    rw [if_neg h2, if_neg h2]
    clear h2
    go_enter Try.func16, Try.ntmps16
    go_wp2
    go_ret2
    exact ⟨rfl, rfl⟩
theorem wideOK : WideOK := fun A n c zs w hl hs hz hn hnc hc => (wide_any A n c zs w hl hs hz (by omega) hnc hc).mono fun e w' ⟨h1, h2⟩ => ⟨h1, by rw [h2]; exact Below.refl _ _⟩

set_option maxHeartbeats 2000000 in
theorem awake7 : Awake7 := by
  intro w
  have C := Lib.hid (wide_any (some ⟨w.heap.size, 0, none⟩) 2 2 [1, 2] (w.alloc (.cells #[.int .u32 1, .int .u32 2] 33)) rfl ⟨rfl, fun _ => ⟨w.heap.size, 0, rfl, by simp, fun i hi => by
    rw [Nat.zero_add]
    rcases (by omega : i = 0 ∨ i = 1) with rfl | rfl <;> exact World.cell?_alloc_new _ _ _ _⟩⟩ (by intro z hz; simp at hz; omega) (by omega) (Nat.le_refl _) (by omega))
  replace C : Hid (Calls Try.prog 16 #[.slice (some ⟨w.heap.size, 0, none⟩) 2 2] (w.alloc (.cells #[.int .u32 1, .int .u32 2] 33)) fun e w' => e = .returned (.tuple #[.int .u64 4294967298, .int .i64 0]) ∧ w' = w.alloc (.cells #[.int .u32 1, .int .u32 2] 33)) := C
  go_enter Try.func7, Try.ntmps7
  go_wp2_with fail
  refine C.out.mono ?_
  rintro e w1 ⟨rfl, rfl⟩
  go_wp2
  go_ret
  exact ⟨rfl, (Below.refl _ _).alloc (Nat.le_refl _) _⟩
end Go.Proofs.Ythlaoidlhbjaiaa
