/-
  Layer 3: which property, or which node right below, has a name.
-/
import Derived.Test.YtgogkcmdcfcikaaTIdx
namespace Go.Proofs.Ytgogkcmdcfcikaa
open Go.RowKit
set_option linter.unusedVariables false
set_option linter.unusedSimpArgs false

set_option maxHeartbeats 1000000 in
theorem reffind_any (n : Nd) (s : ByteArray) (w : World) (hin : n.In w w.heap.size) (r : Int) (hr : r = idxOf (n.props.map PV.name) s) :
    Calls Try.prog 24 #[n.val, .string s] w fun e w' => e = .returned (.int .i64 r) ∧ Below w.heap.size w w' := by
  obtain ⟨nm, pa, pc, ps, ka, kc, ks⟩ := n
  have HI := Lib.hid hin
  have HR := Lib.hid hr
  obtain ⟨hl, hm⟩ : ps.length ≤ pc ∧ pc ≤ 9223372036854775807 := hin.plen
  have HM := Lib.hid (show (ps.map PV.name).length = ps.length from List.length_map _)
  clear hin hr
  show Calls _ _ #[.agg #[.string nm, .slice pa ps.length pc, .slice ka ks.length kc], .string s] _ _
  go_enter Try.func24, Try.ntmps24
  go_wp2_with fail
  go_loop [9] (fun i => ∃ k : Nat, k ≤ ps.length ∧ i = .int .i64 k ∧ Missed (ps.map PV.name) s k) (fun i => ps.length - (intOf i).toNat)
  case atStart => exact ⟨0, Nat.zero_le _, rfl, Missed.zero _ _⟩
  case round =>
    obtain ⟨k, hk, rfl, hmiss⟩ := hrel
    have HA := Lib.hid hmiss
    clear hmiss
    by_cases hlt : k < ps.length
    · have HB := Lib.hid ((Below.refl w.heap.size w).alloc (Nat.le_refl _) (.cells #[Value.string nm, .slice pa ps.length pc, .slice ka ks.length kc] 25))
      obtain ⟨b, o, e, hb, c0, c1⟩ := (HI.out.under HB.out).pcell (i := k) hlt
      obtain rfl : pa = _ := e
      replace c0 : _ = some (Value.string ps[k].name) := c0
      clear c1
      have hxm : Hid ((ps.map PV.name)[k]'(by rw [HM.out]; exact hlt) = ps[k].name) := List.getElem_map _
      obtain ⟨x, hx⟩ : ∃ x, x = ps[k].name := ⟨_, rfl⟩
      rw [← hx] at c0 hxm
      clear hx
      by_cases hxs : x = s
      · subst hxs
        obtain rfl : r = k := by rw [HR.out]; exact HA.out.hit _ hxm.out
        go_wp2
        go_ret
        exact ⟨rfl, HB.out⟩
      · have hne := str_ne hxs
        have HF := Lib.hid (HA.out.succ (by rw [HM.out]; exact hlt) (by rw [hxm.out]; exact hxs))
        clear hxs
        go_wp2
        go_round
        case rel => exact ⟨k + 1, by omega, by go_num, HF⟩
        case measure => simp [intOf]; omega
    · obtain rfl : r = -1 := by rw [HR.out]; exact HA.out.all (by rw [HM.out]; exact hlt)
      go_wp2
      go_ret
      exact ⟨rfl, (Below.refl _ _).alloc (Nat.le_refl _) _⟩
end Go.Proofs.Ytgogkcmdcfcikaa
