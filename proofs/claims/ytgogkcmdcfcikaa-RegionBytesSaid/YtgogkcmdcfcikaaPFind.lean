/-
  Layer 3: the value of a node's property (tree.Find), over bytes.Clone at slices of any length.
-/
import Derived.Test.YtgogkcmdcfcikaaTFind
import Derived.Test.YtgogkcmdcfcikaaEText
namespace Go.Proofs.Ytgogkcmdcfcikaa
open Go.RowKit
set_option linter.unusedVariables false
set_option linter.unusedSimpArgs false

set_option maxHeartbeats 1000000 in
theorem findc_any (n : Nd) (s : ByteArray) (w : World) (hin : n.In w w.heap.size) (r : Int) (hr : r = idxOf (n.props.map PV.name) s) :
    Calls Try.prog 20 #[n.val, .string s] w fun e w' => ∃ A c zs, e = .returned (.tuple #[.slice A zs.length c, .bool (decide (0 ≤ r))]) ∧ (Shows w' w'.heap.size A zs.length zs ∧ zs.length ≤ c ∧ c ≤ 9223372036854775807) ∧
      (r < 0 ∧ zs = [] ∨ ∃ k, ∃ hk : k < n.props.length, r = k ∧ zs = n.props[k].zs) ∧ Below w.heap.size w w' := by
  obtain ⟨nm, pa, pc, ps, ka, kc, ks⟩ := n
  have HI := Lib.hid hin
  have HR := Lib.hid hr
  obtain ⟨hl, hm⟩ : ps.length ≤ pc ∧ pc ≤ 9223372036854775807 := hin.plen
  have HM := Lib.hid (show (ps.map PV.name).length = ps.length from List.length_map _)
  clear hin hr
  show Calls _ _ #[.agg #[.string nm, .slice pa ps.length pc, .slice ka ks.length kc], .string s] _ _
  go_enter Try.func20, Try.ntmps20
  go_wp2_with fail
  go_loopw [11] (fun i wr => ∃ k : Nat, k ≤ ps.length ∧ i = .int .i64 k ∧ Missed (ps.map PV.name) s k ∧ Below w.heap.size w wr) (fun i _ => ps.length - (intOf i).toNat)
  case atStart => exact ⟨0, Nat.zero_le _, rfl, Missed.zero _ _, (Below.refl _ _).alloc (Nat.le_refl _) _⟩
  case round =>
    obtain ⟨k, hk, rfl, hmiss, hb⟩ := hrel
    have HA := Lib.hid hmiss
    have HB := Lib.hid hb
    clear hmiss hb
    by_cases hlt : k < ps.length
    · obtain ⟨b, o, e, hb, c0, c1⟩ := (HI.out.under HB.out).pcell (i := k) hlt
      obtain rfl : pa = _ := e
      replace c0 : _ = some (Value.string ps[k].name) := c0
      replace c1 : _ = some (Value.slice ps[k].addr ps[k].zs.length ps[k].cap) := c1
      have hxm : Hid ((ps.map PV.name)[k]'(by rw [HM.out]; exact hlt) = ps[k].name) := List.getElem_map _
      by_cases hxs : ps[k].name = s
      · have heq : (ps[k].name.toList == s.toList) = true := by rw [hxs]; simp
        have HX := Lib.hid hxs
        clear hxs
        obtain rfl : r = k := by rw [HR.out]; exact HA.out.hit _ (hxm.out.trans HX.out)
        have HV := Lib.hid (HI.out.prop (List.getElem_mem hlt))
        have HB2 := Lib.hid (HB.out.alloc HB.out.size (.cells #[Value.string ps[k].name, Value.slice ps[k].addr ps[k].zs.length ps[k].cap] 70))
        go_wp2_with fail
        refine (bclone_any ps[k].addr ps[k].zs.length ps[k].cap ps[k].zs _ ((HV.out.2.1.below HB2.out).more HB2.out.size) HV.out.1.2).mono ?_
        rintro e w' ⟨v', rfl, hown, hb'⟩
        obtain ⟨A, c, rfl, hsh, hc1, hc2⟩ := owned_shows hown HV.out.2.1.2.1
        have HS := Lib.hid (And.intro hsh (And.intro hc1 hc2))
        have HB3 := Lib.hid (HB2.out.trans (hb'.mono HB2.out.size))
        clear hown hsh hb' hc1 hc2
        go_wp2
        go_ret2
        refine ⟨A, c, ps[k].zs, ?_, HS.out, .inr ⟨k, hlt, rfl, rfl⟩, HB3.out⟩
        congr 3
      · have hne := str_ne hxs
        have HF := Lib.hid (HA.out.succ (by rw [HM.out]; exact hlt) (by rw [hxm.out]; exact hxs))
        clear hxs
        go_wp2
        go_roundw
        case rel => exact ⟨k + 1, by omega, by go_num, HF, HB.out.alloc HB.out.size _⟩
        case measure => simp [intOf]; omega
    · obtain rfl : r = -1 := by rw [HR.out]; exact HA.out.all (by rw [HM.out]; exact hlt)
      go_wp2
      go_ret2
      exact ⟨none, 0, [], rfl, ⟨Shows.nil _ _, Nat.le_refl _, by omega⟩, .inl ⟨by omega, rfl⟩, HB.out⟩

theorem find_off (n : Nd) (s : ByteArray) (w : World) (hin : n.In w w.heap.size) (h : idxOf (n.props.map PV.name) s < 0) :
    Calls Try.prog 20 #[n.val, .string s] w fun e w' => (∃ A c, e = .returned (.tuple #[.slice A 0 c, .bool false]) ∧ c ≤ 9223372036854775807) ∧ Below w.heap.size w w' :=
  (findc_any n s w hin _ rfl).mono fun e w' ⟨A, c, zs, he, hs, hw, hb⟩ => by
    rcases hw with ⟨_, rfl⟩ | ⟨k, _, e, _⟩
    · exact ⟨⟨A, c, by rw [he, decide_eq_false (by omega)]; rfl, hs.2.2⟩, hb⟩
    · omega
theorem find_on (n : Nd) (s : ByteArray) (w : World) (hin : n.In w w.heap.size) (k : Nat) (hk : k < n.props.length) (h : idxOf (n.props.map PV.name) s = (k : Int)) (zs : List Int) (hz : n.props[k].zs = zs) :
    Calls Try.prog 20 #[n.val, .string s] w fun e w' => (∃ A c, e = .returned (.tuple #[.slice A zs.length c, .bool true]) ∧ Shows w' w'.heap.size A zs.length zs ∧ zs.length ≤ c ∧ c ≤ 9223372036854775807) ∧ Below w.heap.size w w' :=
  (findc_any n s w hin _ rfl).mono fun e w' ⟨A, c, zs', he, hs, hw, hb⟩ => by
    rcases hw with ⟨h0, _⟩ | ⟨j, hj, e, h1⟩
    · omega
    · obtain rfl : j = k := by omega
      obtain rfl : zs' = zs := h1.trans hz
      exact ⟨⟨A, c, by rw [he, decide_eq_true (by omega)], hs⟩, hb⟩
end Go.Proofs.Ytgogkcmdcfcikaa
