/-
  Layer 3: which property, or which node right below, has a name.
-/
import Derived.Test.YtckdddbiffoolaaDoorTIdx
namespace Go.Proofs.YtckdddbiffoolaaDoor
open Go.RowKit
set_option linter.unusedVariables false
set_option linter.unusedSimpArgs false

theorem kid1_any (k : Nd) (s : ByteArray) (c : Nat) (w : World) (hc : w.cell? ⟨c, 0, none⟩ = some (.string s)) (r : Bool) (hr : (k.name.toList == s.toList) = r) :
    Calls Tryd.prog 47 #[k.val, .pointer (some ⟨c, 0, none⟩)] w fun e w' => e = .returned (.bool r) ∧ Below w.heap.size w w' := by
  obtain ⟨nm, pa, pc, ps, ka, kc, ks⟩ := k
  obtain rfl : (nm.toList == s.toList) = r := hr
  have hc1 : ∀ o, (w.alloc o).cell? ⟨c, 0, none⟩ = some (.string s) := fun o => Lib.cell?_alloc_some o hc
  clear hc
  show Calls _ _ #[.agg #[.string nm, .slice pa ps.length pc, .slice ka ks.length kc], .pointer (some ⟨c, 0, none⟩)] _ _
  go_enter Tryd.func47, Tryd.ntmps47
  go_wp2
  go_ret
  exact ⟨rfl, (Below.refl _ _).alloc (Nat.le_refl _) _⟩

set_option maxHeartbeats 1000000 in
theorem idxfunc_any (n : Nd) (s : ByteArray) (c : Nat) (w : World) (hin : n.In w w.heap.size) (hc : w.cell? ⟨c, 0, none⟩ = some (.string s)) (r : Int) (hr : r = idxOf (n.kids.map Nd.name) s) :
    Calls Tryd.prog 46 #[n.kv, .func (.func 47) #[] #[.pointer (some ⟨c, 0, none⟩)]] w fun e w' => e = .returned (.int .i64 r) ∧ Below w.heap.size w w' := by
  obtain ⟨nm, pa, pc, ps, ka, kc, ks⟩ := n
  have HI := Lib.hid hin
  have HR := Lib.hid hr
  have HC := Lib.hid hc
  have HL := Lib.hid (World.block_lt_of_cell? w _ hc)
  obtain ⟨hl, hm⟩ : ks.length ≤ kc ∧ kc ≤ 9223372036854775807 := hin.klen
  have HM := Lib.hid (show (ks.map Nd.name).length = ks.length from List.length_map _)
  clear hin hr hc
  show Calls _ _ #[.slice ka ks.length kc, .func (.func 47) #[] #[.pointer (some ⟨c, 0, none⟩)]] _ _
  go_enter Tryd.func46, Tryd.ntmps46
  go_wp2_with fail
  go_loopw [8] (fun i wr => ∃ k : Nat, k ≤ ks.length ∧ i = .int .i64 k ∧ Missed (ks.map Nd.name) s k ∧ Below w.heap.size w wr) (fun i _ => ks.length - (intOf i).toNat)
  case atStart => exact ⟨0, Nat.zero_le _, rfl, Missed.zero _ _, Below.refl _ _⟩
  case round =>
    obtain ⟨k, hk, rfl, hmiss, hb⟩ := hrel
    have HA := Lib.hid hmiss
    have HB := Lib.hid hb
    clear hmiss hb
    by_cases hlt : k < ks.length
    · obtain ⟨b, o, e, hb, c0, c1, c2⟩ := (HI.out.under HB.out).kcell (i := k) hlt
      obtain rfl : ka = _ := e
      replace c0 : _ = some (Value.string ks[k].name) := c0
      replace c1 : _ = some (Value.slice ks[k].pa ks[k].props.length ks[k].pc) := c1
      replace c2 : _ = some (Value.slice ks[k].ka ks[k].kids.length ks[k].kc) := c2
      have hxm : Hid ((ks.map Nd.name)[k]'(by rw [HM.out]; exact hlt) = ks[k].name) := List.getElem_map _
      have HK := Lib.hid (fun (r : Bool) (hr : (ks[k].name.toList == s.toList) = r) => kid1_any ks[k] s c wr ((HB.out.cell HL.out).trans HC.out) r hr)
      by_cases hxs : ks[k].name = s
      · have C := Lib.hid (HK.out true (by rw [hxs]; simp))
        have HX := Lib.hid hxs
        clear hxs
        obtain rfl : r = k := by rw [HR.out]; exact HA.out.hit _ (hxm.out.trans HX.out)
        go_wp2_with (go_at_call 47; refine C.out.mono ?_; rintro e w' ⟨rfl, hb'⟩)
        go_ret
        exact ⟨rfl, HB.out.trans ((by assumption : Below wr.heap.size wr _).mono HB.out.size)⟩
      · have C := Lib.hid (HK.out false (str_ne hxs))
        have HF := Lib.hid (HA.out.succ (by rw [HM.out]; exact hlt) (by rw [hxm.out]; exact hxs))
        clear hxs
        go_wp2_with (go_at_call 47; refine C.out.mono ?_; rintro e w' ⟨rfl, hb'⟩)
        go_roundw
        case rel => exact ⟨k + 1, by omega, by go_num, HF, HB.out.trans ((by assumption : Below wr.heap.size wr _).mono HB.out.size)⟩
        case measure => simp [intOf]; omega
    · obtain rfl : r = -1 := by rw [HR.out]; exact HA.out.all (by rw [HM.out]; exact hlt)
      go_wp2
      go_ret
      exact ⟨rfl, HB.out⟩

set_option maxHeartbeats 1000000 in
theorem kid_any (n : Nd) (s : ByteArray) (w : World) (hin : n.In w w.heap.size) (r : Int) (hr : r = idxOf (n.kids.map Nd.name) s) :
    Calls Tryd.prog 31 #[n.val, .string s] w fun e w' => e = .returned (.int .i64 r) ∧ Below w.heap.size w w' := by
  obtain ⟨nm, pa, pc, ps, ka, kc, ks⟩ := n
  have HI := Lib.hid hin
  have HR := Lib.hid hr
  clear hin hr
  show Calls _ _ #[.agg #[.string nm, .slice pa ps.length pc, .slice ka ks.length kc], .string s] _ _
  go_enter Tryd.func31, Tryd.ntmps31
  go_wp2_with fail
  have HB := Lib.hid (((Below.refl w.heap.size w).alloc (Nat.le_refl _) (.cells #[Value.string nm, .slice pa ps.length pc, .slice ka ks.length kc] 27)).alloc (by simp) (.cells #[Value.string s] 9))
  refine (idxfunc_any _ s (w.heap.size + 1) _ ((HI.out.under HB.out).more HB.out.size) (World.cell?_alloc2_new _ _ _ _) r HR.out).mono ?_
  rintro e w' ⟨rfl, hb⟩
  have HB2 := Lib.hid (HB.out.trans (hb.mono HB.out.size))
  clear hb
  go_wp2
  go_ret
  exact ⟨rfl, HB2.out⟩
end Go.Proofs.YtckdddbiffoolaaDoor
