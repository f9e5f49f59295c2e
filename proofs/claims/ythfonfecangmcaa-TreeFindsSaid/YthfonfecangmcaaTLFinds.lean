/-
  Layer 3, TreeFinds: for every node and every text the program and the document count alike, find the same property's value, and the same node right below.
-/
import Derived.Test.YthfonfecangmcaaTClone
import Derived.Test.YthfonfecangmcaaTCount
import Derived.Test.YthfonfecangmcaaTAwake
import Derived.Test.YthfonfecangmcaaReg
import Derived.BigQuiet
import Derived.Deep.DrawnRows
namespace Go.Proofs.Ythfonfecangmcaa
open Go.RowKit
set_option linter.unusedVariables false
set_option linter.unusedSimpArgs false
attribute [local go_sem ↓] Go.wp_at_zero Go.wp_at_succ

theorem below_drewN' {B : Nat} {a w : World} (h : Below B a w) (n : Nat) : Below B a (w.drewN n) := ⟨h.os, h.tape, h.output, h.size, h.block⟩
theorem idxOf_sign (l : List ByteArray) (s : ByteArray) : -1 ≤ idxOf l s := by
  induction l with
  | nil => simp [idxOf]
  | cons x l ih =>
    rw [idxOf]
    by_cases h : x = s
    · rw [if_pos h]; omega
    · rw [if_neg h]
      by_cases h' : idxOf l s < 0
      · rw [if_pos h']; omega
      · rw [if_neg h']; omega

set_option maxHeartbeats 4000000 in
theorem treeFinds_true (n : Nd) (s : ByteArray) (w : World) (hin : n.In w w.heap.size) :
    Calls Try.prog 5 #[n.val, .string s] w fun e w' => e = .returned (.bool true) ∧ Below w.heap.size w w' := by
  have HI := Lib.hid hin
  obtain ⟨r, hr⟩ : ∃ r, r = idxOf (n.props.map PV.name) s := ⟨_, rfl⟩
  obtain ⟨q, hq⟩ : ∃ q, q = idxOf (n.kids.map Nd.name) s := ⟨_, rfl⟩
  obtain ⟨a, ha⟩ : ∃ a, a = wrap64 (nodesN n) := ⟨_, rfl⟩
  obtain ⟨c, hc⟩ : ∃ c, c = wrap64 (propsN n) := ⟨_, rfl⟩
  have hr0 := hr ▸ idxOf_sign (n.props.map PV.name) s
  have C0 := Lib.hid (fun w h => size_any n 0 w h (by omega) (by omega))
  have C1 := Lib.hid (fun w h => (count_any n w h).mono fun e w' (h : Counted e n ∧ _) => show e = .returned (.tuple #[.int .i64 a, .int .i64 c]) ∧ Below w.heap.size w w' from ⟨by rw [ha, hc]; exact h.1, h.2⟩)
  have C2 := Lib.hid (fun w h => (refcount_any n w h).mono fun e w' (h : Counted e n ∧ _) => show e = .returned (.tuple #[.int .i64 a, .int .i64 c]) ∧ Below w.heap.size w w' from ⟨by rw [ha, hc]; exact h.1, h.2⟩)
  have C3 := Lib.hid (fun w h => find_any n s w h r hr)
  have C4 := Lib.hid (fun w h => reffind_any n s w h r hr)
  have C5 := Lib.hid (fun w h => kid_any n s w h q hq)
  have C6 := Lib.hid (fun w h => refkid_any n s w h q hq)
  clear ha hc hr hq hin
  obtain ⟨nm, pa, pc, ps, ka, kc, ks⟩ := n
  show Calls _ _ #[.agg #[.string nm, .slice pa ps.length pc, .slice ka ks.length kc], .string s] _ _
  have HW := Lib.hid ((Below.refl w.heap.size w).alloc (Nat.le_refl _) (.cells #[Value.string nm, .slice pa ps.length pc, .slice ka ks.length kc] 27))
  go_enter Try.func5, Try.ntmps5
  go_wp2_with fail
  refine (awake3 _).mono ?_
  rintro e w1 ⟨rfl, hb⟩
  have b0 := (hb.cell (p := ⟨w.heap.size, 0, none⟩) (by simp)).trans (World.cell?_alloc_new _ _ _ _)
  have b1 := (hb.cell (p := ⟨w.heap.size, 1, none⟩) (by simp)).trans (World.cell?_alloc_new _ _ _ _)
  have b2 := (hb.cell (p := ⟨w.heap.size, 2, none⟩) (by simp)).trans (World.cell?_alloc_new _ _ _ _)
  replace b0 : _ = some (Value.string nm) := b0
  replace b1 : _ = some (Value.slice pa ps.length pc) := b1
  replace b2 : _ = some (Value.slice ka ks.length kc) := b2
  have HB := Lib.hid (HW.out.trans (hb.mono HW.out.size))
  have HB1 := Lib.hid (show w.heap.size + 1 ≤ w1.heap.size by have := hb.size; simpa using this)
  clear hb HW
  go_wp2_with fail
  refine (C0.out _ (HI.out.on HB.out)).mono ?_
  rintro e w2 ⟨⟨z, rfl⟩, hb⟩
  have B0 := (hb.cell (p := ⟨w.heap.size, 0, none⟩) (by have := HB1.out; simp; omega)).trans b0
  have B1 := (hb.cell (p := ⟨w.heap.size, 1, none⟩) (by have := HB1.out; simp; omega)).trans b1
  have B2 := (hb.cell (p := ⟨w.heap.size, 2, none⟩) (by have := HB1.out; simp; omega)).trans b2
  have HB' := Lib.hid (HB.out.trans (hb.mono HB.out.size))
  have HB1' := Lib.hid (Nat.le_trans HB1.out hb.size)
  clear hb HB HB1 b0 b1 b2
  by_cases hz : 100000 < z
  · go_wp2_with fail
    refine (awake3 _).mono ?_
    rintro e w3 ⟨rfl, hb⟩
    have HB := Lib.hid (HB'.out.trans (hb.mono HB'.out.size))
    clear hb B0 B1 B2
    go_wp2
    go_ret
    exact ⟨rfl, HB.out⟩
  · have hz' : ¬ (100000 < z) := hz
    clear hz
    go_wp2_with fail
    refine (C1.out _ (HI.out.on HB'.out)).mono ?_
    rintro e w3 ⟨rfl, hb⟩
    have b0 := (hb.cell (p := ⟨w.heap.size, 0, none⟩) (by have := HB1'.out; simp; omega)).trans B0
    have b1 := (hb.cell (p := ⟨w.heap.size, 1, none⟩) (by have := HB1'.out; simp; omega)).trans B1
    have b2 := (hb.cell (p := ⟨w.heap.size, 2, none⟩) (by have := HB1'.out; simp; omega)).trans B2
    clear B0 B1 B2
    have B0 := b0
    have B1 := b1
    have B2 := b2
    have HBx := Lib.hid (HB'.out.trans (hb.mono HB'.out.size))
    have HB1x := Lib.hid (Nat.le_trans HB1'.out hb.size)
    clear hb HB' HB1' b0 b1 b2
    have HB' := HBx
    have HB1' := HB1x
    clear HBx HB1x
    clear hz'
    go_wp2_with fail
    refine (C2.out _ (HI.out.on HB'.out)).mono ?_
    rintro e w4 ⟨rfl, hb⟩
    have b0 := (hb.cell (p := ⟨w.heap.size, 0, none⟩) (by have := HB1'.out; simp; omega)).trans B0
    have b1 := (hb.cell (p := ⟨w.heap.size, 1, none⟩) (by have := HB1'.out; simp; omega)).trans B1
    have b2 := (hb.cell (p := ⟨w.heap.size, 2, none⟩) (by have := HB1'.out; simp; omega)).trans B2
    clear B0 B1 B2
    have B0 := b0
    have B1 := b1
    have B2 := b2
    have HBx := Lib.hid (HB'.out.trans (hb.mono HB'.out.size))
    have HB1x := Lib.hid (Nat.le_trans HB1'.out hb.size)
    clear hb HB' HB1' b0 b1 b2
    have HB' := HBx
    have HB1' := HB1x
    clear HBx HB1x
    go_wp2_with fail
    refine (C3.out _ (HI.out.on HB'.out)).mono ?_
    rintro e w5 ⟨A, m, zs, rfl, hsh, hval, hb⟩
    have b0 := (hb.cell (p := ⟨w.heap.size, 0, none⟩) (by have := HB1'.out; simp; omega)).trans B0
    have b1 := (hb.cell (p := ⟨w.heap.size, 1, none⟩) (by have := HB1'.out; simp; omega)).trans B1
    have b2 := (hb.cell (p := ⟨w.heap.size, 2, none⟩) (by have := HB1'.out; simp; omega)).trans B2
    clear B0 B1 B2
    have B0 := b0
    have B1 := b1
    have B2 := b2
    have HBx := Lib.hid (HB'.out.trans (hb.mono HB'.out.size))
    have HB1x := Lib.hid (Nat.le_trans HB1'.out hb.size)
    have HS := Lib.hid hsh
    have HV : Hid (r < 0 ∧ zs = [] ∨ ∃ k, ∃ hk : k < ps.length, r = k ∧ zs = ps[k].zs) := hval
    clear hsh hval
    clear hb HB' HB1' b0 b1 b2
    have HB' := HBx
    have HB1' := HB1x
    clear HBx HB1x
    go_wp2_with fail
    refine (C4.out _ (HI.out.on HB'.out)).mono ?_
    rintro e w6 ⟨rfl, hb⟩
    have b0 := (hb.cell (p := ⟨w.heap.size, 0, none⟩) (by have := HB1'.out; simp; omega)).trans B0
    have b1 := (hb.cell (p := ⟨w.heap.size, 1, none⟩) (by have := HB1'.out; simp; omega)).trans B1
    have b2 := (hb.cell (p := ⟨w.heap.size, 2, none⟩) (by have := HB1'.out; simp; omega)).trans B2
    clear B0 B1 B2
    have B0 := b0
    have B1 := b1
    have B2 := b2
    have HBx := Lib.hid (HB'.out.trans (hb.mono HB'.out.size))
    have HB1x := Lib.hid (Nat.le_trans HB1'.out hb.size)
    have HS' := Lib.hid ((HS.out.below hb).more hb.size)
    clear HS
    clear hb HB' HB1' b0 b1 b2
    have HB' := HBx
    have HB1' := HB1x
    clear HBx HB1x
    rcases HV.out with ⟨hneg, hzs⟩ | ⟨k, hk, hrk, hzs⟩
    · subst hzs
      have hr1 : ¬ (0 ≤ r) := by omega
      have hr2 : decide (0 ≤ r) = false := decide_eq_false hr1
      go_wp2_with fail
      refine wp_region_held_drew (S := fun W => W.cell? ⟨w.heap.size, 0, none⟩ = some (.string nm) ∧ W.cell? ⟨w.heap.size, 1, none⟩ = some (.slice pa ps.length pc) ∧ W.cell? ⟨w.heap.size, 2, none⟩ = some (.slice ka ks.length kc)) (by kernel_rfl) ⟨B0, B1, B2⟩ (fun hHeld => ?_)
      refine held_take 0 rfl (by kernel_rfl) (by kernel_rfl) (by kernel_rfl) (fun _ _ _ h => h) (by rfl) hHeld (v := ?_) (fun w hSw => ?_) (fun _ => ?_)
      rotate_left
      · ((try dsimp only at hSw); go_simp; (try with_reducible rfl))
      simp only [Act.put, List.setIfInBounds_toArray, List.set_cons_zero, List.set_cons_succ]
      refine held_take 1 rfl (by kernel_rfl) (by kernel_rfl) (by kernel_rfl) (fun _ _ _ h => h) (by rfl) hHeld (v := ?_) (fun w hSw => ?_) (fun _ => ?_)
      rotate_left
      · ((try dsimp only at hSw); go_simp; (try with_reducible rfl))
      simp only [Act.put, List.setIfInBounds_toArray, List.set_cons_zero, List.set_cons_succ]
      refine held_take 2 rfl (by kernel_rfl) (by kernel_rfl) (by kernel_rfl) (fun _ _ _ h => h) (by rfl) hHeld (v := ?_) (fun w hSw => ?_) (fun _ => ?_)
      rotate_left
      · ((try dsimp only at hSw); go_simp; (try with_reducible rfl))
      simp only [Act.put, List.setIfInBounds_toArray, List.set_cons_zero, List.set_cons_succ]
      refine held_take 3 rfl (by kernel_rfl) (by kernel_rfl) (by kernel_rfl) (fun _ _ _ h => h) (by rfl) hHeld (v := ?_) (fun w hSw => ?_) (fun _ => ?_)
      rotate_left
      · ((try dsimp only at hSw); go_simp; (try with_reducible rfl))
      simp only [Act.put, List.setIfInBounds_toArray, List.set_cons_zero, List.set_cons_succ]
      refine held_take 4 rfl (by kernel_rfl) (by kernel_rfl) (by kernel_rfl) (fun _ _ _ h => h) (by rfl) hHeld (v := ?_) (fun w hSw => ?_) (fun _ => ?_)
      rotate_left
      · ((try dsimp only at hSw); go_simp; (try with_reducible rfl))
      simp only [Act.put, List.setIfInBounds_toArray, List.set_cons_zero, List.set_cons_succ]
      refine held_take 5 rfl (by kernel_rfl) (by kernel_rfl) (by kernel_rfl) (fun _ _ _ h => h) (by rfl) hHeld (v := ?_) (fun w hSw => ?_) (fun _ => ?_)
      rotate_left
      · ((try dsimp only at hSw); go_simp; (try with_reducible rfl))
      simp only [Act.put, List.setIfInBounds_toArray, List.set_cons_zero, List.set_cons_succ]
      refine held_take 6 rfl (by kernel_rfl) (by kernel_rfl) (by kernel_rfl) (fun _ _ _ h => h) (by rfl) hHeld (v := ?_) (fun w hSw => ?_) (fun _ => ?_)
      rotate_left
      · ((try dsimp only at hSw); go_simp; (try with_reducible rfl))
      simp only [Act.put, List.setIfInBounds_toArray, List.set_cons_zero, List.set_cons_succ]
      refine held_take 7 rfl (by kernel_rfl) (by kernel_rfl) (by kernel_rfl) (fun _ _ _ h => h) (by rfl) hHeld (v := ?_) (fun w hSw => ?_) (fun _ => ?_)
      rotate_left
      · ((try dsimp only at hSw); go_simp; (try with_reducible rfl))
      simp only [Act.put, List.setIfInBounds_toArray, List.set_cons_zero, List.set_cons_succ]
      refine held_take 8 rfl (by kernel_rfl) (by kernel_rfl) (by kernel_rfl) (fun _ _ _ h => h) (by rfl) hHeld (v := ?_) (fun w hSw => ?_) (fun _ => ?_)
      rotate_left
      · ((try dsimp only at hSw); go_simp; (try with_reducible rfl))
      simp only [Act.put, List.setIfInBounds_toArray, List.set_cons_zero, List.set_cons_succ]
      refine held_take 9 rfl (by kernel_rfl) (by kernel_rfl) (by kernel_rfl) (fun _ _ _ h => h) (by rfl) hHeld (v := ?_) (fun w hSw => ?_) (fun _ => ?_)
      rotate_left
      · ((try dsimp only at hSw); go_simp; (try with_reducible rfl))
      simp only [Act.put, List.setIfInBounds_toArray, List.set_cons_zero, List.set_cons_succ]
      refine held_take 10 rfl (by kernel_rfl) (by kernel_rfl) (by kernel_rfl) (fun _ _ _ h => h) (by rfl) hHeld (v := ?_) (fun w hSw => ?_) (fun _ => ?_)
      rotate_left
      · ((try dsimp only at hSw); go_simp; (try with_reducible rfl))
      simp only [Act.put, List.setIfInBounds_toArray, List.set_cons_zero, List.set_cons_succ]
      refine held_take 11 rfl (by kernel_rfl) (by kernel_rfl) (by kernel_rfl) (fun _ _ _ h => h) (by rfl) hHeld (v := ?_) (fun w hSw => ?_) (fun _ => ?_)
      rotate_left
      · ((try dsimp only at hSw); go_simp; (try with_reducible rfl))
      simp only [Act.put, List.setIfInBounds_toArray, List.set_cons_zero, List.set_cons_succ]
      refine held_take 12 rfl (by kernel_rfl) (by kernel_rfl) (by kernel_rfl) (fun _ _ _ h => h) (by rfl) hHeld (v := ?_) (fun w hSw => ?_) (fun _ => ?_)
      rotate_left
      · ((try dsimp only at hSw); go_simp; (try with_reducible rfl))
      simp only [Act.put, List.setIfInBounds_toArray, List.set_cons_zero, List.set_cons_succ]
      refine held_take 13 rfl (by kernel_rfl) (by kernel_rfl) (by kernel_rfl) (fun _ _ _ h => h) (by rfl) hHeld (v := ?_) (fun w hSw => ?_) (fun _ => ?_)
      rotate_left
      · ((try dsimp only at hSw); go_simp; (try with_reducible rfl))
      simp only [Act.put, List.setIfInBounds_toArray, List.set_cons_zero, List.set_cons_succ]
      refine held_take 14 rfl (by kernel_rfl) (by kernel_rfl) (by kernel_rfl) (fun _ _ _ h => h) (by rfl) hHeld (v := ?_) (fun w hSw => ?_) (fun _ => ?_)
      rotate_left
      · ((try dsimp only at hSw); go_simp; (try with_reducible rfl))
      simp only [Act.put, List.setIfInBounds_toArray, List.set_cons_zero, List.set_cons_succ]
      refine held_take 15 rfl (by kernel_rfl) (by kernel_rfl) (by kernel_rfl) (fun _ _ _ h => h) (by rfl) hHeld (v := ?_) (fun w hSw => ?_) (fun _ => ?_)
      rotate_left
      · ((try dsimp only at hSw); go_simp; (try with_reducible rfl))
      simp only [Act.put, List.setIfInBounds_toArray, List.set_cons_zero, List.set_cons_succ]
      refine held_take 16 rfl (by kernel_rfl) (by kernel_rfl) (by kernel_rfl) (fun _ _ _ h => h) (by rfl) hHeld (v := ?_) (fun w hSw => ?_) (fun _ => ?_)
      rotate_left
      · ((try dsimp only at hSw); go_simp; (try with_reducible rfl))
      simp only [Act.put, List.setIfInBounds_toArray, List.set_cons_zero, List.set_cons_succ]
      refine held_take 18 rfl (by kernel_rfl) (by kernel_rfl) (by kernel_rfl) (fun _ _ _ h => h) (by rfl) hHeld (v := ?_) (fun w hSw => ?_) (fun _ => ?_)
      rotate_left
      · ((try dsimp only at hSw); go_simp; (try with_reducible rfl))
      simp only [Act.put, List.setIfInBounds_toArray, List.set_cons_zero, List.set_cons_succ]
      refine held_take 19 rfl (by kernel_rfl) (by kernel_rfl) (by kernel_rfl) (fun _ _ _ h => h) (by rfl) hHeld (v := ?_) (fun w hSw => ?_) (fun _ => ?_)
      rotate_left
      · ((try dsimp only at hSw); go_simp; (try with_reducible rfl))
      simp only [Act.put, List.setIfInBounds_toArray, List.set_cons_zero, List.set_cons_succ]
      refine held_call 17 (by kernel_rfl) rfl (by rfl) (fun K hK => ?_)
      go_simp
      refine (C5.out _ (HI.out.on HB'.out.drew)).mono ?_
      rintro e w7 ⟨rfl, hb7⟩
      have D0 := (hb7.cell (p := ⟨w.heap.size, 0, none⟩) (by have := HB1'.out; simp; omega)).trans B0
      have D1 := (hb7.cell (p := ⟨w.heap.size, 1, none⟩) (by have := HB1'.out; simp; omega)).trans B1
      have D2 := (hb7.cell (p := ⟨w.heap.size, 2, none⟩) (by have := HB1'.out; simp; omega)).trans B2
      dsimp only
      refine hK.out _ _ ⟨D0, D1, D2⟩ (fun hHeld => ?_)
      clear hK K
      have HB7 := Lib.hid (HB'.out.drew.trans (hb7.mono HB'.out.size))
      have HS7 := Lib.hid ((HS'.out.below ((Below.refl _ w6).drew.trans hb7)).more hb7.size)
      have HB1' := Lib.hid (Nat.le_trans HB1'.out hb7.size)
      clear hb7
      refine held_call 20 (by kernel_rfl) rfl (by rfl) (fun K hK => ?_)
      go_simp
      refine (C6.out _ (HI.out.on HB7.out)).mono ?_
      rintro e w8 ⟨rfl, hb8⟩
      have E0 := (hb8.cell (p := ⟨w.heap.size, 0, none⟩) (by have := HB1'.out; simp; omega)).trans D0
      have E1 := (hb8.cell (p := ⟨w.heap.size, 1, none⟩) (by have := HB1'.out; simp; omega)).trans D1
      have E2 := (hb8.cell (p := ⟨w.heap.size, 2, none⟩) (by have := HB1'.out; simp; omega)).trans D2
      dsimp only
      refine hK.out _ _ ⟨E0, E1, E2⟩ (fun hHeld => ?_)
      clear hK K
      have HB8 := Lib.hid (HB7.out.trans (hb8.mono HB7.out.size))
      have HS8 := Lib.hid ((HS7.out.below hb8).more hb8.size)
      clear hb8
      refine held_take 21 rfl (by kernel_rfl) (by kernel_rfl) (by kernel_rfl) (fun _ _ _ h => h) (by rfl) hHeld (v := ?_) (fun w hSw => ?_) (fun _ => ?_)
      rotate_left
      · ((try dsimp only at hSw); go_simp; (try with_reducible rfl))
      simp only [Act.put, List.setIfInBounds_toArray, List.set_cons_zero, List.set_cons_succ]
      refine held_take 22 rfl (by kernel_rfl) (by kernel_rfl) (by kernel_rfl) (fun _ _ _ h => h) (by rfl) hHeld (v := ?_) (fun w hSw => ?_) (fun _ => ?_)
      rotate_left
      · ((try dsimp only at hSw); go_simp; (try with_reducible rfl))
      simp only [Act.put, List.setIfInBounds_toArray, List.set_cons_zero, List.set_cons_succ]
      refine wpAnyH_done (by kernel_rfl) ?_ _
      clear hHeld B0 B1 B2 D0 D1 D2 E0 E2
      clear E1
      go_wp2_with fail
      go_quiet (fail)
      go_wp2
      go_ret
      exact ⟨rfl, below_drewN' HB8.out _⟩
    · clear HV
      subst hrk
      have hk0 : decide ((k : Int) < 0) = false := decide_eq_false (by omega)
      have hk1 : ¬ ((k : Int) < 0) := by omega
      subst hzs
      go_wp2_with fail
      refine wp_region_held_drew (S := fun W => W.cell? ⟨w.heap.size, 0, none⟩ = some (.string nm) ∧ W.cell? ⟨w.heap.size, 1, none⟩ = some (.slice pa ps.length pc) ∧ W.cell? ⟨w.heap.size, 2, none⟩ = some (.slice ka ks.length kc)) (by kernel_rfl) ⟨B0, B1, B2⟩ (fun hHeld => ?_)
      refine held_take 0 rfl (by kernel_rfl) (by kernel_rfl) (by kernel_rfl) (fun _ _ _ h => h) (by rfl) hHeld (v := ?_) (fun w hSw => ?_) (fun _ => ?_)
      rotate_left
      · ((try dsimp only at hSw); go_simp; (try with_reducible rfl))
      simp only [Act.put, List.setIfInBounds_toArray, List.set_cons_zero, List.set_cons_succ]
      refine held_take 1 rfl (by kernel_rfl) (by kernel_rfl) (by kernel_rfl) (fun _ _ _ h => h) (by rfl) hHeld (v := ?_) (fun w hSw => ?_) (fun _ => ?_)
      rotate_left
      · ((try dsimp only at hSw); go_simp; (try with_reducible rfl))
      simp only [Act.put, List.setIfInBounds_toArray, List.set_cons_zero, List.set_cons_succ]
      refine held_take 2 rfl (by kernel_rfl) (by kernel_rfl) (by kernel_rfl) (fun _ _ _ h => h) (by rfl) hHeld (v := ?_) (fun w hSw => ?_) (fun _ => ?_)
      rotate_left
      · ((try dsimp only at hSw); go_simp; (try with_reducible rfl))
      simp only [Act.put, List.setIfInBounds_toArray, List.set_cons_zero, List.set_cons_succ]
      refine held_take 3 rfl (by kernel_rfl) (by kernel_rfl) (by kernel_rfl) (fun _ _ _ h => h) (by rfl) hHeld (v := ?_) (fun w hSw => ?_) (fun _ => ?_)
      rotate_left
      · ((try dsimp only at hSw); go_simp; (try with_reducible rfl))
      simp only [Act.put, List.setIfInBounds_toArray, List.set_cons_zero, List.set_cons_succ]
      refine held_take 4 rfl (by kernel_rfl) (by kernel_rfl) (by kernel_rfl) (fun _ _ _ h => h) (by rfl) hHeld (v := ?_) (fun w hSw => ?_) (fun _ => ?_)
      rotate_left
      · ((try dsimp only at hSw); go_simp; (try with_reducible rfl))
      simp only [Act.put, List.setIfInBounds_toArray, List.set_cons_zero, List.set_cons_succ]
      refine held_take 5 rfl (by kernel_rfl) (by kernel_rfl) (by kernel_rfl) (fun _ _ _ h => h) (by rfl) hHeld (v := ?_) (fun w hSw => ?_) (fun _ => ?_)
      rotate_left
      · ((try dsimp only at hSw); go_simp; (try with_reducible rfl))
      simp only [Act.put, List.setIfInBounds_toArray, List.set_cons_zero, List.set_cons_succ]
      refine held_take 6 rfl (by kernel_rfl) (by kernel_rfl) (by kernel_rfl) (fun _ _ _ h => h) (by rfl) hHeld (v := ?_) (fun w hSw => ?_) (fun _ => ?_)
      rotate_left
      · ((try dsimp only at hSw); go_simp; (try with_reducible rfl))
      simp only [Act.put, List.setIfInBounds_toArray, List.set_cons_zero, List.set_cons_succ]
      refine held_take 7 rfl (by kernel_rfl) (by kernel_rfl) (by kernel_rfl) (fun _ _ _ h => h) (by rfl) hHeld (v := ?_) (fun w hSw => ?_) (fun _ => ?_)
      rotate_left
      · ((try dsimp only at hSw); go_simp; (try with_reducible rfl))
      simp only [Act.put, List.setIfInBounds_toArray, List.set_cons_zero, List.set_cons_succ]
      refine held_take 8 rfl (by kernel_rfl) (by kernel_rfl) (by kernel_rfl) (fun _ _ _ h => h) (by rfl) hHeld (v := ?_) (fun w hSw => ?_) (fun _ => ?_)
      rotate_left
      · ((try dsimp only at hSw); go_simp; (try with_reducible rfl))
      simp only [Act.put, List.setIfInBounds_toArray, List.set_cons_zero, List.set_cons_succ]
      refine held_take 9 rfl (by kernel_rfl) (by kernel_rfl) (by kernel_rfl) (fun _ _ _ h => h) (by rfl) hHeld (v := ?_) (fun w hSw => ?_) (fun _ => ?_)
      rotate_left
      · ((try dsimp only at hSw); go_simp; (try with_reducible rfl))
      simp only [Act.put, List.setIfInBounds_toArray, List.set_cons_zero, List.set_cons_succ]
      refine held_take 10 rfl (by kernel_rfl) (by kernel_rfl) (by kernel_rfl) (fun _ _ _ h => h) (by rfl) hHeld (v := ?_) (fun w hSw => ?_) (fun _ => ?_)
      rotate_left
      · ((try dsimp only at hSw); go_simp; (try with_reducible rfl))
      simp only [Act.put, List.setIfInBounds_toArray, List.set_cons_zero, List.set_cons_succ]
      refine held_take 11 rfl (by kernel_rfl) (by kernel_rfl) (by kernel_rfl) (fun _ _ _ h => h) (by rfl) hHeld (v := ?_) (fun w hSw => ?_) (fun _ => ?_)
      rotate_left
      · ((try dsimp only at hSw); go_simp; (try with_reducible rfl))
      simp only [Act.put, List.setIfInBounds_toArray, List.set_cons_zero, List.set_cons_succ]
      refine held_take 12 rfl (by kernel_rfl) (by kernel_rfl) (by kernel_rfl) (fun _ _ _ h => h) (by rfl) hHeld (v := ?_) (fun w hSw => ?_) (fun _ => ?_)
      rotate_left
      · ((try dsimp only at hSw); go_simp; (try with_reducible rfl))
      simp only [Act.put, List.setIfInBounds_toArray, List.set_cons_zero, List.set_cons_succ]
      refine held_take 13 rfl (by kernel_rfl) (by kernel_rfl) (by kernel_rfl) (fun _ _ _ h => h) (by rfl) hHeld (v := ?_) (fun w hSw => ?_) (fun _ => ?_)
      rotate_left
      · ((try dsimp only at hSw); go_simp; (try with_reducible rfl))
      simp only [Act.put, List.setIfInBounds_toArray, List.set_cons_zero, List.set_cons_succ]
      refine held_take 14 rfl (by kernel_rfl) (by kernel_rfl) (by kernel_rfl) (fun _ _ _ h => h) (by rfl) hHeld (v := ?_) (fun w hSw => ?_) (fun _ => ?_)
      rotate_left
      · ((try dsimp only at hSw); go_simp; (try with_reducible rfl))
      simp only [Act.put, List.setIfInBounds_toArray, List.set_cons_zero, List.set_cons_succ]
      refine held_take 15 rfl (by kernel_rfl) (by kernel_rfl) (by kernel_rfl) (fun _ _ _ h => h) (by rfl) hHeld (v := ?_) (fun w hSw => ?_) (fun _ => ?_)
      rotate_left
      · ((try dsimp only at hSw); go_simp; (try with_reducible rfl))
      simp only [Act.put, List.setIfInBounds_toArray, List.set_cons_zero, List.set_cons_succ]
      refine held_take 16 rfl (by kernel_rfl) (by kernel_rfl) (by kernel_rfl) (fun _ _ _ h => h) (by rfl) hHeld (v := ?_) (fun w hSw => ?_) (fun _ => ?_)
      rotate_left
      · ((try dsimp only at hSw); go_simp; (try with_reducible rfl))
      simp only [Act.put, List.setIfInBounds_toArray, List.set_cons_zero, List.set_cons_succ]
      refine held_take 18 rfl (by kernel_rfl) (by kernel_rfl) (by kernel_rfl) (fun _ _ _ h => h) (by rfl) hHeld (v := ?_) (fun w hSw => ?_) (fun _ => ?_)
      rotate_left
      · ((try dsimp only at hSw); go_simp; (try with_reducible rfl))
      simp only [Act.put, List.setIfInBounds_toArray, List.set_cons_zero, List.set_cons_succ]
      refine held_take 19 rfl (by kernel_rfl) (by kernel_rfl) (by kernel_rfl) (fun _ _ _ h => h) (by rfl) hHeld (v := ?_) (fun w hSw => ?_) (fun _ => ?_)
      rotate_left
      · ((try dsimp only at hSw); go_simp; (try with_reducible rfl))
      simp only [Act.put, List.setIfInBounds_toArray, List.set_cons_zero, List.set_cons_succ]
      refine held_call 17 (by kernel_rfl) rfl (by rfl) (fun K hK => ?_)
      go_simp
      refine (C5.out _ (HI.out.on HB'.out.drew)).mono ?_
      rintro e w7 ⟨rfl, hb7⟩
      have D0 := (hb7.cell (p := ⟨w.heap.size, 0, none⟩) (by have := HB1'.out; simp; omega)).trans B0
      have D1 := (hb7.cell (p := ⟨w.heap.size, 1, none⟩) (by have := HB1'.out; simp; omega)).trans B1
      have D2 := (hb7.cell (p := ⟨w.heap.size, 2, none⟩) (by have := HB1'.out; simp; omega)).trans B2
      dsimp only
      refine hK.out _ _ ⟨D0, D1, D2⟩ (fun hHeld => ?_)
      clear hK K
      have HB7 := Lib.hid (HB'.out.drew.trans (hb7.mono HB'.out.size))
      have HS7 := Lib.hid ((HS'.out.below ((Below.refl _ w6).drew.trans hb7)).more hb7.size)
      have HB1' := Lib.hid (Nat.le_trans HB1'.out hb7.size)
      clear hb7
      refine held_call 20 (by kernel_rfl) rfl (by rfl) (fun K hK => ?_)
      go_simp
      refine (C6.out _ (HI.out.on HB7.out)).mono ?_
      rintro e w8 ⟨rfl, hb8⟩
      have E0 := (hb8.cell (p := ⟨w.heap.size, 0, none⟩) (by have := HB1'.out; simp; omega)).trans D0
      have E1 := (hb8.cell (p := ⟨w.heap.size, 1, none⟩) (by have := HB1'.out; simp; omega)).trans D1
      have E2 := (hb8.cell (p := ⟨w.heap.size, 2, none⟩) (by have := HB1'.out; simp; omega)).trans D2
      dsimp only
      refine hK.out _ _ ⟨E0, E1, E2⟩ (fun hHeld => ?_)
      clear hK K
      have HB8 := Lib.hid (HB7.out.trans (hb8.mono HB7.out.size))
      have HS8 := Lib.hid ((HS7.out.below hb8).more hb8.size)
      clear hb8
      refine held_take 21 rfl (by kernel_rfl) (by kernel_rfl) (by kernel_rfl) (fun _ _ _ h => h) (by rfl) hHeld (v := ?_) (fun w hSw => ?_) (fun _ => ?_)
      rotate_left
      · ((try dsimp only at hSw); go_simp; (try with_reducible rfl))
      simp only [Act.put, List.setIfInBounds_toArray, List.set_cons_zero, List.set_cons_succ]
      refine held_take 22 rfl (by kernel_rfl) (by kernel_rfl) (by kernel_rfl) (fun _ _ _ h => h) (by rfl) hHeld (v := ?_) (fun w hSw => ?_) (fun _ => ?_)
      rotate_left
      · ((try dsimp only at hSw); go_simp; (try with_reducible rfl))
      simp only [Act.put, List.setIfInBounds_toArray, List.set_cons_zero, List.set_cons_succ]
      refine wpAnyH_done (by kernel_rfl) ?_ _
      clear hHeld B0 B1 B2 D0 D1 D2 E0 E2
      have HP := Lib.hid (HI.out.prop (List.getElem_mem hk))
      have HPV := Lib.hid ((HP.out.keep (fun _ hp => HB8.out.cell hp)).2.1)
      obtain ⟨b, o, e, hb, c0, c1⟩ := (HI.out.under HB8.out).pcell (i := k) hk
      obtain rfl : pa = _ := e
      replace c1 : _ = some (Value.slice ps[k].addr ps[k].zs.length ps[k].cap) := c1
      clear c0
      have f1 : ∀ j, (convert 35 9 (.slice A ps[k].zs.length m)).run Try.prog (w8.drewN j) = .ok (.string (strOfNums ps[k].zs)) (w8.drewN j) := fun j => run_string (HS8.out.drewN j) _
      have f2 : ∀ j, (convert 35 9 (.slice ps[k].addr ps[k].zs.length ps[k].cap)).run Try.prog (w8.drewN j) = .ok (.string (strOfNums ps[k].zs)) (w8.drewN j) := fun j => run_string (HPV.out.drewN j) _
      go_wp2_with fail
      go_quiet (fail)
      go_wp2
      go_ret
      exact ⟨rfl, below_drewN' HB8.out _⟩
end Go.Proofs.Ythfonfecangmcaa
