/-
  Layer 12, RegionInside: out of what the program's Inside and Meet answer.
-/
import Derived.Test.YtgogkcmdcfcikaaLRegBytes
import Derived.Test.YtgogkcmdcfcikaaReg
import Derived.Deep.DrawnRows
namespace Go.Proofs.Ytgogkcmdcfcikaa
open Go.RowKit
set_option linter.unusedVariables false
set_option linter.unusedSimpArgs false
attribute [local go_sem ↓] Go.wp_at_zero Go.wp_at_succ

theorem meet_comm (a s b t : Int) : meetB a s b t = meetB b t a s := by
  unfold meetB
  rw [Bool.eq_iff_iff]
  simp only [Bool.and_eq_true, decide_eq_true_eq]
  omega

set_option maxRecDepth 20000 in
set_option maxHeartbeats 8000000 in
theorem regionInside_true (hK : Awake12) (hI : InsideOK) (hM : MeetOK) (a s b t x z : Int) (w : World) (ha : U64 a) (hs : U64 s) (hb : U64 b) (ht : U64 t) (hx : U64 x) (hz : U64 z) :
    Calls Try.prog 5 #[.agg #[.int .u64 a, .int .u64 s], .agg #[.int .u64 b, .int .u64 t], .int .u64 x, .int .u64 z] w fun e w' => e = .returned (.bool true) ∧ Below w.heap.size w w' := by
  obtain ⟨i, hi⟩ : ∃ i, insideB a s x z = i := ⟨_, rfl⟩
  obtain ⟨m, hm⟩ : ∃ m, meetB a s b t = m := ⟨_, rfl⟩
  have HK := Lib.hid hK
  have CI := Lib.hid (fun W => hI a s x z W ha hs hx hz)
  have DI := Lib.hid (fun W => refinside_any a s x z W ha hs hx hz i hi)
  have CM := Lib.hid (fun W => hM a s b t W ha hs hb ht)
  have DM := Lib.hid (fun W => refmeet_any a s b t W ha hs hb ht m hm)
  have CM' := Lib.hid (fun W => hM b t a s W hb ht ha hs)
  rw [hi] at CI
  rw [hm] at CM
  rw [← meet_comm a s b t, hm] at CM'
  have HB0 := Lib.hid (((Below.refl w.heap.size w).alloc (Nat.le_refl _) (.cells #[Value.int .u64 a, .int .u64 s] 42)).alloc (by simp) (.cells #[Value.int .u64 b, .int .u64 t] 42))
  have BX : Hid (∀ W, Below (w.heap.size + 2) ((w.alloc (.cells #[Value.int .u64 a, .int .u64 s] 42)).alloc (.cells #[Value.int .u64 b, .int .u64 t] 42)) W →
      W.cell? ⟨w.heap.size, 0, none⟩ = some (.int .u64 a) ∧ W.cell? ⟨w.heap.size, 1, none⟩ = some (.int .u64 s) ∧ W.cell? ⟨w.heap.size + 1, 0, none⟩ = some (.int .u64 b) ∧ W.cell? ⟨w.heap.size + 1, 1, none⟩ = some (.int .u64 t)) := Lib.hid (fun W h =>
    ⟨(h.cell (by simp)).trans (World.cell?_alloc2_first _ _ _ _), (h.cell (by simp)).trans (World.cell?_alloc2_first _ _ _ _), (h.cell (by simp)).trans (World.cell?_alloc2_new _ _ _ _), (h.cell (by simp)).trans (World.cell?_alloc2_new _ _ _ _)⟩)
  clear hK hI hM ha hs hb ht hx hz hi hm
  go_enter Try.func5, Try.ntmps5
  go_wp2_with fail
  refine (HK.out _).mono ?_
  rintro e w1 ⟨rfl, hb⟩
  have HB1 := Lib.hid (HB0.out.trans (hb.mono HB0.out.size))
  have HX1 := Lib.hid (hb.mono (B' := w.heap.size + 2) (by simp))
  clear hb
  obtain ⟨x0, x1, y0, y1⟩ := BX.out _ HX1.out
  have hl1 : w.heap.size + 1 < w1.heap.size := by have := HX1.out.size; simp at this; omega
  have x0' : ∀ o, (w1.alloc o).cell? _ = _ := fun o => Lib.cell?_alloc_some o x0
  have x1' : ∀ o, (w1.alloc o).cell? _ = _ := fun o => Lib.cell?_alloc_some o x1
  have y0' : ∀ o, (w1.alloc o).cell? _ = _ := fun o => Lib.cell?_alloc_some o y0
  have y1' : ∀ o, (w1.alloc o).cell? _ = _ := fun o => Lib.cell?_alloc_some o y1
  have x0'' : ∀ o o', ((w1.alloc o).alloc o').cell? _ = _ := fun o o' => Lib.cell?_alloc_some o' (x0' o)
  have x1'' : ∀ o o', ((w1.alloc o).alloc o').cell? _ = _ := fun o o' => Lib.cell?_alloc_some o' (x1' o)
  have y0'' : ∀ o o', ((w1.alloc o).alloc o').cell? _ = _ := fun o o' => Lib.cell?_alloc_some o' (y0' o)
  have y1'' : ∀ o o', ((w1.alloc o).alloc o').cell? _ = _ := fun o o' => Lib.cell?_alloc_some o' (y1' o)
  go_wp2_with fail
  have qi : (i == i) = true := by simp
  have qm : (m == m) = true := by simp
  go_region
  · have HS : Hid (∀ W, Below (((w1.alloc (.cells #[Value.int .u64 a, .int .u64 s] 41)).alloc (.cells #[Value.int .u64 b, .int .u64 t] 41)).drew).heap.size (((w1.alloc (.cells #[Value.int .u64 a, .int .u64 s] 41)).alloc (.cells #[Value.int .u64 b, .int .u64 t] 41)).drew) W → (W.cell? ⟨w.heap.size, 0, none⟩ = some (.int .u64 a) ∧ W.cell? ⟨w.heap.size, 1, none⟩ = some (.int .u64 s) ∧ W.cell? ⟨w.heap.size + 1, 0, none⟩ = some (.int .u64 b) ∧ W.cell? ⟨w.heap.size + 1, 1, none⟩ = some (.int .u64 t) ∧ W.cell? ⟨w1.heap.size, 0, none⟩ = some (.int .u64 a) ∧ W.cell? ⟨w1.heap.size, 1, none⟩ = some (.int .u64 s) ∧ W.cell? ⟨w1.heap.size + 1, 0, none⟩ = some (.int .u64 b) ∧ W.cell? ⟨w1.heap.size + 1, 1, none⟩ = some (.int .u64 t))) := Lib.hid (fun W hW => by
      have ko : ∀ {r : Addr} {v : Value}, (((w1.alloc (.cells #[Value.int .u64 a, .int .u64 s] 41)).alloc (.cells #[Value.int .u64 b, .int .u64 t] 41)).drew).cell? r = some v → W.cell? r = some v := fun {r v} h => (hW.cell (p := r) (World.block_lt_of_cell? _ _ h)).trans h
      exact ⟨ko (x0'' _ _), ko (x1'' _ _), ko (y0'' _ _), ko (y1'' _ _), ko (World.cell?_alloc2_first _ _ _ _), ko (World.cell?_alloc2_first _ _ _ _), ko (World.cell?_alloc2_new _ _ _ _), ko (World.cell?_alloc2_new _ _ _ _)⟩)
    have HW : Hid (Below w1.heap.size w1 (((w1.alloc (.cells #[Value.int .u64 a, .int .u64 s] 41)).alloc (.cells #[Value.int .u64 b, .int .u64 t] 41)).drew)) := Lib.hid ((((Below.refl w1.heap.size w1).alloc (Nat.le_refl _) _).alloc (by simp) _).drew)
    generalize ((w1.alloc (.cells #[Value.int .u64 a, .int .u64 s] 41)).alloc (.cells #[Value.int .u64 b, .int .u64 t] 41)).drew = W0 at *
    have HZ0 := Lib.hid ((Below.refl W0.heap.size W0).drew)
    clear x0 x1 y0 y1 x0' x1' y0' y1' x0'' x1'' y0'' y1''
    go_wp2_with fail
    refine wp_region_held_drew (S := fun W => W.cell? ⟨w.heap.size, 0, none⟩ = some (.int .u64 a) ∧ W.cell? ⟨w.heap.size, 1, none⟩ = some (.int .u64 s) ∧ W.cell? ⟨w.heap.size + 1, 0, none⟩ = some (.int .u64 b) ∧ W.cell? ⟨w.heap.size + 1, 1, none⟩ = some (.int .u64 t) ∧ W.cell? ⟨w1.heap.size, 0, none⟩ = some (.int .u64 a) ∧ W.cell? ⟨w1.heap.size, 1, none⟩ = some (.int .u64 s) ∧ W.cell? ⟨w1.heap.size + 1, 0, none⟩ = some (.int .u64 b) ∧ W.cell? ⟨w1.heap.size + 1, 1, none⟩ = some (.int .u64 t)) (by kernel_rfl) (HS.out _ HZ0.out) (fun hHeld => ?_)
    refine held_take 0 rfl (by kernel_rfl) (by kernel_rfl) (by kernel_rfl) (fun _ _ _ h => h) (by rfl) hHeld (v := ?_) (fun w hSw => ?_) (fun _ => ?_)
    rotate_left
    · ((try dsimp only at hSw); go_simp; (try with_reducible rfl))
    simp only [Act.put, List.setIfInBounds_toArray, List.set_cons_zero, List.set_cons_succ]
    refine held_take 1 rfl (by kernel_rfl) (by kernel_rfl) (by kernel_rfl) (fun _ _ _ h => h) (by rfl) hHeld (v := ?_) (fun w hSw => ?_) (fun _ => ?_)
    rotate_left
    · ((try dsimp only at hSw); go_simp; (try with_reducible rfl))
    simp only [Act.put, List.setIfInBounds_toArray, List.set_cons_zero, List.set_cons_succ]
    refine held_take 2 rfl (by kernel_rfl) (by kernel_rfl) (by kernel_rfl) (fun _ _ _ h => h) (by rfl) hHeld (v := ?_) (fun w hSw => ?_) (fun _ => ?_)
    rotate_left
    · ((try dsimp only at hSw); go_simp; (try with_reducible rfl))
    simp only [Act.put, List.setIfInBounds_toArray, List.set_cons_zero, List.set_cons_succ]
    refine held_take 4 rfl (by kernel_rfl) (by kernel_rfl) (by kernel_rfl) (fun _ _ _ h => h) (by rfl) hHeld (v := ?_) (fun w hSw => ?_) (fun _ => ?_)
    rotate_left
    · ((try dsimp only at hSw); go_simp; (try with_reducible rfl))
    simp only [Act.put, List.setIfInBounds_toArray, List.set_cons_zero, List.set_cons_succ]
    refine held_take 5 rfl (by kernel_rfl) (by kernel_rfl) (by kernel_rfl) (fun _ _ _ h => h) (by rfl) hHeld (v := ?_) (fun w hSw => ?_) (fun _ => ?_)
    rotate_left
    · ((try dsimp only at hSw); go_simp; (try with_reducible rfl))
    simp only [Act.put, List.setIfInBounds_toArray, List.set_cons_zero, List.set_cons_succ]
    refine held_take 6 rfl (by kernel_rfl) (by kernel_rfl) (by kernel_rfl) (fun _ _ _ h => h) (by rfl) hHeld (v := ?_) (fun w hSw => ?_) (fun _ => ?_)
    rotate_left
    · ((try dsimp only at hSw); go_simp; (try with_reducible rfl))
    simp only [Act.put, List.setIfInBounds_toArray, List.set_cons_zero, List.set_cons_succ]
    refine held_call 3 (by kernel_rfl) rfl (by rfl) (fun K hK => ?_)
    go_simp
    refine (CI.out _).mono ?_
    rintro e w3 ⟨rfl, hb⟩
    have HZ3 := Lib.hid (HZ0.out.trans (hb.mono HZ0.out.size))
    clear hb
    dsimp only
    refine hK.out _ _ (HS.out _ HZ3.out) (fun hHeld => ?_)
    clear hK K
    refine held_call 7 (by kernel_rfl) rfl (by rfl) (fun K hK => ?_)
    go_simp
    refine (DI.out _).mono ?_
    rintro e w4 ⟨rfl, hb⟩
    have HZ4 := Lib.hid (HZ3.out.trans (hb.mono HZ3.out.size))
    clear hb
    dsimp only
    refine hK.out _ _ (HS.out _ HZ4.out) (fun hHeld => ?_)
    clear hK K
    refine held_take 8 rfl (by kernel_rfl) (by kernel_rfl) (by kernel_rfl) (fun _ _ _ h => h) (by rfl) hHeld (v := ?_) (fun w hSw => ?_) (fun _ => ?_)
    rotate_left
    · ((try dsimp only at hSw); go_simp; (try with_reducible rfl))
    simp only [Act.put, List.setIfInBounds_toArray, List.set_cons_zero, List.set_cons_succ]
    refine held_take 9 rfl (by kernel_rfl) (by kernel_rfl) (by kernel_rfl) (fun _ _ _ h => h) (by rfl) hHeld (v := ?_) (fun w hSw => ?_) (fun _ => ?_)
    rotate_left
    · ((try dsimp only at hSw); go_simp; (try with_reducible rfl))
    simp only [Act.put, List.setIfInBounds_toArray, List.set_cons_zero, List.set_cons_succ]
    refine held_take 10 rfl (by kernel_rfl) (by kernel_rfl) (by kernel_rfl) (fun _ _ _ h => h) (by rfl) hHeld (v := ?_) (fun w hSw => ?_) (fun _ => ?_)
    rotate_left
    · ((try dsimp only at hSw); go_simp; (try with_reducible rfl))
    simp only [Act.put, List.setIfInBounds_toArray, List.set_cons_zero, List.set_cons_succ]
    refine held_take 11 rfl (by kernel_rfl) (by kernel_rfl) (by kernel_rfl) (fun _ _ _ h => h) (by rfl) hHeld (v := ?_) (fun w hSw => ?_) (fun _ => ?_)
    rotate_left
    · ((try dsimp only at hSw); go_simp; (try with_reducible rfl))
    simp only [Act.put, List.setIfInBounds_toArray, List.set_cons_zero, List.set_cons_succ]
    refine held_take 13 rfl (by kernel_rfl) (by kernel_rfl) (by kernel_rfl) (fun _ _ _ h => h) (by rfl) hHeld (v := ?_) (fun w hSw => ?_) (fun _ => ?_)
    rotate_left
    · ((try dsimp only at hSw); go_simp; (try with_reducible rfl))
    simp only [Act.put, List.setIfInBounds_toArray, List.set_cons_zero, List.set_cons_succ]
    refine held_take 14 rfl (by kernel_rfl) (by kernel_rfl) (by kernel_rfl) (fun _ _ _ h => h) (by rfl) hHeld (v := ?_) (fun w hSw => ?_) (fun _ => ?_)
    rotate_left
    · ((try dsimp only at hSw); go_simp; (try with_reducible rfl))
    simp only [Act.put, List.setIfInBounds_toArray, List.set_cons_zero, List.set_cons_succ]
    refine held_call 12 (by kernel_rfl) rfl (by rfl) (fun K hK => ?_)
    go_simp
    refine (CM.out _).mono ?_
    rintro e w5 ⟨rfl, hb⟩
    have HZ5 := Lib.hid (HZ4.out.trans (hb.mono HZ4.out.size))
    clear hb
    dsimp only
    refine hK.out _ _ (HS.out _ HZ5.out) (fun hHeld => ?_)
    clear hK K
    refine held_call 15 (by kernel_rfl) rfl (by rfl) (fun K hK => ?_)
    go_simp
    refine (DM.out _).mono ?_
    rintro e w6 ⟨rfl, hb⟩
    have HZ6 := Lib.hid (HZ5.out.trans (hb.mono HZ5.out.size))
    clear hb
    dsimp only
    refine hK.out _ _ (HS.out _ HZ6.out) (fun hHeld => ?_)
    clear hK K
    refine held_take 16 rfl (by kernel_rfl) (by kernel_rfl) (by kernel_rfl) (fun _ _ _ h => h) (by rfl) hHeld (v := ?_) (fun w hSw => ?_) (fun _ => ?_)
    rotate_left
    · ((try dsimp only at hSw); go_simp; (try with_reducible rfl))
    simp only [Act.put, List.setIfInBounds_toArray, List.set_cons_zero, List.set_cons_succ]
    refine held_take 17 rfl (by kernel_rfl) (by kernel_rfl) (by kernel_rfl) (fun _ _ _ h => h) (by rfl) hHeld (v := ?_) (fun w hSw => ?_) (fun _ => ?_)
    rotate_left
    · ((try dsimp only at hSw); go_simp; (try with_reducible rfl))
    simp only [Act.put, List.setIfInBounds_toArray, List.set_cons_zero, List.set_cons_succ]
    refine held_take 18 rfl (by kernel_rfl) (by kernel_rfl) (by kernel_rfl) (fun _ _ _ h => h) (by rfl) hHeld (v := ?_) (fun w hSw => ?_) (fun _ => ?_)
    rotate_left
    · ((try dsimp only at hSw); go_simp; (try with_reducible rfl))
    simp only [Act.put, List.setIfInBounds_toArray, List.set_cons_zero, List.set_cons_succ]
    refine held_take 19 rfl (by kernel_rfl) (by kernel_rfl) (by kernel_rfl) (fun _ _ _ h => h) (by rfl) hHeld (v := ?_) (fun w hSw => ?_) (fun _ => ?_)
    rotate_left
    · ((try dsimp only at hSw); go_simp; (try with_reducible rfl))
    simp only [Act.put, List.setIfInBounds_toArray, List.set_cons_zero, List.set_cons_succ]
    refine held_take 20 rfl (by kernel_rfl) (by kernel_rfl) (by kernel_rfl) (fun _ _ _ h => h) (by rfl) hHeld (v := ?_) (fun w hSw => ?_) (fun _ => ?_)
    rotate_left
    · ((try dsimp only at hSw); go_simp; (try with_reducible rfl))
    simp only [Act.put, List.setIfInBounds_toArray, List.set_cons_zero, List.set_cons_succ]
    refine held_take 22 rfl (by kernel_rfl) (by kernel_rfl) (by kernel_rfl) (fun _ _ _ h => h) (by rfl) hHeld (v := ?_) (fun w hSw => ?_) (fun _ => ?_)
    rotate_left
    · ((try dsimp only at hSw); go_simp; (try with_reducible rfl))
    simp only [Act.put, List.setIfInBounds_toArray, List.set_cons_zero, List.set_cons_succ]
    refine held_take 23 rfl (by kernel_rfl) (by kernel_rfl) (by kernel_rfl) (fun _ _ _ h => h) (by rfl) hHeld (v := ?_) (fun w hSw => ?_) (fun _ => ?_)
    rotate_left
    · ((try dsimp only at hSw); go_simp; (try with_reducible rfl))
    simp only [Act.put, List.setIfInBounds_toArray, List.set_cons_zero, List.set_cons_succ]
    refine held_call 21 (by kernel_rfl) rfl (by rfl) (fun K hK => ?_)
    go_simp
    refine (CM'.out _).mono ?_
    rintro e w7 ⟨rfl, hb⟩
    have HZ7 := Lib.hid (HZ6.out.trans (hb.mono HZ6.out.size))
    clear hb
    dsimp only
    refine hK.out _ _ (HS.out _ HZ7.out) (fun hHeld => ?_)
    clear hK K
    refine held_call 24 (by kernel_rfl) rfl (by rfl) (fun K hK => ?_)
    go_simp
    refine (CM.out _).mono ?_
    rintro e w8 ⟨rfl, hb⟩
    have HZ8 := Lib.hid (HZ7.out.trans (hb.mono HZ7.out.size))
    clear hb
    dsimp only
    refine hK.out _ _ (HS.out _ HZ8.out) (fun hHeld => ?_)
    clear hK K
    refine held_take 25 rfl (by kernel_rfl) (by kernel_rfl) (by kernel_rfl) (fun _ _ _ h => h) (by rfl) hHeld (v := ?_) (fun w hSw => ?_) (fun _ => ?_)
    rotate_left
    · ((try dsimp only at hSw); go_simp; (try with_reducible rfl))
    simp only [Act.put, List.setIfInBounds_toArray, List.set_cons_zero, List.set_cons_succ]
    refine held_take 26 rfl (by kernel_rfl) (by kernel_rfl) (by kernel_rfl) (fun _ _ _ h => h) (by rfl) hHeld (v := ?_) (fun w hSw => ?_) (fun _ => ?_)
    rotate_left
    · ((try dsimp only at hSw); go_simp; (try with_reducible rfl))
    simp only [Act.put, List.setIfInBounds_toArray, List.set_cons_zero, List.set_cons_succ]
    refine held_take 27 rfl (by kernel_rfl) (by kernel_rfl) (by kernel_rfl) (fun _ _ _ h => h) (by rfl) hHeld (v := ?_) (fun w hSw => ?_) (fun _ => ?_)
    rotate_left
    · ((try dsimp only at hSw); go_simp; (try with_reducible rfl))
    simp only [Act.put, List.setIfInBounds_toArray, List.set_cons_zero, List.set_cons_succ]
    refine wpAnyH_done (by kernel_rfl) ?_ _
    clear hHeld
    have HBZ := Lib.hid (HB1.out.trans ((HW.out.trans (HZ8.out.mono HW.out.size)).mono HB1.out.size))
    go_wp2
    go_ret
    exact ⟨rfl, HBZ.out⟩
  · have HS : Hid (∀ W, Below (((w1.alloc (.cells #[Value.int .u64 b, .int .u64 t] 41)).alloc (.cells #[Value.int .u64 a, .int .u64 s] 41)).drew).heap.size (((w1.alloc (.cells #[Value.int .u64 b, .int .u64 t] 41)).alloc (.cells #[Value.int .u64 a, .int .u64 s] 41)).drew) W → (W.cell? ⟨w.heap.size, 0, none⟩ = some (.int .u64 a) ∧ W.cell? ⟨w.heap.size, 1, none⟩ = some (.int .u64 s) ∧ W.cell? ⟨w.heap.size + 1, 0, none⟩ = some (.int .u64 b) ∧ W.cell? ⟨w.heap.size + 1, 1, none⟩ = some (.int .u64 t) ∧ W.cell? ⟨w1.heap.size + 1, 0, none⟩ = some (.int .u64 a) ∧ W.cell? ⟨w1.heap.size + 1, 1, none⟩ = some (.int .u64 s) ∧ W.cell? ⟨w1.heap.size, 0, none⟩ = some (.int .u64 b) ∧ W.cell? ⟨w1.heap.size, 1, none⟩ = some (.int .u64 t))) := Lib.hid (fun W hW => by
      have ko : ∀ {r : Addr} {v : Value}, (((w1.alloc (.cells #[Value.int .u64 b, .int .u64 t] 41)).alloc (.cells #[Value.int .u64 a, .int .u64 s] 41)).drew).cell? r = some v → W.cell? r = some v := fun {r v} h => (hW.cell (p := r) (World.block_lt_of_cell? _ _ h)).trans h
      exact ⟨ko (x0'' _ _), ko (x1'' _ _), ko (y0'' _ _), ko (y1'' _ _), ko (World.cell?_alloc2_new _ _ _ _), ko (World.cell?_alloc2_new _ _ _ _), ko (World.cell?_alloc2_first _ _ _ _), ko (World.cell?_alloc2_first _ _ _ _)⟩)
    have HW : Hid (Below w1.heap.size w1 (((w1.alloc (.cells #[Value.int .u64 b, .int .u64 t] 41)).alloc (.cells #[Value.int .u64 a, .int .u64 s] 41)).drew)) := Lib.hid ((((Below.refl w1.heap.size w1).alloc (Nat.le_refl _) _).alloc (by simp) _).drew)
    generalize ((w1.alloc (.cells #[Value.int .u64 b, .int .u64 t] 41)).alloc (.cells #[Value.int .u64 a, .int .u64 s] 41)).drew = W0 at *
    have HZ0 := Lib.hid ((Below.refl W0.heap.size W0).drew)
    clear x0 x1 y0 y1 x0' x1' y0' y1' x0'' x1'' y0'' y1''
    go_wp2_with fail
    refine wp_region_held_drew (S := fun W => W.cell? ⟨w.heap.size, 0, none⟩ = some (.int .u64 a) ∧ W.cell? ⟨w.heap.size, 1, none⟩ = some (.int .u64 s) ∧ W.cell? ⟨w.heap.size + 1, 0, none⟩ = some (.int .u64 b) ∧ W.cell? ⟨w.heap.size + 1, 1, none⟩ = some (.int .u64 t) ∧ W.cell? ⟨w1.heap.size + 1, 0, none⟩ = some (.int .u64 a) ∧ W.cell? ⟨w1.heap.size + 1, 1, none⟩ = some (.int .u64 s) ∧ W.cell? ⟨w1.heap.size, 0, none⟩ = some (.int .u64 b) ∧ W.cell? ⟨w1.heap.size, 1, none⟩ = some (.int .u64 t)) (by kernel_rfl) (HS.out _ HZ0.out) (fun hHeld => ?_)
    refine held_take 0 rfl (by kernel_rfl) (by kernel_rfl) (by kernel_rfl) (fun _ _ _ h => h) (by rfl) hHeld (v := ?_) (fun w hSw => ?_) (fun _ => ?_)
    rotate_left
    · ((try dsimp only at hSw); go_simp; (try with_reducible rfl))
    simp only [Act.put, List.setIfInBounds_toArray, List.set_cons_zero, List.set_cons_succ]
    refine held_take 1 rfl (by kernel_rfl) (by kernel_rfl) (by kernel_rfl) (fun _ _ _ h => h) (by rfl) hHeld (v := ?_) (fun w hSw => ?_) (fun _ => ?_)
    rotate_left
    · ((try dsimp only at hSw); go_simp; (try with_reducible rfl))
    simp only [Act.put, List.setIfInBounds_toArray, List.set_cons_zero, List.set_cons_succ]
    refine held_take 2 rfl (by kernel_rfl) (by kernel_rfl) (by kernel_rfl) (fun _ _ _ h => h) (by rfl) hHeld (v := ?_) (fun w hSw => ?_) (fun _ => ?_)
    rotate_left
    · ((try dsimp only at hSw); go_simp; (try with_reducible rfl))
    simp only [Act.put, List.setIfInBounds_toArray, List.set_cons_zero, List.set_cons_succ]
    refine held_take 4 rfl (by kernel_rfl) (by kernel_rfl) (by kernel_rfl) (fun _ _ _ h => h) (by rfl) hHeld (v := ?_) (fun w hSw => ?_) (fun _ => ?_)
    rotate_left
    · ((try dsimp only at hSw); go_simp; (try with_reducible rfl))
    simp only [Act.put, List.setIfInBounds_toArray, List.set_cons_zero, List.set_cons_succ]
    refine held_take 5 rfl (by kernel_rfl) (by kernel_rfl) (by kernel_rfl) (fun _ _ _ h => h) (by rfl) hHeld (v := ?_) (fun w hSw => ?_) (fun _ => ?_)
    rotate_left
    · ((try dsimp only at hSw); go_simp; (try with_reducible rfl))
    simp only [Act.put, List.setIfInBounds_toArray, List.set_cons_zero, List.set_cons_succ]
    refine held_take 6 rfl (by kernel_rfl) (by kernel_rfl) (by kernel_rfl) (fun _ _ _ h => h) (by rfl) hHeld (v := ?_) (fun w hSw => ?_) (fun _ => ?_)
    rotate_left
    · ((try dsimp only at hSw); go_simp; (try with_reducible rfl))
    simp only [Act.put, List.setIfInBounds_toArray, List.set_cons_zero, List.set_cons_succ]
    refine held_call 3 (by kernel_rfl) rfl (by rfl) (fun K hK => ?_)
    go_simp
    refine (CI.out _).mono ?_
    rintro e w3 ⟨rfl, hb⟩
    have HZ3 := Lib.hid (HZ0.out.trans (hb.mono HZ0.out.size))
    clear hb
    dsimp only
    refine hK.out _ _ (HS.out _ HZ3.out) (fun hHeld => ?_)
    clear hK K
    refine held_call 7 (by kernel_rfl) rfl (by rfl) (fun K hK => ?_)
    go_simp
    refine (DI.out _).mono ?_
    rintro e w4 ⟨rfl, hb⟩
    have HZ4 := Lib.hid (HZ3.out.trans (hb.mono HZ3.out.size))
    clear hb
    dsimp only
    refine hK.out _ _ (HS.out _ HZ4.out) (fun hHeld => ?_)
    clear hK K
    refine held_take 8 rfl (by kernel_rfl) (by kernel_rfl) (by kernel_rfl) (fun _ _ _ h => h) (by rfl) hHeld (v := ?_) (fun w hSw => ?_) (fun _ => ?_)
    rotate_left
    · ((try dsimp only at hSw); go_simp; (try with_reducible rfl))
    simp only [Act.put, List.setIfInBounds_toArray, List.set_cons_zero, List.set_cons_succ]
    refine held_take 9 rfl (by kernel_rfl) (by kernel_rfl) (by kernel_rfl) (fun _ _ _ h => h) (by rfl) hHeld (v := ?_) (fun w hSw => ?_) (fun _ => ?_)
    rotate_left
    · ((try dsimp only at hSw); go_simp; (try with_reducible rfl))
    simp only [Act.put, List.setIfInBounds_toArray, List.set_cons_zero, List.set_cons_succ]
    refine held_take 10 rfl (by kernel_rfl) (by kernel_rfl) (by kernel_rfl) (fun _ _ _ h => h) (by rfl) hHeld (v := ?_) (fun w hSw => ?_) (fun _ => ?_)
    rotate_left
    · ((try dsimp only at hSw); go_simp; (try with_reducible rfl))
    simp only [Act.put, List.setIfInBounds_toArray, List.set_cons_zero, List.set_cons_succ]
    refine held_take 11 rfl (by kernel_rfl) (by kernel_rfl) (by kernel_rfl) (fun _ _ _ h => h) (by rfl) hHeld (v := ?_) (fun w hSw => ?_) (fun _ => ?_)
    rotate_left
    · ((try dsimp only at hSw); go_simp; (try with_reducible rfl))
    simp only [Act.put, List.setIfInBounds_toArray, List.set_cons_zero, List.set_cons_succ]
    refine held_take 13 rfl (by kernel_rfl) (by kernel_rfl) (by kernel_rfl) (fun _ _ _ h => h) (by rfl) hHeld (v := ?_) (fun w hSw => ?_) (fun _ => ?_)
    rotate_left
    · ((try dsimp only at hSw); go_simp; (try with_reducible rfl))
    simp only [Act.put, List.setIfInBounds_toArray, List.set_cons_zero, List.set_cons_succ]
    refine held_take 14 rfl (by kernel_rfl) (by kernel_rfl) (by kernel_rfl) (fun _ _ _ h => h) (by rfl) hHeld (v := ?_) (fun w hSw => ?_) (fun _ => ?_)
    rotate_left
    · ((try dsimp only at hSw); go_simp; (try with_reducible rfl))
    simp only [Act.put, List.setIfInBounds_toArray, List.set_cons_zero, List.set_cons_succ]
    refine held_call 12 (by kernel_rfl) rfl (by rfl) (fun K hK => ?_)
    go_simp
    refine (CM.out _).mono ?_
    rintro e w5 ⟨rfl, hb⟩
    have HZ5 := Lib.hid (HZ4.out.trans (hb.mono HZ4.out.size))
    clear hb
    dsimp only
    refine hK.out _ _ (HS.out _ HZ5.out) (fun hHeld => ?_)
    clear hK K
    refine held_call 15 (by kernel_rfl) rfl (by rfl) (fun K hK => ?_)
    go_simp
    refine (DM.out _).mono ?_
    rintro e w6 ⟨rfl, hb⟩
    have HZ6 := Lib.hid (HZ5.out.trans (hb.mono HZ5.out.size))
    clear hb
    dsimp only
    refine hK.out _ _ (HS.out _ HZ6.out) (fun hHeld => ?_)
    clear hK K
    refine held_take 16 rfl (by kernel_rfl) (by kernel_rfl) (by kernel_rfl) (fun _ _ _ h => h) (by rfl) hHeld (v := ?_) (fun w hSw => ?_) (fun _ => ?_)
    rotate_left
    · ((try dsimp only at hSw); go_simp; (try with_reducible rfl))
    simp only [Act.put, List.setIfInBounds_toArray, List.set_cons_zero, List.set_cons_succ]
    refine held_take 17 rfl (by kernel_rfl) (by kernel_rfl) (by kernel_rfl) (fun _ _ _ h => h) (by rfl) hHeld (v := ?_) (fun w hSw => ?_) (fun _ => ?_)
    rotate_left
    · ((try dsimp only at hSw); go_simp; (try with_reducible rfl))
    simp only [Act.put, List.setIfInBounds_toArray, List.set_cons_zero, List.set_cons_succ]
    refine held_take 18 rfl (by kernel_rfl) (by kernel_rfl) (by kernel_rfl) (fun _ _ _ h => h) (by rfl) hHeld (v := ?_) (fun w hSw => ?_) (fun _ => ?_)
    rotate_left
    · ((try dsimp only at hSw); go_simp; (try with_reducible rfl))
    simp only [Act.put, List.setIfInBounds_toArray, List.set_cons_zero, List.set_cons_succ]
    refine held_take 19 rfl (by kernel_rfl) (by kernel_rfl) (by kernel_rfl) (fun _ _ _ h => h) (by rfl) hHeld (v := ?_) (fun w hSw => ?_) (fun _ => ?_)
    rotate_left
    · ((try dsimp only at hSw); go_simp; (try with_reducible rfl))
    simp only [Act.put, List.setIfInBounds_toArray, List.set_cons_zero, List.set_cons_succ]
    refine held_take 20 rfl (by kernel_rfl) (by kernel_rfl) (by kernel_rfl) (fun _ _ _ h => h) (by rfl) hHeld (v := ?_) (fun w hSw => ?_) (fun _ => ?_)
    rotate_left
    · ((try dsimp only at hSw); go_simp; (try with_reducible rfl))
    simp only [Act.put, List.setIfInBounds_toArray, List.set_cons_zero, List.set_cons_succ]
    refine held_take 22 rfl (by kernel_rfl) (by kernel_rfl) (by kernel_rfl) (fun _ _ _ h => h) (by rfl) hHeld (v := ?_) (fun w hSw => ?_) (fun _ => ?_)
    rotate_left
    · ((try dsimp only at hSw); go_simp; (try with_reducible rfl))
    simp only [Act.put, List.setIfInBounds_toArray, List.set_cons_zero, List.set_cons_succ]
    refine held_take 23 rfl (by kernel_rfl) (by kernel_rfl) (by kernel_rfl) (fun _ _ _ h => h) (by rfl) hHeld (v := ?_) (fun w hSw => ?_) (fun _ => ?_)
    rotate_left
    · ((try dsimp only at hSw); go_simp; (try with_reducible rfl))
    simp only [Act.put, List.setIfInBounds_toArray, List.set_cons_zero, List.set_cons_succ]
    refine held_call 21 (by kernel_rfl) rfl (by rfl) (fun K hK => ?_)
    go_simp
    refine (CM'.out _).mono ?_
    rintro e w7 ⟨rfl, hb⟩
    have HZ7 := Lib.hid (HZ6.out.trans (hb.mono HZ6.out.size))
    clear hb
    dsimp only
    refine hK.out _ _ (HS.out _ HZ7.out) (fun hHeld => ?_)
    clear hK K
    refine held_call 24 (by kernel_rfl) rfl (by rfl) (fun K hK => ?_)
    go_simp
    refine (CM.out _).mono ?_
    rintro e w8 ⟨rfl, hb⟩
    have HZ8 := Lib.hid (HZ7.out.trans (hb.mono HZ7.out.size))
    clear hb
    dsimp only
    refine hK.out _ _ (HS.out _ HZ8.out) (fun hHeld => ?_)
    clear hK K
    refine held_take 25 rfl (by kernel_rfl) (by kernel_rfl) (by kernel_rfl) (fun _ _ _ h => h) (by rfl) hHeld (v := ?_) (fun w hSw => ?_) (fun _ => ?_)
    rotate_left
    · ((try dsimp only at hSw); go_simp; (try with_reducible rfl))
    simp only [Act.put, List.setIfInBounds_toArray, List.set_cons_zero, List.set_cons_succ]
    refine held_take 26 rfl (by kernel_rfl) (by kernel_rfl) (by kernel_rfl) (fun _ _ _ h => h) (by rfl) hHeld (v := ?_) (fun w hSw => ?_) (fun _ => ?_)
    rotate_left
    · ((try dsimp only at hSw); go_simp; (try with_reducible rfl))
    simp only [Act.put, List.setIfInBounds_toArray, List.set_cons_zero, List.set_cons_succ]
    refine held_take 27 rfl (by kernel_rfl) (by kernel_rfl) (by kernel_rfl) (fun _ _ _ h => h) (by rfl) hHeld (v := ?_) (fun w hSw => ?_) (fun _ => ?_)
    rotate_left
    · ((try dsimp only at hSw); go_simp; (try with_reducible rfl))
    simp only [Act.put, List.setIfInBounds_toArray, List.set_cons_zero, List.set_cons_succ]
    refine wpAnyH_done (by kernel_rfl) ?_ _
    clear hHeld
    have HBZ := Lib.hid (HB1.out.trans ((HW.out.trans (HZ8.out.mono HW.out.size)).mono HB1.out.size))
    go_wp2
    go_ret
    exact ⟨rfl, HBZ.out⟩
end Go.Proofs.Ytgogkcmdcfcikaa
