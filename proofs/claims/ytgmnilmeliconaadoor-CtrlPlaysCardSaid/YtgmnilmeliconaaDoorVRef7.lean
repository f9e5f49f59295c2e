/-
  The document's controller: what it answers, and what it becomes.
-/
import Derived.Test.YtgmnilmeliconaaDoorVCtrlS
namespace Go.Proofs.YtgmnilmeliconaaDoor
open Go.RowKit
set_option linter.unusedVariables false
set_option linter.unusedSimpArgs false

set_option maxRecDepth 20000 in
set_option maxHeartbeats 8000000 in
theorem refload7 (b : Nat) (d : DevR) (l m : Nat) (off : Int) (w : World) (h : RefAt w b d) (hk : d.kind = 7) (ho : off = 0 ∨ off = 4 ∨ off = 8 ∨ off = 12) (h0 : d.r0 = (l : Int)) (h1 : d.r1 = (m : Int)) (hl : l < 4294967296) (hm : m < 4294967296) :
    Calls Tryd.prog 9 #[.pointer (some ⟨b, 0, none⟩), .int .u64 off] w fun e w' => e = .returned (.int .u64 (ctrlLoad ⟨l, m⟩ off)) ∧ Below w.heap.size w w' := by
  have c0 : w.cell? ⟨b, 0, none⟩ = some (.int .i64 7) := by rw [← hk]; exact dev_cell h rfl
  have HS : Hid (∀ W : World, Below w.heap.size w W → W.cell? ⟨b, 6, none⟩ = some (.int .u32 l) ∧ W.cell? ⟨b, 7, none⟩ = some (.int .u32 m)) := Lib.hid (fun W hb => ⟨by rw [← h0]; exact dev_cell (h.on hb) rfl, by rw [← h1]; exact dev_cell (h.on hb) rfl⟩)
  have HN := Lib.hid (refnext_any b d l m w.drew h h0 h1 hl hm)
  have HB := Lib.hid (Below.refl w.heap.size w).drew
  have e0 : IntKind.u64.wrap (l : Int) = (l : Int) := IntWalk.u64_in _ (by omega)
  have e1 : IntKind.u64.wrap (m : Int) = (m : Int) := IntWalk.u64_in _ (by omega)
  clear h hk h0 h1 hl hm
  obtain ⟨X, hX⟩ : ∃ X, ctrlLoad ⟨l, m⟩ off = X := ⟨_, rfl⟩
  rw [hX]
  have HX : ∀ W : World, (Instr.index 50 (.agg #[.int .u64 (l : Int), .int .u64 (m : Int), .int .u64 (nextN l m : Int), .int .u64 0]) (.int .u64 (IntKind.u64.wrap (off.tdiv 4)))).run Tryd.prog W = .ok (.int .u64 X) W := fun W => by
    subst hX
    rcases ho with rfl | rfl | rfl | rfl
    · exact (show IntKind.u64.wrap (Int.tdiv 0 4) = ((0 : Nat) : Int) from rfl) ▸ index4 _ _ _ _ 0 _ rfl W
    · exact (show IntKind.u64.wrap (Int.tdiv 4 4) = ((1 : Nat) : Int) from rfl) ▸ index4 _ _ _ _ 1 _ rfl W
    · exact (show IntKind.u64.wrap (Int.tdiv 8 4) = ((2 : Nat) : Int) from rfl) ▸ index4 _ _ _ _ 2 _ rfl W
    · exact (show IntKind.u64.wrap (Int.tdiv 12 4) = ((3 : Nat) : Int) from rfl) ▸ index4 _ _ _ _ 3 _ rfl W
  clear hX
  go_enter Tryd.func9, Tryd.ntmps9
  go_wp2_with fail
  clear c0
  refine wp_region_held_drew (S := fun W => W.cell? ⟨b, 6, none⟩ = some (.int .u32 l) ∧ W.cell? ⟨b, 7, none⟩ = some (.int .u32 m)) (by kernel_rfl) (HS.out _ HB.out) (fun hHeld => ?_)
  refine held_take 0 rfl (by kernel_rfl) (by kernel_rfl) (by kernel_rfl) (fun _ _ _ h => h) (by rfl) hHeld (v := ?_) (fun w hSw => ?_) (fun _ => ?_)
  rotate_left
  · ((try dsimp only at hSw); go_simp; (try with_reducible rfl))
  simp only [Act.put, List.setIfInBounds_toArray, List.set_cons_zero, List.set_cons_succ]
  refine held_take 1 rfl (by kernel_rfl) (by kernel_rfl) (by kernel_rfl) (fun _ _ _ h => h) (by rfl) hHeld (v := ?_) (fun w hSw => ?_) (fun _ => ?_)
  rotate_left
  · ((try dsimp only at hSw); go_simp; (try with_reducible rfl))
  simp only [Act.put, List.setIfInBounds_toArray, List.set_cons_zero, List.set_cons_succ]
  refine held_take 2 rfl (by kernel_rfl) (by kernel_rfl) (by kernel_rfl) (fun _ _ _ h => h) (by rfl) hHeld (v := ?_) (fun w hSw => ?_) (fun _ => ?_)
  rotate_left
  · ((try dsimp only at hSw); go_simp; (try with_reducible rfl))
  simp only [Act.put, List.setIfInBounds_toArray, List.set_cons_zero, List.set_cons_succ]
  refine held_take 3 rfl (by kernel_rfl) (by kernel_rfl) (by kernel_rfl) (fun _ _ _ h => h) (by rfl) hHeld (v := ?_) (fun w hSw => ?_) (fun _ => ?_)
  rotate_left
  · ((try dsimp only at hSw); go_simp; (try with_reducible rfl))
  simp only [Act.put, List.setIfInBounds_toArray, List.set_cons_zero, List.set_cons_succ]
  refine held_take 4 rfl (by kernel_rfl) (by kernel_rfl) (by kernel_rfl) (fun _ _ _ h => h) (by rfl) hHeld (v := ?_) (fun w hSw => ?_) (fun _ => ?_)
  rotate_left
  · ((try dsimp only at hSw); go_simp; (try with_reducible rfl))
  simp only [Act.put, List.setIfInBounds_toArray, List.set_cons_zero, List.set_cons_succ]
  refine held_take 5 rfl (by kernel_rfl) (by kernel_rfl) (by kernel_rfl) (fun _ _ _ h => h) (by rfl) hHeld (v := ?_) (fun w hSw => ?_) (fun _ => ?_)
  rotate_left
  · ((try dsimp only at hSw); go_simp; (try with_reducible rfl))
  simp only [Act.put, List.setIfInBounds_toArray, List.set_cons_zero, List.set_cons_succ]
  refine held_take 6 rfl (by kernel_rfl) (by kernel_rfl) (by kernel_rfl) (fun _ _ _ h => h) (by rfl) hHeld (v := ?_) (fun w hSw => ?_) (fun _ => ?_)
  rotate_left
  · ((try dsimp only at hSw); go_simp; (try with_reducible rfl))
  simp only [Act.put, List.setIfInBounds_toArray, List.set_cons_zero, List.set_cons_succ]
  refine held_take 7 rfl (by kernel_rfl) (by kernel_rfl) (by kernel_rfl) (fun _ _ _ h => h) (by rfl) hHeld (v := ?_) (fun w hSw => ?_) (fun _ => ?_)
  rotate_left
  · ((try dsimp only at hSw); go_simp; (try with_reducible rfl))
  simp only [Act.put, List.setIfInBounds_toArray, List.set_cons_zero, List.set_cons_succ]
  refine held_take 8 rfl (by kernel_rfl) (by kernel_rfl) (by kernel_rfl) (fun _ _ _ h => h) (by rfl) hHeld (v := ?_) (fun w hSw => ?_) (fun _ => ?_)
  rotate_left
  · ((try dsimp only at hSw); go_simp; (try with_reducible rfl))
  simp only [Act.put, List.setIfInBounds_toArray, List.set_cons_zero, List.set_cons_succ]
  refine held_take 9 rfl (by kernel_rfl) (by kernel_rfl) (by kernel_rfl) (fun _ _ _ h => h) (by rfl) hHeld (v := ?_) (fun w hSw => ?_) (fun _ => ?_)
  rotate_left
  · ((try dsimp only at hSw); go_simp; (try with_reducible rfl))
  simp only [Act.put, List.setIfInBounds_toArray, List.set_cons_zero, List.set_cons_succ]
  refine held_take 10 rfl (by kernel_rfl) (by kernel_rfl) (by kernel_rfl) (fun _ _ _ h => h) (by rfl) hHeld (v := ?_) (fun w hSw => ?_) (fun _ => ?_)
  rotate_left
  · ((try dsimp only at hSw); go_simp; (try with_reducible rfl))
  simp only [Act.put, List.setIfInBounds_toArray, List.set_cons_zero, List.set_cons_succ]
  refine held_take 11 rfl (by kernel_rfl) (by kernel_rfl) (by kernel_rfl) (fun _ _ _ h => h) (by rfl) hHeld (v := ?_) (fun w hSw => ?_) (fun _ => ?_)
  rotate_left
  · ((try dsimp only at hSw); go_simp; (try with_reducible rfl))
  simp only [Act.put, List.setIfInBounds_toArray, List.set_cons_zero, List.set_cons_succ]
  refine held_take 12 rfl (by kernel_rfl) (by kernel_rfl) (by kernel_rfl) (fun _ _ _ h => h) (by rfl) hHeld (v := ?_) (fun w hSw => ?_) (fun _ => ?_)
  rotate_left
  · ((try dsimp only at hSw); go_simp; (try with_reducible rfl))
  simp only [Act.put, List.setIfInBounds_toArray, List.set_cons_zero, List.set_cons_succ]
  refine held_take 15 rfl (by kernel_rfl) (by kernel_rfl) (by kernel_rfl) (fun _ _ _ h => h) (by rfl) hHeld (v := ?_) (fun w hSw => ?_) (fun _ => ?_)
  rotate_left
  · ((try dsimp only at hSw); go_simp; (try with_reducible rfl))
  simp only [Act.put, List.setIfInBounds_toArray, List.set_cons_zero, List.set_cons_succ]
  refine held_take 16 rfl (by kernel_rfl) (by kernel_rfl) (by kernel_rfl) (fun _ _ _ h => h) (by rfl) hHeld (v := ?_) (fun w hSw => ?_) (fun _ => ?_)
  rotate_left
  · ((try dsimp only at hSw); go_simp; (try with_reducible rfl))
  simp only [Act.put, List.setIfInBounds_toArray, List.set_cons_zero, List.set_cons_succ]
  refine held_call 13 (by kernel_rfl) rfl (by rfl) (fun K hK => ?_)
  go_simp
  refine HN.out.mono ?_
  rintro e w3 ⟨rfl, hb⟩
  have HB3 := Lib.hid (HB.out.trans (hb.mono HB.out.size))
  clear hb HN
  dsimp only
  refine hK.out _ _ (HS.out _ HB3.out) (fun hHeld => ?_)
  clear hK K
  refine held_take 14 rfl (by kernel_rfl) (by kernel_rfl) (by kernel_rfl) (fun _ _ _ h => h) (by rfl) hHeld (v := ?_) (fun w hSw => ?_) (fun _ => ?_)
  rotate_left
  · ((try dsimp only at hSw); go_simp; (try with_reducible rfl))
  simp only [Act.put, List.setIfInBounds_toArray, List.set_cons_zero, List.set_cons_succ]
  refine held_take 17 rfl (by kernel_rfl) (by kernel_rfl) (by kernel_rfl) (fun _ _ _ h => h) (by rfl) hHeld (v := ?_) (fun w hSw => ?_) (fun _ => ?_)
  rotate_left
  · ((try dsimp only at hSw); go_simp; (try with_reducible rfl))
  simp only [Act.put, List.setIfInBounds_toArray, List.set_cons_zero, List.set_cons_succ]
  refine held_take 18 rfl (by kernel_rfl) (by kernel_rfl) (by kernel_rfl) (fun _ _ _ h => h) (by rfl) hHeld (v := ?_) (fun w hSw => ?_) (fun _ => ?_)
  rotate_left
  · ((try dsimp only at hSw); go_simp; (try with_reducible rfl))
  simp only [Act.put, List.setIfInBounds_toArray, List.set_cons_zero, List.set_cons_succ]
  refine wpAnyH_done (by kernel_rfl) ?_ _
  clear hHeld
  go_wp2
  go_ret
  exact ⟨rfl, HB3.out⟩

set_option maxRecDepth 20000 in
set_option maxHeartbeats 8000000 in
theorem refstore7 (b : Nat) (d : DevR) (off v : Int) (w : World) (h : RefAt w b d) (hk : d.kind = 7) (ho : off = 0 ∨ off = 4 ∨ off = 8 ∨ off = 12) :
    Calls Tryd.prog 11 #[.pointer (some ⟨b, 0, none⟩), .int .u64 off, .int .u32 v] w fun e w' => e = .returned (.tuple #[]) ∧ RefAt w' b (if off = 4 then { d with r1 := v } else d) ∧ ChgB b w w' := by
  have c0 : w.cell? ⟨b, 0, none⟩ = some (.int .i64 7) := by rw [← hk]; exact dev_cell h rfl
  have HH := Lib.hid h
  by_cases h4 : off = 4
  · subst h4
    have c7 : w.cell? ⟨b, 7, none⟩ = some (.int .u32 d.r1) := dev_cell h rfl
    have f7 := dev_frozen 7 h
    rw [if_pos rfl]
    clear h hk ho
    go_enter Tryd.func11, Tryd.ntmps11
    go_wp2
    go_end0
    exact ⟨rfl, dev_set HH.out 7 _, (ChgB.refl b w).set _ _⟩
  · rw [if_neg h4]
    have q : (off == 4) = false := by rw [beq_eq_false_iff_ne]; exact h4
    clear h hk ho h4
    go_enter Tryd.func11, Tryd.ntmps11
    go_wp2
    go_end0
    exact ⟨rfl, HH.out, ChgB.refl b w⟩

set_option maxRecDepth 20000 in
set_option maxHeartbeats 8000000 in
theorem refhigh7 (b : Nat) (d : DevR) (l m : Nat) (w : World) (h : RefAt w b d) (hk : d.kind = 7) (h0 : d.r0 = (l : Int)) (h1 : d.r1 = (m : Int)) (hl : l < 4294967296) (hm : m < 4294967296) :
    Calls Tryd.prog 14 #[.pointer (some ⟨b, 0, none⟩)] w fun e w' => e = .returned (.bool (decide (0 < nextN l m))) ∧ Below w.heap.size w w' := by
  have c0 : w.cell? ⟨b, 0, none⟩ = some (.int .i64 7) := by rw [← hk]; exact dev_cell h rfl
  have HN := Lib.hid (refnext_any b d l m w h h0 h1 hl hm)
  have q : decide ((0 : Int) < (nextN l m : Int)) = decide (0 < nextN l m) := by rw [Bool.eq_iff_iff]; simp
  clear h hk h0 h1 hl hm
  go_enter Tryd.func14, Tryd.ntmps14
  go_wp2_with fail
  refine HN.out.mono ?_
  rintro e w3 ⟨rfl, hb⟩
  have HB := Lib.hid hb
  clear hb
  go_wp2
  go_ret
  exact ⟨rfl, HB.out⟩
end Go.Proofs.YtgmnilmeliconaaDoor
