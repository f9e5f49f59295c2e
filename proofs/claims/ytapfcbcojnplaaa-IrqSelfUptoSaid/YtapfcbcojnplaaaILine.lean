/-
  Layer 14: the program's line.
-/
import Derived.Test.YtapfcbcojnplaaaIPlace
import Derived.Test.YtapfcbcojnplaaaBase1
namespace Go.Proofs.Ytapfcbcojnplaaa
open Go.RowKit
set_option linter.unusedVariables false
set_option linter.unusedSimpArgs false
attribute [local go_sem ↓] Go.wp_at_zero Go.wp_at_succ
attribute [local go_sem] Oper.semAt_some

theorem two_cells {w : World} {b : Nat} {v0 v1 : Value} {T : TypeId} (h : w.heap[b]? = some (.cells #[v0, v1] T (0, 0))) : w.cell? ⟨b, 0, none⟩ = some v0 ∧ w.cell? ⟨b, 1, none⟩ = some v1 := by
  refine ⟨?_, ?_⟩ <;> rw [Lib.cell_of_heap h] <;> rfl
theorem set2_heap {w : World} {b : Nat} {v0 v1 : Value} {T : TypeId} (h : w.heap[b]? = some (.cells #[v0, v1] T (0, 0))) (u0 u1 : Value) : ((w.setCell ⟨b, 0, none⟩ u0).setCell ⟨b, 1, none⟩ u1).heap[b]? = some (.cells #[u0, u1] T (0, 0)) := by
  simp [World.setCell, Array.getElem?_modify, h]
theorem set2_other (w : World) {b k : Nat} (hk : k ≠ b) (u0 u1 : Value) : ((w.setCell ⟨b, 0, none⟩ u0).setCell ⟨b, 1, none⟩ u1).heap[k]? = w.heap[k]? := by
  rw [Below.heap_setCell _ _ _ _ hk, Below.heap_setCell _ _ _ _ hk]
theorem set2_size (w : World) (b : Nat) (u0 u1 : Value) : ((w.setCell ⟨b, 0, none⟩ u0).setCell ⟨b, 1, none⟩ u1).heap.size = w.heap.size := by simp [World.setCell]
theorem set2_below {B : Nat} {w0 w : World} (h : Below B w0 w) {b : Nat} (hb : B ≤ b) (u0 u1 : Value) : Below B w0 ((w.setCell ⟨b, 0, none⟩ u0).setCell ⟨b, 1, none⟩ u1) := (h.setCell (p := ⟨b, 0, none⟩) hb u0).setCell (p := ⟨b, 1, none⟩) hb u1
theorem Cel.set2 {w : World} {n : Nat} {A : Option Addr} {xs : List Value} (h : Cel w w.heap.size A n xs) {g : Nat} (hA : ∀ b o, A = some ⟨b, o, none⟩ → b ≠ g) (u0 u1 : Value) : Cel ((w.setCell ⟨g, 0, none⟩ u0).setCell ⟨g, 1, none⟩ u1) ((w.setCell ⟨g, 0, none⟩ u0).setCell ⟨g, 1, none⟩ u1).heap.size A n xs :=
  ⟨h.1, fun h0 => by
    obtain ⟨b, o, e, hb, hc⟩ := h.2 h0
    exact ⟨b, o, e, by rw [set2_size]; exact hb, fun i hi => (World.cell?_of_block (a := ⟨b, o + i, none⟩) (set2_other w (hA b o e) u0 u1)).trans (hc i hi)⟩⟩
set_option maxRecDepth 20000 in
set_option maxHeartbeats 4000000 in
theorem line_any (R : Nd) (D : Nat → Prop) (b : Nat) (z : List Nat) (x : Nd) (ln : Int) (w : World) (hs : Spot w R D b z x) (hh : heftN R ≤ 134217728) :
    Calls Try.prog 15 #[.agg #[.pointer (some ⟨b, 0, none⟩), .int .u32 ln]] w fun e w' => (∃ A c, e = .returned (.agg #[.slice A z.length c, .int .u32 ln]) ∧ Cel w' w'.heap.size A z.length (ints z) ∧ z.length ≤ c ∧ c ≤ 9223372036854775807 ∧ ∀ b o, A = some ⟨b, o, none⟩ → w.heap.size ≤ b) ∧ Below w.heap.size w w' := by
  obtain ⟨g, hg⟩ : ∃ g, w.heap.size = g := ⟨_, rfl⟩
  have CP := Lib.hid (fun W (hW : Below w.heap.size w W) => place_any R D b z x W (hs.on hW) hh)
  obtain ⟨N, hN⟩ : ∃ N, z.length = N := ⟨_, rfl⟩
  rw [hN] at CP ⊢
  have HFF : Hid (∀ W1, (w.alloc (.cells #[.pointer (some ⟨b, 0, none⟩), .int .u32 ln] 54)).alloc (.cells #[.slice none 0 0, .int .u32 0] 32) = W1 → W1.heap[g]? = some (.cells #[.pointer (some ⟨b, 0, none⟩), .int .u32 ln] 54 (0, 0)) ∧ W1.heap[g + 1]? = some (.cells #[.slice none 0 0, .int .u32 0] 32 (0, 0)) ∧ Below g w W1 ∧ W1.heap.size = g + 2) := Lib.hid (by
    rintro W1 rfl
    have e1 : (w.alloc (.cells #[.pointer (some ⟨b, 0, none⟩), .int .u32 ln] 54)).heap.size = g + 1 := by simp [hg]
    refine ⟨?_, ?_, ?_, by simp [hg]⟩
    · rw [Below.heap_alloc _ _ _ (by omega), ← hg]; exact heap_alloc_new _ _
    · rw [← e1]; exact heap_alloc_new _ _
    · exact ((Below.refl g w).alloc (by omega) _).alloc (by omega) _)
  rw [hg] at CP ⊢
  clear hs hN
  obtain ⟨W1, hW1⟩ : ∃ W1, (w.alloc (.cells #[.pointer (some ⟨b, 0, none⟩), .int .u32 ln] 54)).alloc (.cells #[.slice none 0 0, .int .u32 0] 32) = W1 := ⟨_, rfl⟩
  have HF := Lib.hid (HFF.out W1 hW1)
  have hgg : w.heap.size = g := hg
  clear HFF
  go_enter Try.func15, Try.ntmps15
  go_wp2_with fail
  clear hW1
  refine wp_region_held_drew (S := fun V => V.cell? ⟨g, 0, none⟩ = some (.pointer (some ⟨b, 0, none⟩)) ∧ V.cell? ⟨g, 1, none⟩ = some (.int .u32 ln)) (by kernel_rfl) (two_cells HF.out.1) (fun hHeld => ?_)
  refine held_take 0 rfl (by kernel_rfl) (by kernel_rfl) (by kernel_rfl) (fun _ _ _ h => h) (by rfl) hHeld (v := ?_) (fun w hSw => ?_) (fun _ => ?_)
  rotate_left
  · ((try dsimp only at hSw); go_simp; (try with_reducible rfl))
  simp only [Act.put, List.setIfInBounds_toArray, List.set_cons_zero, List.set_cons_succ]
  refine held_take 1 rfl (by kernel_rfl) (by kernel_rfl) (by kernel_rfl) (fun _ _ _ h => h) (by rfl) hHeld (v := ?_) (fun w hSw => ?_) (fun _ => ?_)
  rotate_left
  · ((try dsimp only at hSw); go_simp; (try with_reducible rfl))
  simp only [Act.put, List.setIfInBounds_toArray, List.set_cons_zero, List.set_cons_succ]
  refine held_take 3 rfl (by kernel_rfl) (by kernel_rfl) (by kernel_rfl) (fun _ _ _ h => h) (by rfl) hHeld (v := ?_) (fun w hSw => ?_) (fun _ => ?_)
  rotate_left
  · ((try dsimp only at hSw); go_simp; (try with_reducible rfl))
  simp only [Act.put, List.setIfInBounds_toArray, List.set_cons_zero, List.set_cons_succ]
  refine held_take 4 rfl (by kernel_rfl) (by kernel_rfl) (by kernel_rfl) (fun _ _ _ h => h) (by rfl) hHeld (v := ?_) (fun w hSw => ?_) (fun _ => ?_)
  rotate_left
  · ((try dsimp only at hSw); go_simp; (try with_reducible rfl))
  simp only [Act.put, List.setIfInBounds_toArray, List.set_cons_zero, List.set_cons_succ]
  refine held_call 2 (by kernel_rfl) rfl (by rfl) (fun K hK => ?_)
  go_simp
  refine (CP.out W1.drew (HF.out.2.2.1.drew)).mono ?_
  rintro e w2 ⟨⟨A, c, rfl, hcel, h1, h2, hA⟩, hb⟩
  have hb0 : Below W1.heap.size W1 w2 := (Below.refl _ W1).drew.trans hb
  have HG2 := Lib.hid ((hb0.block g (by have := HF.out.2.2.2; omega)).trans HF.out.1)
  have HR2 := Lib.hid ((hb0.block (g + 1) (by have := HF.out.2.2.2; omega)).trans HF.out.2.1)
  have HB2 := Lib.hid (HF.out.2.2.1.trans (hb0.mono (by have := HF.out.2.2.2; omega)))
  have hA2 : ∀ b o, A = some ⟨b, o, none⟩ → b ≠ g + 1 := fun b o e => by
    have h5 := hA b o e
    have h6 := HF.out.2.2.2
    have h7 : W1.drew.heap.size = W1.heap.size := rfl
    omega
  have HAF : Hid (∀ b o, A = some ⟨b, o, none⟩ → g ≤ b) := Lib.hid (fun b o e => by
    have h5 := hA b o e
    have h6 := HF.out.2.2.2
    have h7 : W1.drew.heap.size = W1.heap.size := rfl
    omega)
  have HC := Lib.hid (And.intro (hcel.set2 hA2 (.slice A N c) (.int .u32 ln)) (And.intro h1 h2))
  have HGA := Lib.hid ((set2_other w2 (b := g + 1) (k := g) (by omega) (.slice A N c) (.int .u32 ln)).trans HG2.out)
  have HRA := Lib.hid (set2_heap HR2.out (.slice A N c) (.int .u32 ln))
  have HBA := Lib.hid (set2_below HB2.out (b := g + 1) (by omega) (.slice A N c) (.int .u32 ln))
  clear hb hb0 hcel h1 h2 hA hA2
  dsimp only
  refine hK.out _ _ (two_cells HG2.out) (fun hHeld => ?_)
  clear hK K
  refine held_take 5 rfl (by kernel_rfl) (by kernel_rfl) (by kernel_rfl) (fun _ _ _ h => h) (by rfl) hHeld (v := ?_) (fun w hSw => ?_) (fun _ => ?_)
  rotate_left
  · ((try dsimp only at hSw); go_simp; (try with_reducible rfl))
  simp only [Act.put, List.setIfInBounds_toArray, List.set_cons_zero, List.set_cons_succ]
  have f0 := Lib.frozen_of_heap HR2.out 0
  have f1 := Lib.frozen_of_heap HR2.out 1
  have r0 := two_cells HR2.out
  obtain ⟨r0, r1⟩ := r0
  refine held_call 6 (by kernel_rfl) rfl (by rfl) (fun K hK => ?_)
  go_simp
  clear f0 f1 r0 r1
  obtain ⟨W3, hW3⟩ : ∃ W3, (w2.setCell ⟨g + 1, 0, none⟩ (.slice A N c)).setCell ⟨g + 1, 1, none⟩ (.int .u32 ln) = W3 := ⟨_, rfl⟩
  rw [hW3] at HGA HRA HBA HC ⊢
  clear hW3
  refine hK.out _ _ (two_cells HGA.out) (fun hHeld => ?_)
  clear hK K
  refine wpAnyH_done (by kernel_rfl) ?_ _
  clear hHeld
  obtain ⟨d0, d1⟩ := two_cells HRA.out
  go_wp2_with fail
  refine bodyPost_ret (v := .agg #[.slice A N c, .int .u32 ln]) (by simp [results, Try.results15, go_sem, d0, d1]; try rfl) rfl ?_
  exact ⟨⟨A, c, rfl, HC.out.1, HC.out.2.1, HC.out.2.2, HAF.out⟩, HBA.out⟩
end Go.Proofs.Ytapfcbcojnplaaa
