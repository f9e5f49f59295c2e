/-
  Layer 3: Clone: the same tree in memory of its own.
-/
import Derived.Test.YthfonfecangmcaaTClNode
import Derived.Test.YthfonfecangmcaaTEqual
namespace Go.Proofs.Ythfonfecangmcaa
open Go.RowKit
set_option linter.unusedVariables false
set_option linter.unusedSimpArgs false
attribute [local go_sem ↓] Go.wp_at_zero Go.wp_at_succ

/-- All rows of a tree lie in blocks from B on. -/
def Tr.Above (B : Nat) (u : Tr) : Prop := (0 < u.rs.length → ∀ b o, u.ra = some ⟨b, o, none⟩ → B ≤ b) ∧ u.root.Above B
theorem Tr.In.keep2 {w w' : World} {B lo : Nat} (hk : ∀ a : Addr, lo ≤ a.block → a.block < B → w'.cell? a = w.cell? a) {u : Tr} (h : u.In w B) (ha : u.Above lo) : u.In w' B :=
  ⟨h.boot, h.len, fun h0 => by
    obtain ⟨b, o, e, hb, hc⟩ := h.row h0
    exact ⟨b, o, e, hb, fun i hi => ⟨(hk _ (ha.1 h0 b o e) hb).trans (hc i hi).1, (hk _ (ha.1 h0 b o e) hb).trans (hc i hi).2⟩⟩, h.nums, h.root.keep2 hk ha.2⟩
theorem all2_sameR (l : List (Int × Int)) : all2 sameR l l = true := all2_mk rfl (fun k h1 h2 => by simp [sameR])

/-- Five cells of a box, stored one after the other. -/
theorem box_cells5 {w : World} {g : Nat} {u0 u1 u2 u3 u4 v0 v1 v2 v3 v4 : Value} (h0 : w.cell? ⟨g, 0, none⟩ = some u0) (h1 : w.cell? ⟨g, 1, none⟩ = some u1) (h2 : w.cell? ⟨g, 2, none⟩ = some u2) (h3 : w.cell? ⟨g, 3, none⟩ = some u3) (h4 : w.cell? ⟨g, 4, none⟩ = some u4) (W : World)
    (hW : W = ((((w.setCell ⟨g, 0, none⟩ v0).setCell ⟨g, 1, none⟩ v1).setCell ⟨g, 2, none⟩ v2).setCell ⟨g, 3, none⟩ v3).setCell ⟨g, 4, none⟩ v4) :
    W.cell? ⟨g, 0, none⟩ = some v0 ∧ W.cell? ⟨g, 1, none⟩ = some v1 ∧ W.cell? ⟨g, 2, none⟩ = some v2 ∧ W.cell? ⟨g, 3, none⟩ = some v3 ∧ W.cell? ⟨g, 4, none⟩ = some v4 := by
  subst hW
  have o : ∀ {w : World} {i j : Nat} {v : Value}, i ≠ j → (w.setCell ⟨g, i, none⟩ v).cell? ⟨g, j, none⟩ = w.cell? ⟨g, j, none⟩ := fun h => World.cell?_setCell_other _ _ _ _ (off_ne' h)
  refine ⟨?_, ?_, ?_, ?_, ?_⟩
  · rw [o (by omega), o (by omega), o (by omega), o (by omega), World.cell?_setCell_same _ _ _ h0]
  · rw [o (by omega), o (by omega), o (by omega), World.cell?_setCell_same _ _ _ ((o (by omega)).trans h1)]
  · rw [o (by omega), o (by omega), World.cell?_setCell_same _ _ _ ((o (by omega)).trans ((o (by omega)).trans h2))]
  · rw [o (by omega), World.cell?_setCell_same _ _ _ ((o (by omega)).trans ((o (by omega)).trans ((o (by omega)).trans h3)))]
  · rw [World.cell?_setCell_same _ _ _ ((o (by omega)).trans ((o (by omega)).trans ((o (by omega)).trans ((o (by omega)).trans h4))))]

set_option maxHeartbeats 8000000 in
theorem clone_any (t : Tr) (w : World) (hin : t.In w w.heap.size) :
    Calls Try.prog 11 #[t.val] w fun e w' => ∃ u : Tr, e = .returned u.val ∧ u.In w' w'.heap.size ∧ u.Above w.heap.size ∧ sameT t u = true ∧ Mut w' u.root ∧ Below w.heap.size w w' := by
  have HI := Lib.hid hin
  have C1 := Lib.hid (fun W h => cloneRess_any t W h)
  have C2 := Lib.hid (fun W h => cloneNode_any t.root W h)
  clear hin
  obtain ⟨boot, ra, rc, rs, ⟨nm, pa, pc, ps, ka, kc, ks⟩⟩ := t
  replace C1 : Hid (∀ W : World, (⟨boot, ra, rc, rs, .mk nm pa pc ps ka kc ks⟩ : Tr).In W W.heap.size → Calls Try.prog 26 #[.slice ra rs.length rc] W fun e w' => ∃ A c, e = .returned (.slice A rs.length c) ∧ rs.length ≤ c ∧ c ≤ 9223372036854775807 ∧ Fresh w' W.heap.size A rs.length (rs.flatMap rC) ∧ Below W.heap.size W w') := C1
  show Calls _ _ #[.agg #[.int .u32 boot, .slice ra rs.length rc, .string nm, .slice pa ps.length pc, .slice ka ks.length kc]] _ _
  have HB0 := Lib.hid (((Below.refl w.heap.size w).alloc (Nat.le_refl _) (.cells #[Value.int .u32 boot, .slice ra rs.length rc, .string nm, .slice pa ps.length pc, .slice ka ks.length kc] 29)).alloc (by simp) (.cells #[Value.int .u32 0, .slice none 0 0, .string ⟨#[]⟩, .slice none 0 0, .slice none 0 0] 29))
  go_enter Try.func11, Try.ntmps11
  go_wp2_with fail
  have x0 : ((w.alloc (.cells #[Value.int .u32 boot, .slice ra rs.length rc, .string nm, .slice pa ps.length pc, .slice ka ks.length kc] 29)).alloc (.cells #[Value.int .u32 0, .slice none 0 0, .string ⟨#[]⟩, .slice none 0 0, .slice none 0 0] 29)).cell? ⟨w.heap.size, 0, none⟩ = some (.int .u32 boot) := World.cell?_alloc2_first _ _ _ _
  have x1 : ((w.alloc (.cells #[Value.int .u32 boot, .slice ra rs.length rc, .string nm, .slice pa ps.length pc, .slice ka ks.length kc] 29)).alloc (.cells #[Value.int .u32 0, .slice none 0 0, .string ⟨#[]⟩, .slice none 0 0, .slice none 0 0] 29)).cell? ⟨w.heap.size, 1, none⟩ = some (.slice ra rs.length rc) := World.cell?_alloc2_first _ _ _ _
  have x2 : ((w.alloc (.cells #[Value.int .u32 boot, .slice ra rs.length rc, .string nm, .slice pa ps.length pc, .slice ka ks.length kc] 29)).alloc (.cells #[Value.int .u32 0, .slice none 0 0, .string ⟨#[]⟩, .slice none 0 0, .slice none 0 0] 29)).cell? ⟨w.heap.size, 2, none⟩ = some (.string nm) := World.cell?_alloc2_first _ _ _ _
  have x3 : ((w.alloc (.cells #[Value.int .u32 boot, .slice ra rs.length rc, .string nm, .slice pa ps.length pc, .slice ka ks.length kc] 29)).alloc (.cells #[Value.int .u32 0, .slice none 0 0, .string ⟨#[]⟩, .slice none 0 0, .slice none 0 0] 29)).cell? ⟨w.heap.size, 3, none⟩ = some (.slice pa ps.length pc) := World.cell?_alloc2_first _ _ _ _
  have x4 : ((w.alloc (.cells #[Value.int .u32 boot, .slice ra rs.length rc, .string nm, .slice pa ps.length pc, .slice ka ks.length kc] 29)).alloc (.cells #[Value.int .u32 0, .slice none 0 0, .string ⟨#[]⟩, .slice none 0 0, .slice none 0 0] 29)).cell? ⟨w.heap.size, 4, none⟩ = some (.slice ka ks.length kc) := World.cell?_alloc2_first _ _ _ _
  refine wp_region_held_drew (S := fun W => W.cell? ⟨w.heap.size, 0, none⟩ = some (.int .u32 boot) ∧ W.cell? ⟨w.heap.size, 1, none⟩ = some (.slice ra rs.length rc) ∧ W.cell? ⟨w.heap.size, 2, none⟩ = some (.string nm) ∧ W.cell? ⟨w.heap.size, 3, none⟩ = some (.slice pa ps.length pc) ∧ W.cell? ⟨w.heap.size, 4, none⟩ = some (.slice ka ks.length kc)) (by kernel_rfl) ⟨x0, x1, x2, x3, x4⟩ (fun hHeld => ?_)
  refine held_take 0 rfl (by kernel_rfl) (by kernel_rfl) (by kernel_rfl) (fun _ _ _ h => h) (by rfl) hHeld (v := ?_) (fun w hSw => ?_) (fun _ => ?_)
  rotate_left
  · ((try dsimp only at hSw); go_simp; (try with_reducible rfl))
  simp only [Act.put, List.setIfInBounds_toArray, List.set_cons_zero, List.set_cons_succ]
  refine held_take 1 rfl (by kernel_rfl) (by kernel_rfl) (by kernel_rfl) (fun _ _ _ h => h) (by rfl) hHeld (v := ?_) (fun w hSw => ?_) (fun _ => ?_)
  rotate_left
  · ((try dsimp only at hSw); go_simp; (try with_reducible rfl))
  simp only [Act.put, List.setIfInBounds_toArray, List.set_cons_zero, List.set_cons_succ]
  refine held_take 2 rfl (by kernel_rfl) (by kernel_rfl) (by kernel_rfl) (fun _ _ _ h => h) (by rfl) hHeld (v := ?_) (fun w hSw => ?_) (fun _ => ?_)
  rotate_left
  · ((try dsimp only at hSw); go_simp; (try with_reducible rfl))
  simp only [Act.put, List.setIfInBounds_toArray, List.set_cons_zero, List.set_cons_succ]
  refine held_take 3 rfl (by kernel_rfl) (by kernel_rfl) (by kernel_rfl) (fun _ _ _ h => h) (by rfl) hHeld (v := ?_) (fun w hSw => ?_) (fun _ => ?_)
  rotate_left
  · ((try dsimp only at hSw); go_simp; (try with_reducible rfl))
  simp only [Act.put, List.setIfInBounds_toArray, List.set_cons_zero, List.set_cons_succ]
  refine held_take 5 rfl (by kernel_rfl) (by kernel_rfl) (by kernel_rfl) (fun _ _ _ h => h) (by rfl) hHeld (v := ?_) (fun w hSw => ?_) (fun _ => ?_)
  rotate_left
  · ((try dsimp only at hSw); go_simp; (try with_reducible rfl))
  simp only [Act.put, List.setIfInBounds_toArray, List.set_cons_zero, List.set_cons_succ]
  refine held_take 6 rfl (by kernel_rfl) (by kernel_rfl) (by kernel_rfl) (fun _ _ _ h => h) (by rfl) hHeld (v := ?_) (fun w hSw => ?_) (fun _ => ?_)
  rotate_left
  · ((try dsimp only at hSw); go_simp; (try with_reducible rfl))
  simp only [Act.put, List.setIfInBounds_toArray, List.set_cons_zero, List.set_cons_succ]
  have HBd := Lib.hid ((Below.refl ((w.alloc (.cells #[Value.int .u32 boot, .slice ra rs.length rc, .string nm, .slice pa ps.length pc, .slice ka ks.length kc] 29)).alloc (.cells #[Value.int .u32 0, .slice none 0 0, .string ⟨#[]⟩, .slice none 0 0, .slice none 0 0] 29)).heap.size ((w.alloc (.cells #[Value.int .u32 boot, .slice ra rs.length rc, .string nm, .slice pa ps.length pc, .slice ka ks.length kc] 29)).alloc (.cells #[Value.int .u32 0, .slice none 0 0, .string ⟨#[]⟩, .slice none 0 0, .slice none 0 0] 29))).drew)
  refine held_call 4 (by kernel_rfl) rfl (by rfl) (fun K hK => ?_)
  go_simp
  refine (C1.out _ (HI.out.on (HB0.out.trans (HBd.out.mono HB0.out.size)))).mono ?_
  rintro e w1 ⟨A1, c1, rfl, p1, p2, pf, hb⟩
  have HB1 := Lib.hid (HBd.out.trans (hb.mono HBd.out.size))
  have HP := Lib.hid (And.intro p1 (And.intro p2 (And.intro pf hb)))
  clear p1 p2 pf hb
  dsimp only
  refine hK.out _ _ ⟨(HB1.out.cell (p := ⟨w.heap.size, 0, none⟩) (by simp; omega)).trans x0, (HB1.out.cell (p := ⟨w.heap.size, 1, none⟩) (by simp; omega)).trans x1, (HB1.out.cell (p := ⟨w.heap.size, 2, none⟩) (by simp; omega)).trans x2, (HB1.out.cell (p := ⟨w.heap.size, 3, none⟩) (by simp; omega)).trans x3, (HB1.out.cell (p := ⟨w.heap.size, 4, none⟩) (by simp; omega)).trans x4⟩ (fun hHeld => ?_)
  clear hK K
  refine held_call 7 (by kernel_rfl) rfl (by rfl) (fun K hK => ?_)
  go_simp
  refine (C2.out _ ((HI.out.on (HB0.out.trans (HB1.out.mono HB0.out.size))).root)).mono ?_
  rintro e w2 ⟨m, rfl, q1, q2, q3, q4, hb⟩
  have HB2 := Lib.hid (HB1.out.trans (hb.mono HB1.out.size))
  have HQ := Lib.hid (And.intro q1 (And.intro q2 (And.intro q3 (And.intro q4 hb))))
  clear q1 q2 q3 q4 hb
  obtain ⟨mn, mpa, mpc, mps, mka, mkc, mks⟩ := m
  dsimp only [Nd.val, Nd.name, Nd.pv, Nd.kv, Nd.pa, Nd.pc, Nd.props, Nd.ka, Nd.kc, Nd.kids]
  refine hK.out _ _ ⟨(HB2.out.cell (p := ⟨w.heap.size, 0, none⟩) (by simp; omega)).trans x0, (HB2.out.cell (p := ⟨w.heap.size, 1, none⟩) (by simp; omega)).trans x1, (HB2.out.cell (p := ⟨w.heap.size, 2, none⟩) (by simp; omega)).trans x2, (HB2.out.cell (p := ⟨w.heap.size, 3, none⟩) (by simp; omega)).trans x3, (HB2.out.cell (p := ⟨w.heap.size, 4, none⟩) (by simp; omega)).trans x4⟩ (fun hHeld => ?_)
  clear hK K
  refine held_take 8 rfl (by kernel_rfl) (by kernel_rfl) (by kernel_rfl) (fun _ _ _ h => h) (by rfl) hHeld (v := ?_) (fun w hSw => ?_) (fun _ => ?_)
  rotate_left
  · ((try dsimp only at hSw); go_simp; (try with_reducible rfl))
  simp only [Act.put, List.setIfInBounds_toArray, List.set_cons_zero, List.set_cons_succ]
  have g0 : w2.cell? ⟨w.heap.size + 1, 0, none⟩ = some (Value.int .u32 0) := (HB2.out.cell (p := ⟨w.heap.size + 1, 0, none⟩) (by simp)).trans (World.cell?_alloc2_new _ _ _ _)
  have e0 : w2.frozen? ⟨w.heap.size + 1, 0, none⟩ = false := (HB2.out.frozen (p := ⟨w.heap.size + 1, 0, none⟩) (by simp)).trans (World.frozen?_alloc2_new _ _ _ _)
  have g1 : w2.cell? ⟨w.heap.size + 1, 1, none⟩ = some (Value.slice none 0 0) := (HB2.out.cell (p := ⟨w.heap.size + 1, 1, none⟩) (by simp)).trans (World.cell?_alloc2_new _ _ _ _)
  have e1 : w2.frozen? ⟨w.heap.size + 1, 1, none⟩ = false := (HB2.out.frozen (p := ⟨w.heap.size + 1, 1, none⟩) (by simp)).trans (World.frozen?_alloc2_new _ _ _ _)
  have g2 : w2.cell? ⟨w.heap.size + 1, 2, none⟩ = some (Value.string ⟨#[]⟩) := (HB2.out.cell (p := ⟨w.heap.size + 1, 2, none⟩) (by simp)).trans (World.cell?_alloc2_new _ _ _ _)
  have e2 : w2.frozen? ⟨w.heap.size + 1, 2, none⟩ = false := (HB2.out.frozen (p := ⟨w.heap.size + 1, 2, none⟩) (by simp)).trans (World.frozen?_alloc2_new _ _ _ _)
  have g3 : w2.cell? ⟨w.heap.size + 1, 3, none⟩ = some (Value.slice none 0 0) := (HB2.out.cell (p := ⟨w.heap.size + 1, 3, none⟩) (by simp)).trans (World.cell?_alloc2_new _ _ _ _)
  have e3 : w2.frozen? ⟨w.heap.size + 1, 3, none⟩ = false := (HB2.out.frozen (p := ⟨w.heap.size + 1, 3, none⟩) (by simp)).trans (World.frozen?_alloc2_new _ _ _ _)
  have g4 : w2.cell? ⟨w.heap.size + 1, 4, none⟩ = some (Value.slice none 0 0) := (HB2.out.cell (p := ⟨w.heap.size + 1, 4, none⟩) (by simp)).trans (World.cell?_alloc2_new _ _ _ _)
  have e4 : w2.frozen? ⟨w.heap.size + 1, 4, none⟩ = false := (HB2.out.frozen (p := ⟨w.heap.size + 1, 4, none⟩) (by simp)).trans (World.frozen?_alloc2_new _ _ _ _)
  have HG := Lib.hid (And.intro g0 (And.intro g1 (And.intro g2 (And.intro g3 g4))))
  refine held_call 9 (by kernel_rfl) rfl (by rfl) (fun K hK => ?_)
  go_simp
  clear g0 g1 g2 g3 g4 e0 e1 e2 e3 e4
  have HB3 := Lib.hid (Below.trans HB0.out (HB2.out.mono HB0.out.size))
  have nb : ∀ {i j : Nat}, (⟨w.heap.size + 1, i, none⟩ : Addr) ≠ ⟨w.heap.size, j, none⟩ := fun e => by have := congrArg Addr.block e; simp at this
  refine hK.out _ _ ⟨(World.cell?_setCell_other _ _ _ _ nb).trans ((World.cell?_setCell_other _ _ _ _ nb).trans ((World.cell?_setCell_other _ _ _ _ nb).trans ((World.cell?_setCell_other _ _ _ _ nb).trans ((World.cell?_setCell_other _ _ _ _ nb).trans ((HB2.out.cell (p := ⟨w.heap.size, 0, none⟩) (by simp; omega)).trans x0))))), (World.cell?_setCell_other _ _ _ _ nb).trans ((World.cell?_setCell_other _ _ _ _ nb).trans ((World.cell?_setCell_other _ _ _ _ nb).trans ((World.cell?_setCell_other _ _ _ _ nb).trans ((World.cell?_setCell_other _ _ _ _ nb).trans ((HB2.out.cell (p := ⟨w.heap.size, 1, none⟩) (by simp; omega)).trans x1))))), (World.cell?_setCell_other _ _ _ _ nb).trans ((World.cell?_setCell_other _ _ _ _ nb).trans ((World.cell?_setCell_other _ _ _ _ nb).trans ((World.cell?_setCell_other _ _ _ _ nb).trans ((World.cell?_setCell_other _ _ _ _ nb).trans ((HB2.out.cell (p := ⟨w.heap.size, 2, none⟩) (by simp; omega)).trans x2))))), (World.cell?_setCell_other _ _ _ _ nb).trans ((World.cell?_setCell_other _ _ _ _ nb).trans ((World.cell?_setCell_other _ _ _ _ nb).trans ((World.cell?_setCell_other _ _ _ _ nb).trans ((World.cell?_setCell_other _ _ _ _ nb).trans ((HB2.out.cell (p := ⟨w.heap.size, 3, none⟩) (by simp; omega)).trans x3))))), (World.cell?_setCell_other _ _ _ _ nb).trans ((World.cell?_setCell_other _ _ _ _ nb).trans ((World.cell?_setCell_other _ _ _ _ nb).trans ((World.cell?_setCell_other _ _ _ _ nb).trans ((World.cell?_setCell_other _ _ _ _ nb).trans ((HB2.out.cell (p := ⟨w.heap.size, 4, none⟩) (by simp; omega)).trans x4)))))⟩ (fun hHeld => ?_)
  clear hK K nb
  refine wpAnyH_done (by kernel_rfl) ?_ _
  go_wp2_with fail
  obtain ⟨d0, d1, d2, d3, d4⟩ := box_cells5 (v0 := (.int .u32 boot)) (v1 := (.slice A1 rs.length c1)) (v2 := (.string mn)) (v3 := (.slice mpa mps.length mpc)) (v4 := (.slice mka mks.length mkc)) HG.out.1 HG.out.2.1 HG.out.2.2.1 HG.out.2.2.2.1 HG.out.2.2.2.2 (((((w2.setCell ⟨w.heap.size + 1, 0, none⟩ (.int .u32 boot)).setCell ⟨w.heap.size + 1, 1, none⟩ (.slice A1 rs.length c1)).setCell ⟨w.heap.size + 1, 2, none⟩ (.string mn)).setCell ⟨w.heap.size + 1, 3, none⟩ (.slice mpa mps.length mpc)).setCell ⟨w.heap.size + 1, 4, none⟩ (.slice mka mks.length mkc)) rfl
  have s0 : ((w.alloc (.cells #[Value.int .u32 boot, .slice ra rs.length rc, .string nm, .slice pa ps.length pc, .slice ka ks.length kc] 29)).alloc (.cells #[Value.int .u32 0, .slice none 0 0, .string ⟨#[]⟩, .slice none 0 0, .slice none 0 0] 29)).heap.size = w.heap.size + 2 := by simp
  have HS1 : Hid (w.heap.size + 2 ≤ w1.heap.size) := by have := HB1.out.size; rw [s0] at this; exact this
  have HS2 : Hid (w1.heap.size ≤ w2.heap.size) := HQ.out.2.2.2.2.size
  have HLO : Hid (Fresh w1 (w.heap.size + 2) A1 rs.length (rs.flatMap rC)) := HP.out.2.2.1.low (by rw [← s0]; exact Nat.le_refl _)
  have HC : Hid (∀ a : Addr, w.heap.size + 2 ≤ a.block → (((((w2.setCell ⟨w.heap.size + 1, 0, none⟩ (.int .u32 boot)).setCell ⟨w.heap.size + 1, 1, none⟩ (.slice A1 rs.length c1)).setCell ⟨w.heap.size + 1, 2, none⟩ (.string mn)).setCell ⟨w.heap.size + 1, 3, none⟩ (.slice mpa mps.length mpc)).setCell ⟨w.heap.size + 1, 4, none⟩ (.slice mka mks.length mkc)).cell? a = w2.cell? a) := fun a ha => by
    have ne : ∀ i, (⟨w.heap.size + 1, i, none⟩ : Addr) ≠ a := fun i e => by
      rw [← e] at ha
      have ha' : w.heap.size + 2 ≤ w.heap.size + 1 := ha
      omega
    exact (World.cell?_setCell_other _ _ _ _ (ne _)).trans ((World.cell?_setCell_other _ _ _ _ (ne _)).trans ((World.cell?_setCell_other _ _ _ _ (ne _)).trans ((World.cell?_setCell_other _ _ _ _ (ne _)).trans (World.cell?_setCell_other _ _ _ _ (ne _)))))
  have HF : Hid (∀ a : Addr, (((((w2.setCell ⟨w.heap.size + 1, 0, none⟩ (.int .u32 boot)).setCell ⟨w.heap.size + 1, 1, none⟩ (.slice A1 rs.length c1)).setCell ⟨w.heap.size + 1, 2, none⟩ (.string mn)).setCell ⟨w.heap.size + 1, 3, none⟩ (.slice mpa mps.length mpc)).setCell ⟨w.heap.size + 1, 4, none⟩ (.slice mka mks.length mkc)).frozen? a = w2.frozen? a) := fun a => (World.frozen?_setCell _ _ _ _).trans ((World.frozen?_setCell _ _ _ _).trans ((World.frozen?_setCell _ _ _ _).trans ((World.frozen?_setCell _ _ _ _).trans (World.frozen?_setCell _ _ _ _))))
  have HZ : Hid ((((((w2.setCell ⟨w.heap.size + 1, 0, none⟩ (.int .u32 boot)).setCell ⟨w.heap.size + 1, 1, none⟩ (.slice A1 rs.length c1)).setCell ⟨w.heap.size + 1, 2, none⟩ (.string mn)).setCell ⟨w.heap.size + 1, 3, none⟩ (.slice mpa mps.length mpc)).setCell ⟨w.heap.size + 1, 4, none⟩ (.slice mka mks.length mkc)).heap.size = w2.heap.size) := by show (((((w2.setCell ⟨w.heap.size + 1, 0, none⟩ (.int .u32 boot)).setCell ⟨w.heap.size + 1, 1, none⟩ (.slice A1 rs.length c1)).setCell ⟨w.heap.size + 1, 2, none⟩ (.string mn)).setCell ⟨w.heap.size + 1, 3, none⟩ (.slice mpa mps.length mpc)).setCell ⟨w.heap.size + 1, 4, none⟩ (.slice mka mks.length mkc)).heap.size = _; simp
  have HBf := Lib.hid (((((HB3.out.setCell (p := ⟨w.heap.size + 1, 0, none⟩) (Nat.le_succ _) (.int .u32 boot)).setCell (p := ⟨w.heap.size + 1, 1, none⟩) (Nat.le_succ _) (.slice A1 rs.length c1)).setCell (p := ⟨w.heap.size + 1, 2, none⟩) (Nat.le_succ _) (.string mn)).setCell (p := ⟨w.heap.size + 1, 3, none⟩) (Nat.le_succ _) (.slice mpa mps.length mpc)).setCell (p := ⟨w.heap.size + 1, 4, none⟩) (Nat.le_succ _) (.slice mka mks.length mkc))
  have RIN : Hid ((⟨boot, A1, c1, rs, .mk mn mpa mpc mps mka mkc mks⟩ : Tr).In (((((w2.setCell ⟨w.heap.size + 1, 0, none⟩ (.int .u32 boot)).setCell ⟨w.heap.size + 1, 1, none⟩ (.slice A1 rs.length c1)).setCell ⟨w.heap.size + 1, 2, none⟩ (.string mn)).setCell ⟨w.heap.size + 1, 3, none⟩ (.slice mpa mps.length mpc)).setCell ⟨w.heap.size + 1, 4, none⟩ (.slice mka mks.length mkc)) (((((w2.setCell ⟨w.heap.size + 1, 0, none⟩ (.int .u32 boot)).setCell ⟨w.heap.size + 1, 1, none⟩ (.slice A1 rs.length c1)).setCell ⟨w.heap.size + 1, 2, none⟩ (.string mn)).setCell ⟨w.heap.size + 1, 3, none⟩ (.slice mpa mps.length mpc)).setCell ⟨w.heap.size + 1, 4, none⟩ (.slice mka mks.length mkc)).heap.size) := by
    refine ⟨HI.out.boot, ⟨HP.out.1, HP.out.2.1, HI.out.len.2.2⟩, fun h0 => ?_, HI.out.nums, ?_⟩
    · obtain ⟨b, e, q1, q2, q3, _⟩ := HLO.out h0
      refine ⟨b, 0, e, by rw [HZ.out]; exact Nat.lt_of_lt_of_le q2 HS2.out, fun i hi => ?_⟩
      have f := flat_cell (f := rC) (sz := 2) (fun _ => rfl) q3 i
      have o : ∀ j, (((((w2.setCell ⟨w.heap.size + 1, 0, none⟩ (.int .u32 boot)).setCell ⟨w.heap.size + 1, 1, none⟩ (.slice A1 rs.length c1)).setCell ⟨w.heap.size + 1, 2, none⟩ (.string mn)).setCell ⟨w.heap.size + 1, 3, none⟩ (.slice mpa mps.length mpc)).setCell ⟨w.heap.size + 1, 4, none⟩ (.slice mka mks.length mkc)).cell? ⟨b, j, none⟩ = w1.cell? ⟨b, j, none⟩ := fun j => (HC.out ⟨b, j, none⟩ q1).trans (HQ.out.2.2.2.2.cell (p := ⟨b, j, none⟩) q2)
      rw [Nat.zero_add]
      exact ⟨(o _).trans (f 0 hi (by omega)), (o _).trans (f 1 hi (by omega))⟩
    · rw [HZ.out]
      exact HQ.out.1.keep2 (lo := w1.heap.size) (fun a h1 _ => HC.out a (Nat.le_trans HS1.out h1)) HQ.out.2.1
  have RAB : Hid ((⟨boot, A1, c1, rs, .mk mn mpa mpc mps mka mkc mks⟩ : Tr).Above w.heap.size) := by
    refine ⟨fun h0 b o e => ?_, HQ.out.2.1.low (by have := HS1.out; omega)⟩
    obtain ⟨g, e', q1, _⟩ := HLO.out h0
    have e2 : (some ⟨b, o, none⟩ : Option Addr) = some ⟨g, 0, none⟩ := e.symm.trans e'
    have := congrArg Addr.block (Option.some.inj e2)
    simp at this
    omega
  have RSM : Hid (sameT ⟨boot, ra, rc, rs, .mk nm pa pc ps ka kc ks⟩ ⟨boot, A1, c1, rs, .mk mn mpa mpc mps mka mkc mks⟩ = true) := by
    show (decide (boot = boot) && all2 sameR rs rs && sameB (.mk nm pa pc ps ka kc ks) (.mk mn mpa mpc mps mka mkc mks)) = true
    have q3 : sameB (.mk nm pa pc ps ka kc ks) (.mk mn mpa mpc mps mka mkc mks) = true := HQ.out.2.2.1
    rw [all2_sameR, q3]; simp
  have RMU : Hid (Mut (((((w2.setCell ⟨w.heap.size + 1, 0, none⟩ (.int .u32 boot)).setCell ⟨w.heap.size + 1, 1, none⟩ (.slice A1 rs.length c1)).setCell ⟨w.heap.size + 1, 2, none⟩ (.string mn)).setCell ⟨w.heap.size + 1, 3, none⟩ (.slice mpa mps.length mpc)).setCell ⟨w.heap.size + 1, 4, none⟩ (.slice mka mks.length mkc)) (.mk mn mpa mpc mps mka mkc mks)) := by
    have q4 := HQ.out.2.2.2.1
    refine ⟨fun p hp h0 => ?_, fun h0 => ?_⟩
    · obtain ⟨b, e, f, g⟩ := q4.vals p hp h0
      exact ⟨b, e, fun i => (HF.out _).trans (f i), g⟩
    · obtain ⟨g, e, f⟩ := q4.row h0
      exact ⟨g, e, fun i => (HF.out _).trans (f i)⟩
  refine bodyPost_ret (v := .agg #[(.int .u32 boot), (.slice A1 rs.length c1), (.string mn), (.slice mpa mps.length mpc), (.slice mka mks.length mkc)]) (by simp [results, Try.results11, go_sem, d0, d1, d2, d3, d4]; try rfl) rfl ?_
  exact ⟨⟨boot, A1, c1, rs, .mk mn mpa mpc mps mka mkc mks⟩, rfl, RIN.out, RAB.out, RSM.out, RMU.out, HBf.out⟩
end Go.Proofs.Ythfonfecangmcaa
