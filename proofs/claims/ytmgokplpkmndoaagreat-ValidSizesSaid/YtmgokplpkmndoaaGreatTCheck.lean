/-
  Layer 3: the first error of a tree, the program's and the document's.
-/
import Derived.Test.YtmgokplpkmndoaaGreatTWrong
import Derived.Test.YtmgokplpkmndoaaGreatTRes
import Derived.Test.YtmgokplpkmndoaaGreatReg
import Derived.Deep.DrawnRows
namespace Go.Proofs.YtmgokplpkmndoaaGreat
open Go.RowKit
set_option linter.unusedVariables false
set_option linter.unusedSimpArgs false
attribute [local go_sem ↓] Go.wp_at_zero Go.wp_at_succ

/-- The first error of a tree. -/
noncomputable def checkE (t : Tr) : Int := if wrongN t.root 1 = 0 then manyE t else wrongN t.root 1

set_option maxHeartbeats 4000000 in
theorem check_any (t : Tr) (w : World) (hin : t.In w w.heap.size) (E : Int) (hE : checkE t = E) :
    Calls Tryz.prog 8 #[t.val] w fun e w' => e = .returned (.int .i64 E) ∧ Below w.heap.size w w' := by
  obtain ⟨F, hF⟩ : ∃ F, wrongN t.root 1 = F := ⟨_, rfl⟩
  obtain ⟨M, hM⟩ : ∃ M, manyE t = M := ⟨_, rfl⟩
  have HE : Hid ((if F = 0 then M else F) = E) := by rw [← hF, ← hM]; exact hE
  have C1 := Lib.hid (fun w h => checkNode_any t.root 1 w h (by omega) (by omega) F hF)
  have C2 := Lib.hid (fun w h => many_any t w h M hM)
  have HI := Lib.hid hin
  clear hE hF hM hin
  obtain ⟨boot, ra, rc, rs, ⟨nm, pa, pc, ps, ka, kc, ks⟩⟩ := t
  show Calls _ _ #[.agg #[.int .u32 boot, .slice ra rs.length rc, .string nm, .slice pa ps.length pc, .slice ka ks.length kc]] _ _
  have HB := Lib.hid ((Below.refl w.heap.size w).alloc (Nat.le_refl _) (.cells #[.int .u32 boot, .slice ra rs.length rc, .string nm, .slice pa ps.length pc, .slice ka ks.length kc] 37))
  go_enter Tryz.func8, Tryz.ntmps8
  go_wp2_with fail
  refine (C1.out _ ((HI.out.on HB.out).root)).mono ?_
  rintro e w1 ⟨rfl, hb⟩
  have HB1 := Lib.hid (HB.out.trans (hb.mono HB.out.size))
  have b0 := (hb.cell (p := ⟨w.heap.size, 0, none⟩) (by simp)).trans (World.cell?_alloc_new _ _ _ _)
  have b1 := (hb.cell (p := ⟨w.heap.size, 1, none⟩) (by simp)).trans (World.cell?_alloc_new _ _ _ _)
  have b2 := (hb.cell (p := ⟨w.heap.size, 2, none⟩) (by simp)).trans (World.cell?_alloc_new _ _ _ _)
  have b3 := (hb.cell (p := ⟨w.heap.size, 3, none⟩) (by simp)).trans (World.cell?_alloc_new _ _ _ _)
  have b4 := (hb.cell (p := ⟨w.heap.size, 4, none⟩) (by simp)).trans (World.cell?_alloc_new _ _ _ _)
  replace b0 : _ = some (Value.int .u32 boot) := b0
  replace b1 : _ = some (Value.slice ra rs.length rc) := b1
  replace b2 : _ = some (Value.string nm) := b2
  replace b3 : _ = some (Value.slice pa ps.length pc) := b3
  replace b4 : _ = some (Value.slice ka ks.length kc) := b4
  clear hb
  by_cases h0 : F = 0
  · obtain rfl : E = M := by rw [← HE.out, if_pos h0]
    subst h0
    go_wp2_with fail
    refine (C2.out _ (HI.out.on HB1.out)).mono ?_
    rintro e w2 ⟨rfl, hb⟩
    have HB2 := Lib.hid (HB1.out.trans (hb.mono HB1.out.size))
    clear hb
    go_wp2
    go_ret
    exact ⟨rfl, HB2.out⟩
  · have f1 : (F == 0) = false := by rw [beq_eq_false_iff_ne]; exact h0
    have f2 : (F != 0) = true := by rw [bne, f1]; rfl
    obtain rfl : E = F := by rw [← HE.out, if_neg h0]
    clear h0
    go_wp2
    go_ret
    exact ⟨rfl, HB1.out⟩

end Go.Proofs.YtmgokplpkmndoaaGreat
