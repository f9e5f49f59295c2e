/-
  Layer 3: the first error of a tree, the program's and the document's.
-/
import Derived.Test.YtgogkcmdcfcikaaTWrong
import Derived.Test.YtgogkcmdcfcikaaTRes
import Derived.Test.YtgogkcmdcfcikaaReg
import Derived.Deep.DrawnRows
namespace Go.Proofs.Ytgogkcmdcfcikaa
open Go.RowKit
set_option linter.unusedVariables false
set_option linter.unusedSimpArgs false
attribute [local go_sem ↓] Go.wp_at_zero Go.wp_at_succ

/-- The first error of a tree. -/
noncomputable def checkE (t : Tr) : Int := if wrongN t.root 1 = 0 then manyE t else wrongN t.root 1

set_option maxHeartbeats 4000000 in
theorem few_any (t : Tr) (w : World) (hin : t.In w w.heap.size) :
    Calls Try.prog 17 #[t.val] w fun e w' => (∃ r : Bool, e = .returned (.bool r)) ∧ Below w.heap.size w w' := by
  have C1 := Lib.hid (fun w h => size_any t.root 0 w h (by omega) (by omega))
  have HI := Lib.hid hin
  clear hin
  obtain ⟨boot, ra, rc, rs, ⟨nm, pa, pc, ps, ka, kc, ks⟩⟩ := t
  show Calls _ _ #[.agg #[.int .u32 boot, .slice ra rs.length rc, .string nm, .slice pa ps.length pc, .slice ka ks.length kc]] _ _
  have HB := Lib.hid ((Below.refl w.heap.size w).alloc (Nat.le_refl _) (.cells #[.int .u32 boot, .slice ra rs.length rc, .string nm, .slice pa ps.length pc, .slice ka ks.length kc] 54))
  go_enter Try.func17, Try.ntmps17
  go_wp2_with fail
  refine (C1.out _ ((HI.out.on HB.out).root)).mono ?_
  rintro e w1 ⟨⟨z, rfl⟩, hb⟩
  have HB1 := Lib.hid (HB.out.trans (hb.mono HB.out.size))
  have b1 := (hb.cell (p := ⟨w.heap.size, 1, none⟩) (by simp)).trans (World.cell?_alloc_new _ _ _ _)
  replace b1 : _ = some (Value.slice ra rs.length rc) := b1
  clear hb
  by_cases hz : z ≤ 100000
  · go_wp2
    go_ret
    exact ⟨⟨_, rfl⟩, HB1.out⟩
  · go_wp2
    go_ret
    first | exact ⟨⟨_, rfl⟩, HB1.out⟩ | exact ⟨.inl rfl, HB1.out⟩

end Go.Proofs.Ytgogkcmdcfcikaa
