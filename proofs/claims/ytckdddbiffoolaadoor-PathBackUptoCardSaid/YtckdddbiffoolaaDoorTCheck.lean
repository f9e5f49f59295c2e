/-
  Layer 3: the first error of a tree, the program's and the document's.
-/
import Derived.Test.YtckdddbiffoolaaDoorTWrong
import Derived.Test.YtckdddbiffoolaaDoorTRes
import Derived.Test.YtckdddbiffoolaaDoorReg
import Derived.Deep.DrawnRows
namespace Go.Proofs.YtckdddbiffoolaaDoor
open Go.RowKit
set_option linter.unusedVariables false
set_option linter.unusedSimpArgs false
attribute [local go_sem ↓] Go.wp_at_zero Go.wp_at_succ

/-- The first error of a tree. -/
noncomputable def checkE (t : Tr) : Int := if wrongN t.root 1 = 0 then manyE t else wrongN t.root 1

set_option maxHeartbeats 8000000 in
theorem refcheck_any (t : Tr) (w : World) (hin : t.In w w.heap.size) (E : Int) (hE : checkE t = E) :
    Calls Tryd.prog 6 #[t.val] w fun e w' => e = .returned (.int .i64 E) ∧ Below w.heap.size w w' := by
  obtain ⟨F, hF⟩ : ∃ F, wrongN t.root 1 = F := ⟨_, rfl⟩
  obtain ⟨a, ha⟩ : ∃ a, a = wrap64 (nodesN t.root) := ⟨_, rfl⟩
  obtain ⟨c, hc⟩ : ∃ c, c = wrap64 (propsN t.root) := ⟨_, rfl⟩
  have HE : Hid ((if F = 0 then (if 4096 < a ∨ 8192 < c ∨ 64 < t.rs.length then 7 else if t.rs.any zeroR = true then 7 else 0) else F) = E) := by rw [← hF, ha, hc]; exact hE
  have C1 := Lib.hid (fun w h => wrong_any t.root 1 w h (by omega) (by omega) F hF)
  have C2 := Lib.hid (fun w h => (refcount_any t.root w h).mono fun e w' (h : Counted e t.root ∧ _) => show e = .returned (.tuple #[.int .i64 a, .int .i64 c]) ∧ Below w.heap.size w w' from ⟨by rw [ha, hc]; exact h.1, h.2⟩)
  have HI := Lib.hid hin
  obtain ⟨hl, hm, _⟩ := hin.len
  clear hE hF ha hc hin
  obtain ⟨boot, ra, rc, rs, ⟨nm, pa, pc, ps, ka, kc, ks⟩⟩ := t
  replace hl : rs.length ≤ rc := hl
  replace hm : rc ≤ 9223372036854775807 := hm
  replace HE : Hid ((if F = 0 then (if 4096 < a ∨ 8192 < c ∨ 64 < rs.length then 7 else if rs.any zeroR = true then 7 else 0) else F) = E) := HE
  show Calls _ _ #[.agg #[.int .u32 boot, .slice ra rs.length rc, .string nm, .slice pa ps.length pc, .slice ka ks.length kc]] _ _
  have HB := Lib.hid ((Below.refl w.heap.size w).alloc (Nat.le_refl _) (.cells #[.int .u32 boot, .slice ra rs.length rc, .string nm, .slice pa ps.length pc, .slice ka ks.length kc] 29))
  have BX : Hid (∀ W : World, Below (w.heap.size + 1) (w.alloc (.cells #[.int .u32 boot, .slice ra rs.length rc, .string nm, .slice pa ps.length pc, .slice ka ks.length kc] 29)) W → W.cell? ⟨w.heap.size, 1, none⟩ = some (.slice ra rs.length rc) ∧ W.cell? ⟨w.heap.size, 2, none⟩ = some (.string nm) ∧ W.cell? ⟨w.heap.size, 3, none⟩ = some (.slice pa ps.length pc) ∧ W.cell? ⟨w.heap.size, 4, none⟩ = some (.slice ka ks.length kc)) := fun W h =>
    ⟨(h.cell (Nat.lt_succ_self _)).trans (World.cell?_alloc_new _ _ _ _), (h.cell (Nat.lt_succ_self _)).trans (World.cell?_alloc_new _ _ _ _), (h.cell (Nat.lt_succ_self _)).trans (World.cell?_alloc_new _ _ _ _), (h.cell (Nat.lt_succ_self _)).trans (World.cell?_alloc_new _ _ _ _)⟩
  go_enter Tryd.func6, Tryd.ntmps6
  go_wp2_with fail
  refine (C1.out _ ((HI.out.on HB.out).root)).mono ?_
  rintro e w1 ⟨rfl, hb⟩
  have HB1 := Lib.hid (HB.out.trans (hb.mono HB.out.size))
  have HX1 := Lib.hid (hb.mono (B' := w.heap.size + 1) (by simp))
  obtain ⟨b1, b2, b3, b4⟩ := BX.out _ HX1.out
  clear hb
  by_cases h0 : F = 0
  · have HE2 : Hid ((if 4096 < a ∨ 8192 < c ∨ 64 < rs.length then 7 else if rs.any zeroR = true then 7 else 0) = E) := by have := HE.out; rwa [if_pos h0] at this
    subst h0
    clear HE
    go_wp2_with fail
    refine (C2.out _ ((HI.out.on HB1.out).root)).mono ?_
    rintro e w2 ⟨rfl, hb⟩
    have HB2 := Lib.hid (HB1.out.trans (hb.mono HB1.out.size))
    have HX2 := Lib.hid (HX1.out.trans (hb.mono (by have := HX1.out.size; simpa using this)))
    clear hb b1 b2 b3 b4
    obtain ⟨b1, b2, b3, b4⟩ := BX.out _ HX2.out
    by_cases h1 : 4096 < a
    · obtain rfl : E = 7 := by rw [← HE2.out, if_pos (.inl h1)]
      go_wp2
      go_ret
      exact ⟨rfl, HB2.out⟩
    · by_cases h2 : 8192 < c
      · obtain rfl : E = 7 := by rw [← HE2.out, if_pos (.inr (.inl h2))]
        go_wp2
        go_ret
        exact ⟨rfl, HB2.out⟩
      · by_cases h3 : 64 < (rs.length : Int)
        · obtain rfl : E = 7 := by rw [← HE2.out, if_pos (.inr (.inr (by omega)))]
          go_wp2
          go_ret
          exact ⟨rfl, HB2.out⟩
        · have HF : Hid ((if rs.any zeroR = true then 7 else 0) = E) := by have := HE2.out; rwa [if_neg (by omega)] at this
          go_wp2_with fail
          clear b1 b2 b3 b4
          go_loopw [34] (fun i wr => ∃ k : Nat, k ≤ rs.length ∧ i = .int .i64 k ∧ Good zeroR rs k ∧ Below (w.heap.size + 1) (w.alloc (.cells #[.int .u32 boot, .slice ra rs.length rc, .string nm, .slice pa ps.length pc, .slice ka ks.length kc] 29)) wr) (fun i _ => rs.length - (intOf i).toNat)
          case atStart => exact ⟨0, Nat.zero_le _, rfl, Good.zero _ _, HX2.out⟩
          case round =>
            obtain ⟨k, hk, rfl, hgood, hb⟩ := hrel
            have HA := Lib.hid hgood
            have HB0 := Lib.hid hb
            have HB' := Lib.hid (HB.out.trans (hb.mono (Nat.le_succ _)))
            obtain ⟨b1, _, _, _⟩ := BX.out _ hb
            clear hgood hb
            by_cases hlt : k < rs.length
            · obtain ⟨b, o, e, hb, c0, c1⟩ := (HI.out.under HB'.out).rcell (i := k) hlt
              obtain rfl : ra = _ := e
              replace c0 : _ = some (Value.int .u64 rs[k].1) := c0
              replace c1 : _ = some (Value.int .u64 rs[k].2) := c1
              obtain ⟨x, hx⟩ : ∃ x, x = rs[k].1 := ⟨_, rfl⟩
              obtain ⟨y, hy⟩ : ∃ y, y = rs[k].2 := ⟨_, rfl⟩
              have HZ : Hid (zeroR rs[k] = (decide (x = 0) && decide (y = 0))) := by show zeroR _ = _; rw [hx, hy]; rfl
              rw [← hx] at c0
              rw [← hy] at c1
              clear hx hy
              by_cases hx0 : x = 0
              · subst hx0
                by_cases hy0 : y = 0
                · subst hy0
                  obtain rfl : E = 7 := by rw [← HF.out, if_pos (any_at hlt HZ.out)]
                  go_wp2
                  go_ret
                  exact ⟨rfl, HB'.out⟩
                · have HG : Hid (zeroR rs[k] = false) := by have := HZ.out; rw [decide_eq_false hy0] at this; exact this
                  have hy1 : (y == 0) = false := by rw [beq_eq_false_iff_ne]; exact hy0
                  clear hy0
                  go_wp2
                  go_roundw
                  case rel => exact ⟨k + 1, by omega, by go_num, HA.out.succ hlt HG.out, HB0.out⟩
                  case measure => simp [intOf]; omega
              · have HG : Hid (zeroR rs[k] = false) := by have := HZ.out; rw [decide_eq_false hx0] at this; exact this
                have hx1 : (x == 0) = false := by rw [beq_eq_false_iff_ne]; exact hx0
                clear hx0
                go_wp2
                go_roundw
                case rel => exact ⟨k + 1, by omega, by go_num, HA.out.succ hlt HG.out, HB0.out⟩
                case measure => simp [intOf]; omega
            · obtain rfl : E = 0 := by rw [← HF.out, HA.out.all hlt]; rfl
              go_wp2
              go_ret
              exact ⟨rfl, HB'.out⟩
  · have f1 : (F == 0) = false := by rw [beq_eq_false_iff_ne]; exact h0
    have f2 : (F != 0) = true := by rw [bne, f1]; rfl
    obtain rfl : E = F := by rw [← HE.out, if_neg h0]
    clear h0
    go_wp2
    go_ret
    exact ⟨rfl, HB1.out⟩

set_option maxHeartbeats 4000000 in
theorem few_any (t : Tr) (w : World) (hin : t.In w w.heap.size) :
    Calls Tryd.prog 5 #[t.val] w fun e w' => (∃ r : Bool, e = .returned (.bool r)) ∧ Below w.heap.size w w' := by
  have C1 := Lib.hid (fun w h => size_any t.root 0 w h (by omega) (by omega))
  have HI := Lib.hid hin
  clear hin
  obtain ⟨boot, ra, rc, rs, ⟨nm, pa, pc, ps, ka, kc, ks⟩⟩ := t
  show Calls _ _ #[.agg #[.int .u32 boot, .slice ra rs.length rc, .string nm, .slice pa ps.length pc, .slice ka ks.length kc]] _ _
  have HB := Lib.hid ((Below.refl w.heap.size w).alloc (Nat.le_refl _) (.cells #[.int .u32 boot, .slice ra rs.length rc, .string nm, .slice pa ps.length pc, .slice ka ks.length kc] 29))
  go_enter Tryd.func5, Tryd.ntmps5
  go_wp2_with fail
  refine (C1.out _ ((HI.out.on HB.out).root)).mono ?_
  rintro e w1 ⟨⟨z, rfl⟩, hb⟩
  have HB1 := Lib.hid (HB.out.trans (hb.mono HB.out.size))
  have b1 := (hb.cell (p := ⟨w.heap.size, 1, none⟩) (by simp)).trans (World.cell?_alloc_new _ _ _ _)
  replace b1 : _ = some (Value.slice ra rs.length rc) := b1
  clear hb
  by_cases hz : z ≤ 100000
  · go_wp2
    go_ret
    exact ⟨⟨_, rfl⟩, HB1.out⟩
  · go_wp2
    go_ret
    first | exact ⟨⟨_, rfl⟩, HB1.out⟩ | exact ⟨.inl rfl, HB1.out⟩

end Go.Proofs.YtckdddbiffoolaaDoor
