/-
  Layer 3: whether two trees are the same: the program's and the document's answer.
-/
import Derived.Test.YthfonfecangmcaaTRes
import Derived.Test.YthfonfecangmcaaTRefSame
namespace Go.Proofs.Ythfonfecangmcaa
open Go.RowKit
set_option linter.unusedVariables false
set_option linter.unusedSimpArgs false

/-- Two reserves are the same. -/
def sameR (p q : Int × Int) : Bool := decide (p.1 = q.1) && decide (p.2 = q.2)
/-- Two trees are the same. -/
def sameT (t u : Tr) : Bool := decide (t.boot = u.boot) && all2 sameR t.rs u.rs && sameB t.root u.root

set_option maxHeartbeats 2000000 in
theorem equalRes_any (t u : Tr) (w : World) (hin : t.In w w.heap.size) (hjn : u.In w w.heap.size) (r : Bool) (hr : all2 sameR t.rs u.rs = r) :
    Calls Try.prog 28 #[t.rv, u.rv] w fun e w' => e = .returned (.bool r) ∧ Below w.heap.size w w' := by
  obtain ⟨boot, ra, rc, rs, root⟩ := t
  obtain ⟨boot', ra', rc', rs', root'⟩ := u
  have HI := Lib.hid hin
  have HJ := Lib.hid hjn
  have HR := Lib.hid (show all2 sameR rs rs' = r from hr)
  obtain ⟨hl, hm, _⟩ : rs.length ≤ rc ∧ rc ≤ 9223372036854775807 ∧ _ := hin.len
  clear hin hjn hr
  show Calls _ _ #[.slice ra rs.length rc, .slice ra' rs'.length rc'] _ _
  by_cases hle : rs.length = rs'.length
  · have HL := Lib.hid hle
    have hL1 : ((rs.length : Int) == (rs'.length : Int)) = true := by rw [hle]; simp
    have hL2 : ((rs.length : Int) != (rs'.length : Int)) = false := by rw [hle]; simp
    clear hle
    go_enter Try.func28, Try.ntmps28
    go_wp2_with fail
    go_loopw [13] (fun i wr => ∃ k : Nat, k ≤ rs.length ∧ i = .int .i64 k ∧ Even sameR rs rs' k ∧ Below w.heap.size w wr) (fun i _ => rs.length - (intOf i).toNat)
    case atStart => exact ⟨0, Nat.zero_le _, rfl, Even.zero _ _ _, Below.refl _ _⟩
    case round =>
      obtain ⟨k, hk, rfl, hev, hb⟩ := hrel
      have HE := Lib.hid hev
      have HB := Lib.hid hb
      clear hev hb
      by_cases hlt : k < rs.length
      · have hlt' : k < rs'.length := by rw [← HL.out]; exact hlt
        obtain ⟨b, o, e, hb, c0, c1⟩ := (HI.out.under HB.out).rcell (i := k) hlt
        obtain rfl : ra = _ := e
        replace c0 : _ = some (Value.int .u64 rs[k].1) := c0
        replace c1 : _ = some (Value.int .u64 rs[k].2) := c1
        obtain ⟨b', o', e', hb', d0, d1⟩ := (HJ.out.under HB.out).rcell (i := k) hlt'
        obtain rfl : ra' = _ := e'
        replace d0 : _ = some (Value.int .u64 rs'[k].1) := d0
        replace d1 : _ = some (Value.int .u64 rs'[k].2) := d1
        obtain ⟨x, hx⟩ : ∃ x, x = rs[k].1 := ⟨_, rfl⟩
        obtain ⟨y, hy⟩ : ∃ y, y = rs[k].2 := ⟨_, rfl⟩
        obtain ⟨x', hx'⟩ : ∃ x, x = rs'[k].1 := ⟨_, rfl⟩
        obtain ⟨y', hy'⟩ : ∃ y, y = rs'[k].2 := ⟨_, rfl⟩
        have HZ : Hid (sameR rs[k] rs'[k] = (decide (x = x') && decide (y = y'))) := by show sameR _ _ = _; rw [hx, hy, hx', hy']; rfl
        rw [← hx] at c0
        rw [← hy] at c1
        rw [← hx'] at d0
        rw [← hy'] at d1
        clear hx hy hx' hy'
        by_cases hx0 : x = x'
        · subst hx0
          by_cases hy0 : y = y'
          · subst hy0
            have HG : Hid (sameR rs[k] rs'[k] = true) := by have := HZ.out; show sameR _ _ = true; rw [this]; simp
            go_wp2_with fail
            go_region
            go_wp2
            go_roundw
            case rel => exact ⟨k + 1, by omega, by go_num, HE.out.succ hlt hlt' HG.out, HB.out.drew⟩
            case measure => simp [intOf]; omega
          · obtain rfl : r = false := by rw [← HR.out]; exact all2_bad k hlt hlt' (by rw [HZ.out, decide_eq_false hy0, Bool.and_false])
            go_wp2_with fail
            go_region
            go_wp2
            go_ret
            exact ⟨rfl, HB.out.drew⟩
        · obtain rfl : r = false := by rw [← HR.out]; exact all2_bad k hlt hlt' (by rw [HZ.out, decide_eq_false hx0]; rfl)
          go_wp2_with fail
          go_region
          go_wp2
          go_ret
          exact ⟨rfl, HB.out.drew⟩
      · obtain rfl : r = true := by rw [← HR.out]; exact HE.out.all HL.out hlt
        go_wp2
        go_ret
        exact ⟨rfl, HB.out⟩
  · obtain rfl : r = false := by rw [← HR.out]; exact all2_lens hle
    have hL1 : ((rs.length : Int) == (rs'.length : Int)) = false := by rw [beq_eq_false_iff_ne]; omega
    have hL2 : ((rs.length : Int) != (rs'.length : Int)) = true := by rw [bne, hL1]; rfl
    go_enter Try.func28, Try.ntmps28
    go_wp2
    go_ret
    exact ⟨rfl, Below.refl _ _⟩

set_option maxHeartbeats 4000000 in
theorem equal_any (t u : Tr) (w : World) (hin : t.In w w.heap.size) (hjn : u.In w w.heap.size) (r : Bool) (hr : sameT t u = r) :
    Calls Try.prog 12 #[t.val, u.val] w fun e w' => e = .returned (.bool r) ∧ Below w.heap.size w w' := by
  obtain ⟨r1, h1⟩ : ∃ r1, all2 sameR t.rs u.rs = r1 := ⟨_, rfl⟩
  obtain ⟨r2, h2⟩ : ∃ r2, sameB t.root u.root = r2 := ⟨_, rfl⟩
  have HR : Hid ((decide (t.boot = u.boot) && r1 && r2) = r) := by rw [← h1, ← h2]; exact hr
  have C1 := Lib.hid (fun w h1' h2' => equalRes_any t u w h1' h2' r1 h1)
  have C2 := Lib.hid (fun w h1' h2' => same_any t.root u.root w h1' h2' r2 h2)
  have HI := Lib.hid hin
  have HJ := Lib.hid hjn
  clear hin hjn hr h1 h2
  obtain ⟨boot, ra, rc, rs, ⟨nm, pa, pc, ps, ka, kc, ks⟩⟩ := t
  obtain ⟨boot', ra', rc', rs', ⟨nm', pa', pc', ps', ka', kc', ks'⟩⟩ := u
  replace HR : Hid ((decide (boot = boot') && r1 && r2) = r) := HR
  show Calls _ _ #[.agg #[.int .u32 boot, .slice ra rs.length rc, .string nm, .slice pa ps.length pc, .slice ka ks.length kc], .agg #[.int .u32 boot', .slice ra' rs'.length rc', .string nm', .slice pa' ps'.length pc', .slice ka' ks'.length kc']] _ _
  have HW := Lib.hid (((Below.refl w.heap.size w).alloc (Nat.le_refl _) (.cells #[Value.int .u32 boot, .slice ra rs.length rc, .string nm, .slice pa ps.length pc, .slice ka ks.length kc] 29)).alloc (by simp) (.cells #[Value.int .u32 boot', .slice ra' rs'.length rc', .string nm', .slice pa' ps'.length pc', .slice ka' ks'.length kc'] 29))
  by_cases hbo : boot = boot'
  · subst hbo
    have HR' : Hid ((r1 && r2) = r) := by have := HR.out; rwa [decide_eq_true rfl, Bool.true_and] at this
    go_enter Try.func12, Try.ntmps12
    go_wp2_with fail
    refine (C1.out _ (HI.out.on HW.out) (HJ.out.on HW.out)).mono ?_
    rintro e w1 ⟨rfl, hb⟩
    have HB1 := Lib.hid (HW.out.trans (hb.mono HW.out.size))
    have x2 := (hb.cell (p := ⟨w.heap.size, 2, none⟩) (by simp; omega)).trans (World.cell?_alloc2_first _ _ _ _)
    replace x2 : _ = some (Value.string nm) := x2
    have y2 := (hb.cell (p := ⟨w.heap.size + 1, 2, none⟩) (by simp)).trans (World.cell?_alloc2_new _ _ _ _)
    replace y2 : _ = some (Value.string nm') := y2
    have x3 := (hb.cell (p := ⟨w.heap.size, 3, none⟩) (by simp; omega)).trans (World.cell?_alloc2_first _ _ _ _)
    replace x3 : _ = some (Value.slice pa ps.length pc) := x3
    have y3 := (hb.cell (p := ⟨w.heap.size + 1, 3, none⟩) (by simp)).trans (World.cell?_alloc2_new _ _ _ _)
    replace y3 : _ = some (Value.slice pa' ps'.length pc') := y3
    have x4 := (hb.cell (p := ⟨w.heap.size, 4, none⟩) (by simp; omega)).trans (World.cell?_alloc2_first _ _ _ _)
    replace x4 : _ = some (Value.slice ka ks.length kc) := x4
    have y4 := (hb.cell (p := ⟨w.heap.size + 1, 4, none⟩) (by simp)).trans (World.cell?_alloc2_new _ _ _ _)
    replace y4 : _ = some (Value.slice ka' ks'.length kc') := y4
    clear hb
    cases r1
    · obtain rfl : r = false := by rw [← HR'.out]; rfl
      go_wp2
      go_ret
      exact ⟨rfl, HB1.out⟩
    · obtain rfl : r = r2 := by rw [← HR'.out]; rfl
      go_wp2_with fail
      refine (C2.out _ ((HI.out.on HB1.out).root) ((HJ.out.on HB1.out).root)).mono ?_
      rintro e w2 ⟨rfl, hb⟩
      have HB2 := Lib.hid (HB1.out.trans (hb.mono HB1.out.size))
      clear hb
      go_wp2
      go_ret
      exact ⟨rfl, HB2.out⟩
  · obtain rfl : r = false := by rw [← HR.out, decide_eq_false hbo]; rfl
    have b1 : (boot == boot') = false := by rw [beq_eq_false_iff_ne]; exact hbo
    clear hbo
    go_enter Try.func12, Try.ntmps12
    go_wp2
    go_ret
    exact ⟨rfl, HW.out⟩

set_option maxHeartbeats 4000000 in
theorem reftree_any (t u : Tr) (w : World) (hin : t.In w w.heap.size) (hjn : u.In w w.heap.size) (r : Bool) (hr : sameT t u = r) :
    Calls Try.prog 13 #[t.val, u.val] w fun e w' => e = .returned (.bool r) ∧ Below w.heap.size w w' := by
  obtain ⟨r2, h2⟩ : ∃ r2, sameB t.root u.root = r2 := ⟨_, rfl⟩
  have HR : Hid ((decide (t.boot = u.boot) && all2 sameR t.rs u.rs && r2) = r) := by rw [← h2]; exact hr
  have C2 := Lib.hid (fun w h1' h2' => refsame_any t.root u.root w h1' h2' r2 h2)
  have HI := Lib.hid hin
  have HJ := Lib.hid hjn
  obtain ⟨hl, hm, _⟩ := hin.len
  clear hin hjn hr h2
  obtain ⟨boot, ra, rc, rs, ⟨nm, pa, pc, ps, ka, kc, ks⟩⟩ := t
  obtain ⟨boot', ra', rc', rs', ⟨nm', pa', pc', ps', ka', kc', ks'⟩⟩ := u
  replace hl : rs.length ≤ rc := hl
  replace hm : rc ≤ 9223372036854775807 := hm
  replace HR : Hid ((decide (boot = boot') && all2 sameR rs rs' && r2) = r) := HR
  show Calls _ _ #[.agg #[.int .u32 boot, .slice ra rs.length rc, .string nm, .slice pa ps.length pc, .slice ka ks.length kc], .agg #[.int .u32 boot', .slice ra' rs'.length rc', .string nm', .slice pa' ps'.length pc', .slice ka' ks'.length kc']] _ _
  have HW := Lib.hid (((Below.refl w.heap.size w).alloc (Nat.le_refl _) (.cells #[Value.int .u32 boot, .slice ra rs.length rc, .string nm, .slice pa ps.length pc, .slice ka ks.length kc] 29)).alloc (by simp) (.cells #[Value.int .u32 boot', .slice ra' rs'.length rc', .string nm', .slice pa' ps'.length pc', .slice ka' ks'.length kc'] 29))
  by_cases hbo : boot = boot'
  · have b1 : (boot == boot') = true := by rw [hbo]; simp
    have b2 : (boot != boot') = false := by rw [hbo]; simp
    by_cases hle : rs.length = rs'.length
    · have HL := Lib.hid hle
      have hL1 : ((rs.length : Int) == (rs'.length : Int)) = true := by rw [hle]; simp
      have hL2 : ((rs.length : Int) != (rs'.length : Int)) = false := by rw [hle]; simp
      have HR' : Hid ((all2 sameR rs rs' && r2) = r) := by have := HR.out; rwa [decide_eq_true hbo, Bool.true_and] at this
      clear hle hbo
      go_enter Try.func13, Try.ntmps13
      go_wp2_with fail
      go_loopw [23] (fun i wr => ∃ k : Nat, k ≤ rs.length ∧ i = .int .i64 k ∧ Even sameR rs rs' k ∧ Below (w.heap.size + 2) ((w.alloc (.cells #[Value.int .u32 boot, .slice ra rs.length rc, .string nm, .slice pa ps.length pc, .slice ka ks.length kc] 29)).alloc (.cells #[Value.int .u32 boot', .slice ra' rs'.length rc', .string nm', .slice pa' ps'.length pc', .slice ka' ks'.length kc'] 29)) wr) (fun i _ => rs.length - (intOf i).toNat)
      case atStart => exact ⟨0, Nat.zero_le _, rfl, Even.zero _ _ _, Below.refl _ _⟩
      case round =>
        obtain ⟨k, hk, rfl, hev, hb⟩ := hrel
        have HE := Lib.hid hev
        have HB0 := Lib.hid hb
        have HB := Lib.hid (HW.out.trans (hb.mono (by omega)))
        have x1 : wr.cell? ⟨w.heap.size, 1, none⟩ = some (.slice ra rs.length rc) := (hb.cell (by simp)).trans (World.cell?_alloc2_first _ _ _ _)
        have y1 : wr.cell? ⟨w.heap.size + 1, 1, none⟩ = some (.slice ra' rs'.length rc') := (hb.cell (by simp)).trans (World.cell?_alloc2_new _ _ _ _)
        clear hev hb
        by_cases hlt : k < rs.length
        · have hlt' : k < rs'.length := by rw [← HL.out]; exact hlt
          obtain ⟨b, o, e, hb, c0, c1⟩ := (HI.out.under HB.out).rcell (i := k) hlt
          obtain rfl : ra = _ := e
          replace c0 : _ = some (Value.int .u64 rs[k].1) := c0
          replace c1 : _ = some (Value.int .u64 rs[k].2) := c1
          obtain ⟨b', o', e', hb', d0, d1⟩ := (HJ.out.under HB.out).rcell (i := k) hlt'
          obtain rfl : ra' = _ := e'
          replace d0 : _ = some (Value.int .u64 rs'[k].1) := d0
          replace d1 : _ = some (Value.int .u64 rs'[k].2) := d1
          obtain ⟨x, hx⟩ : ∃ x, x = rs[k].1 := ⟨_, rfl⟩
          obtain ⟨y, hy⟩ : ∃ y, y = rs[k].2 := ⟨_, rfl⟩
          obtain ⟨x', hx'⟩ : ∃ x, x = rs'[k].1 := ⟨_, rfl⟩
          obtain ⟨y', hy'⟩ : ∃ y, y = rs'[k].2 := ⟨_, rfl⟩
          have HZ : Hid (sameR rs[k] rs'[k] = (decide (x = x') && decide (y = y'))) := by show sameR _ _ = _; rw [hx, hy, hx', hy']; rfl
          rw [← hx] at c0
          rw [← hy] at c1
          rw [← hx'] at d0
          rw [← hy'] at d1
          clear hx hy hx' hy'
          by_cases hx0 : x = x'
          · subst hx0
            by_cases hy0 : y = y'
            · subst hy0
              have HG : Hid (sameR rs[k] rs'[k] = true) := by have := HZ.out; show sameR _ _ = true; rw [this]; simp
              go_wp2_with fail
              go_region
              go_wp2
              go_roundw
              case rel => exact ⟨k + 1, by omega, by go_num, HE.out.succ hlt hlt' HG.out, HB0.out.drew⟩
              case measure => simp [intOf]; omega
            · obtain rfl : r = false := by rw [← HR'.out, all2_bad k hlt hlt' (by rw [HZ.out, decide_eq_false hy0, Bool.and_false])]; rfl
              go_wp2_with fail
              go_region
              go_wp2
              go_ret
              exact ⟨rfl, HB.out.drew⟩
          · obtain rfl : r = false := by rw [← HR'.out, all2_bad k hlt hlt' (by rw [HZ.out, decide_eq_false hx0]; rfl)]; rfl
            go_wp2_with fail
            go_region
            go_wp2
            go_ret
            exact ⟨rfl, HB.out.drew⟩
        · obtain rfl : r = r2 := by rw [← HR'.out, HE.out.all HL.out hlt]; rfl
          have x2 : wr.cell? ⟨w.heap.size, 2, none⟩ = some (.string nm) := (HB0.out.cell (by simp)).trans (World.cell?_alloc2_first _ _ _ _)
          have y2 : wr.cell? ⟨w.heap.size + 1, 2, none⟩ = some (.string nm') := (HB0.out.cell (by simp)).trans (World.cell?_alloc2_new _ _ _ _)
          have x3 : wr.cell? ⟨w.heap.size, 3, none⟩ = some (.slice pa ps.length pc) := (HB0.out.cell (by simp)).trans (World.cell?_alloc2_first _ _ _ _)
          have y3 : wr.cell? ⟨w.heap.size + 1, 3, none⟩ = some (.slice pa' ps'.length pc') := (HB0.out.cell (by simp)).trans (World.cell?_alloc2_new _ _ _ _)
          have x4 : wr.cell? ⟨w.heap.size, 4, none⟩ = some (.slice ka ks.length kc) := (HB0.out.cell (by simp)).trans (World.cell?_alloc2_first _ _ _ _)
          have y4 : wr.cell? ⟨w.heap.size + 1, 4, none⟩ = some (.slice ka' ks'.length kc') := (HB0.out.cell (by simp)).trans (World.cell?_alloc2_new _ _ _ _)
          go_wp2_with fail
          refine (C2.out _ ((HI.out.on HB.out).root) ((HJ.out.on HB.out).root)).mono ?_
          rintro e w2 ⟨rfl, hb⟩
          have HB2 := Lib.hid (HB.out.trans (hb.mono HB.out.size))
          clear hb
          go_wp2
          go_ret
          exact ⟨rfl, HB2.out⟩
    · obtain rfl : r = false := by rw [← HR.out, all2_lens hle, Bool.and_false]; rfl
      have hL1 : ((rs.length : Int) == (rs'.length : Int)) = false := by rw [beq_eq_false_iff_ne]; omega
      have hL2 : ((rs.length : Int) != (rs'.length : Int)) = true := by rw [bne, hL1]; rfl
      clear hbo
      go_enter Try.func13, Try.ntmps13
      go_wp2
      go_ret
      exact ⟨rfl, HW.out⟩
  · obtain rfl : r = false := by rw [← HR.out, decide_eq_false hbo]; rfl
    have b1 : (boot == boot') = false := by rw [beq_eq_false_iff_ne]; exact hbo
    have b2 : (boot != boot') = true := by rw [bne, b1]; rfl
    clear hbo
    go_enter Try.func13, Try.ntmps13
    go_wp2
    go_ret
    exact ⟨rfl, HW.out⟩
end Go.Proofs.Ythfonfecangmcaa
