/-
  Layer 11: the program's check, and ready: the overlay as it is laid, or an error.
-/
import Derived.Test.YtihlpcbebpnmkaaGreatDoorZFix
import Derived.Test.YtihlpcbebpnmkaaGreatDoorRMost
import Derived.Test.YtihlpcbebpnmkaaGreatDoorBase8
namespace Go.Proofs.YtihlpcbebpnmkaaGreatDoor
open Go.RowKit
set_option linter.unusedVariables false
set_option linter.unusedSimpArgs false
set_option maxRecDepth 20000
attribute [local go_sem ↓] Go.wp_at_zero Go.wp_at_succ

theorem foldl_max (l : List (Int × List Nat)) (h : ∀ x ∈ l, 0 ≤ x.1 ∧ x.1 ≤ 4294967295) : ∀ m : Int, 0 ≤ m ∧ m ≤ 4294967295 → 0 ≤ l.foldl (fun m x => max m x.1) m ∧ l.foldl (fun m x => max m x.1) m ≤ 4294967295 := by
  induction l with
  | nil => exact fun m h => h
  | cons x l ih =>
    intro m hm
    have hx := h x (by simp)
    exact ih (fun y hy => h y (by simp [hy])) (max m x.1) ⟨by omega, by omega⟩
theorem mostOf_range {w : World} {B : Nat} {root : Nd} (hin : root.In w B) : 0 ≤ mostOf root ∧ mostOf root ≤ 4294967295 := foldl_max _ (refsOf_range hin) 0 ⟨by omega, by omega⟩

set_option maxHeartbeats 4000000 in
theorem checkO_any (t : Tr) (w : World) (hin : t.In w w.heap.size) (hh : heftN t.root ≤ 134217728) :
    Calls Tryz.prog 16 #[t.val] w fun e w' => (∃ er : Int, e = .returned (.int .i64 er) ∧ (er = 0 → checkE t = 0)) ∧ Below w.heap.size w w' := by
  have HI := Lib.hid hin
  have C1 := Lib.hid (fun (W : World) (h : t.In W W.heap.size) => check_any t W h _ rfl)
  have C2 := Lib.hid (fun (W : World) (h : t.In W W.heap.size) => mostOK t W h hh)
  obtain ⟨E1, hE1⟩ : ∃ E1, checkE t = E1 := ⟨_, rfl⟩
  obtain ⟨E2, hE2⟩ : ∃ E2, (refsOf t.root).2 = E2 := ⟨_, rfl⟩
  obtain ⟨mv, hmv⟩ : ∃ mv, mostOf t.root = mv := ⟨_, rfl⟩
  rw [hE1] at C1 ⊢
  rw [hE2, hmv] at C2
  clear hin hh hE1 hE2 hmv
  obtain ⟨boot, ra, rc, rs, ⟨nm, pa, pc, ps, ka, kc, ks⟩⟩ := t
  simp only [Tr.val, Tr.rv, Nd.val, Nd.pv, Nd.kv, Nd.name, Nd.pa, Nd.pc, Nd.props, Nd.ka, Nd.kc, Nd.kids] at C1 C2 ⊢
  obtain ⟨W0, hW0⟩ : ∃ W0, w.alloc (.cells #[Value.int .u32 boot, .slice ra rs.length rc, .string nm, .slice pa ps.length pc, .slice ka ks.length kc] 29) = W0 := ⟨_, rfl⟩
  have HB0 : Hid (Below w.heap.size w W0) := Lib.hid (by rw [← hW0]; exact (Below.refl _ _).alloc (Nat.le_refl _) _)
  have HX0 : Hid (W0.heap[w.heap.size]? = some (.cells #[Value.int .u32 boot, .slice ra rs.length rc, .string nm, .slice pa ps.length pc, .slice ka ks.length kc] 29 (0, 0)) ∧ W0.heap.size = w.heap.size + 1) := Lib.hid (by rw [← hW0]; exact ⟨heap_alloc_new _ _, by simp⟩)
  obtain ⟨b0, b1, b2, b3, b4⟩ := tree_box HX0.out.1
  go_enter Tryz.func16, Tryz.ntmps16
  go_wp2_with fail
  try rw [hW0]
  clear hW0 b0 b1 b2 b3 b4
  refine (C1.out W0 (HI.out.on HB0.out)).mono ?_
  rintro e w1 ⟨rfl, hb1⟩
  have HB1 := Lib.hid (HB0.out.trans (hb1.mono HB0.out.size))
  have HX1 := Lib.hid ((hb1.block w.heap.size (by have := HX0.out.2; omega)).trans HX0.out.1)
  clear hb1
  by_cases h1 : E1 = 0
  · subst h1
    obtain ⟨b0, b1, b2, b3, b4⟩ := tree_box HX1.out
    go_wp2_with fail
    clear b0 b1 b2 b3 b4
    refine (C2.out w1 (HI.out.on HB1.out)).mono ?_
    rintro e w2 ⟨rfl, hb2⟩
    have HB2 := Lib.hid (HB1.out.trans (hb2.mono HB1.out.size))
    clear hb2
    go_wp2
    go_ret
    refine ⟨?_, HB2.out⟩
    first | exact ⟨_, rfl, fun _ => rfl⟩ | exact ⟨_, rfl⟩ | simp
  · have j1 : (E1 != 0) = true := by rw [bne_iff_ne]; exact h1
    go_wp2
    go_ret
    exact ⟨⟨_, rfl, fun e => e⟩, HB1.out⟩

/-- What ready, and Apply, answer. -/
def ReadyOut (t : Tr) (H : Nat) (w : World) (e : Ending) (w' : World) : Prop := (∃ (x : Tr) (er : Int), e = .returned (.tuple #[x.val, .int .i64 er]) ∧ x.In w' w'.heap.size ∧ heftN x.root ≤ H ∧ UpT w.heap.size x ∧ (er = 0 → checkE t = 0) ∧ (checkE t ≠ 0 → er = checkE t)) ∧ Below w.heap.size w w'
theorem readyOut_zero {t : Tr} {w V Wf : World} {g H : Nat} (h16 : 16 ≤ H) {er : Int} (her : er ≠ 0) (hq : checkE t ≠ 0 → er = checkE t) (hb : Below w.heap.size w V) (hc : Chg (fun q => q = g) V Wf) (hg : w.heap.size ≤ g) : ReadyOut t H w (.returned (.tuple #[.agg #[.int .u32 0, .slice none 0 0, .string ⟨#[]⟩, .slice none 0 0, .slice none 0 0], .int .i64 er])) Wf :=
  ⟨⟨zeroT, er, rfl, zeroT_in _ _, by rw [zeroT_heft]; exact h16, zeroT_up _, fun e => absurd e her, hq⟩, hb.trans (hc.below hb.size (fun q e => by omega))⟩
set_option maxHeartbeats 8000000 in
theorem ready_any (t u : Tr) (w : World) (hin : t.In w w.heap.size) (hu : u.In w w.heap.size) (hh : heftN t.root ≤ 134217728) (hhu : heftN u.root ≤ 134217728) (hel : ErrLaid w) :
    Calls Tryz.prog 13 #[t.val, u.val] w (ReadyOut t (heftN u.root) w) := by
  have HIB := Lib.hid hin
  have HI := Lib.hid hu
  have HEL := Lib.hid hel
  have HH := Lib.hid hhu
  have C1 := Lib.hid (fun (W : World) (h : t.In W W.heap.size) => check_any t W h _ rfl)
  have C2 := Lib.hid (fun (W : World) (h : u.In W W.heap.size) => check_any u W h _ rfl)
  have C3 := Lib.hid (fun (W : World) (h : t.In W W.heap.size) => mostOK t W h hh)
  have C4 := Lib.hid (fun (W : World) (h : u.In W W.heap.size) => shift_any u (mostOf t.root) W h hhu (mostOf_range hin.root))
  have C5 := Lib.hid (fun (x : Tr) (W : World) (h1 : t.In W W.heap.size) (h2 : x.In W W.heap.size) (h3 : heftN x.root ≤ 134217728) (h4 : ErrLaid W) => fix_any t x W h1 h2 hh h3 h4)
  have H16 := Lib.hid (heft_16 u.root)
  obtain ⟨H, hH⟩ : ∃ H, heftN u.root = H := ⟨_, rfl⟩
  obtain ⟨E1, hE1⟩ : ∃ E1, checkE t = E1 := ⟨_, rfl⟩
  obtain ⟨E2, hE2⟩ : ∃ E2, checkE u = E2 := ⟨_, rfl⟩
  obtain ⟨E3, hE3⟩ : ∃ E3, (refsOf t.root).2 = E3 := ⟨_, rfl⟩
  obtain ⟨mv, hmv⟩ : ∃ mv, mostOf t.root = mv := ⟨_, rfl⟩
  have HE1 := Lib.hid hE1
  rw [hE1] at C1
  rw [hE2] at C2
  rw [hE3, hmv] at C3
  rw [hmv, hH] at C4
  rw [hH] at HH H16 ⊢
  obtain ⟨T, hT⟩ : ∃ T, t = T := ⟨_, rfl⟩
  have HT := Lib.hid hT
  replace HE1 : Hid (checkE T = E1) := by rw [← hT]; exact HE1
  have hgoal : ∀ P : Tr → Prop, P T → P t := fun P h => by rw [hT]; exact h
  refine hgoal (fun z => Calls Tryz.prog 13 #[t.val, u.val] w (ReadyOut z H w)) ?_
  clear hgoal hT hin hu hh hhu hel hH hE1 hE2 hE3 hmv
  obtain ⟨boot, ra, rc, rs, ⟨nm, pa, pc, ps, ka, kc, ks⟩⟩ := t
  obtain ⟨oboot, ora, orc, ors, ⟨onm, opa, opc, ops, oka, okc, oks⟩⟩ := u
  simp only [Tr.val, Tr.rv, Nd.val, Nd.pv, Nd.kv, Nd.name, Nd.pa, Nd.pc, Nd.props, Nd.ka, Nd.kc, Nd.kids] at C1 C2 C3 C4 C5 ⊢
  obtain ⟨W0, hW0⟩ : ∃ W0, (((w.alloc (.cells #[Value.int .u32 boot, .slice ra rs.length rc, .string nm, .slice pa ps.length pc, .slice ka ks.length kc] 29)).alloc (.cells #[Value.int .u32 oboot, .slice ora ors.length orc, .string onm, .slice opa ops.length opc, .slice oka oks.length okc] 29)).alloc (.cells #[Value.int .u32 0, .slice none 0 0, .string ⟨#[]⟩, .slice none 0 0, .slice none 0 0] 29)) = W0 := ⟨_, rfl⟩
  have h3 := allocs3 w (.cells #[Value.int .u32 boot, .slice ra rs.length rc, .string nm, .slice pa ps.length pc, .slice ka ks.length kc] 29) (.cells #[Value.int .u32 oboot, .slice ora ors.length orc, .string onm, .slice opa ops.length opc, .slice oka oks.length okc] 29) (.cells #[Value.int .u32 0, .slice none 0 0, .string ⟨#[]⟩, .slice none 0 0, .slice none 0 0] 29)
  rw [hW0] at h3
  obtain ⟨_, s0, n0, n1, n2, bel⟩ := h3
  have HB0 := Lib.hid bel
  have HS0 := Lib.hid s0
  have HALL : Hid (∀ V : World, Below W0.heap.size W0 V → V.heap[w.heap.size]? = some (.cells #[Value.int .u32 boot, .slice ra rs.length rc, .string nm, .slice pa ps.length pc, .slice ka ks.length kc] 29 (0, 0)) ∧ V.heap[w.heap.size + 1]? = some (.cells #[Value.int .u32 oboot, .slice ora ors.length orc, .string onm, .slice opa ops.length opc, .slice oka oks.length okc] 29 (0, 0)) ∧ V.heap[w.heap.size + 2]? = some (.cells #[Value.int .u32 0, .slice none 0 0, .string ⟨#[]⟩, .slice none 0 0, .slice none 0 0] 29 (0, 0)) ∧ Below w.heap.size w V ∧ W0.heap.size ≤ V.heap.size) := Lib.hid (fun V h =>
    ⟨(h.block _ (by omega)).trans n0, (h.block _ (by omega)).trans n1, (h.block _ (by omega)).trans n2, bel.trans (h.mono bel.size), h.size⟩)
  have HW0 := Lib.hid (Below.refl W0.heap.size W0)
  obtain ⟨b0, b1, b2, b3, b4⟩ := tree_box n0
  clear s0 n0 n1 n2 bel
  go_enter Tryz.func13, Tryz.ntmps13
  go_wp2_with fail
  try rw [hW0]
  clear hW0 b0 b1 b2 b3 b4
  refine (C1.out W0 (HIB.out.on HB0.out)).mono ?_
  rintro e w1 ⟨rfl, hb1⟩
  have HW1 := Lib.hid hb1
  clear hb1 C1
  by_cases h1 : E1 = 0
  · subst h1
    have HQ0 : Hid (∀ {er : Int}, checkE T ≠ 0 → er = checkE T) := Lib.hid (fun h => absurd HE1.out h)
    obtain ⟨_, k2, _, k4, _⟩ := HALL.out w1 HW1.out
    obtain ⟨b0, b1, b2, b3, b4⟩ := tree_box k2
    have D2 := Lib.hid (C2.out w1 (HI.out.on k4))
    clear k2 k4
    go_wp2_with fail
    clear b0 b1 b2 b3 b4
    refine D2.out.mono ?_
    rintro e w2 ⟨rfl, hb2⟩
    have HW2 := Lib.hid (HW1.out.trans (hb2.mono HW1.out.size))
    clear hb2 C2 D2
    by_cases h2 : E2 = 0
    · subst h2
      obtain ⟨k1, _, _, k4, _⟩ := HALL.out w2 HW2.out
      obtain ⟨b0, b1, b2, b3, b4⟩ := tree_box k1
      have D3 := Lib.hid (C3.out w2 (HIB.out.on k4))
      clear k1 k4
      go_wp2_with fail
      clear b0 b1 b2 b3 b4
      refine D3.out.mono ?_
      rintro e w3 ⟨rfl, hb3⟩
      have HW3 := Lib.hid (HW2.out.trans (hb3.mono HW2.out.size))
      clear hb3 C3 D3
      by_cases h3 : E3 = 0
      · subst h3
        obtain ⟨_, k2, _, k4, _⟩ := HALL.out w3 HW3.out
        obtain ⟨b0, b1, b2, b3, b4⟩ := tree_box k2
        have D4 := Lib.hid (C4.out w3 (HI.out.on k4))
        clear k2 k4
        go_wp2_with fail
        clear b0 b1 b2 b3 b4
        refine D4.out.mono ?_
        rintro e w4 ⟨⟨x, e4, rfl, hxin, hxh, hxu⟩, hb4⟩
        have HW4 := Lib.hid (HW3.out.trans (hb4.mono HW3.out.size))
        have HX := Lib.hid (And.intro hxin hxh)
        have HC5 := Lib.hid (C5.out x)
        clear hb4 C4 D4 hxin hxh hxu C5
        obtain ⟨xb, xra, xrc, xrs, ⟨xn, xpa, xpc, xps, xka, xkc, xks⟩⟩ := x
        simp only [Tr.val, Tr.rv, Nd.val, Nd.pv, Nd.kv, Nd.name, Nd.pa, Nd.pc, Nd.props, Nd.ka, Nd.kc, Nd.kids] at HC5 ⊢
        obtain ⟨W5, hW5⟩ : ∃ W5, w4.alloc (.cells #[Value.int .u32 xb, .slice xra xrs.length xrc, .string xn, .slice xpa xps.length xpc, .slice xka xks.length xkc] 29) = W5 := ⟨_, rfl⟩
        have hb5 : Below w4.heap.size w4 W5 := by rw [← hW5]; exact (Below.refl _ _).alloc (Nat.le_refl _) _
        have hx5 : W5.heap[w4.heap.size]? = some (.cells #[Value.int .u32 xb, .slice xra xrs.length xrc, .string xn, .slice xpa xps.length xpc, .slice xka xks.length xkc] 29 (0, 0)) := by rw [← hW5]; exact heap_alloc_new _ _
        have HW5 := Lib.hid (HW4.out.trans (hb5.mono HW4.out.size))
        have HX5 := Lib.hid (HX.out.1.on hb5)
        have HY5 := Lib.hid hx5
        clear hb5 hx5
        by_cases h4 : e4 = 0
        · subst h4
          obtain ⟨k1, _, _, k4, _⟩ := HALL.out W5 HW5.out
          obtain ⟨b0, b1, b2, b3, b4⟩ := tree_box k1
          obtain ⟨c0, c1, c2, c3, c4⟩ := tree_box HY5.out
          have D5 := Lib.hid (HC5.out W5 (HIB.out.on k4) HX5.out (Nat.le_trans HX.out.2 HH.out) (HEL.out.on HEL.out.1 k4 k4.size))
          clear k1 k4
          go_wp2_with fail
          try rw [hW5]
          clear hW5 b0 b1 b2 b3 b4 c0 c1 c2 c3 c4
          refine D5.out.mono ?_
          rintro e w6 ⟨⟨y, e6, rfl, hyin, hyh, hyu⟩, hb6⟩
          have HW6 := Lib.hid (HW5.out.trans (hb6.mono HW5.out.size))
          have HFC : Hid (∀ Wf : World, Chg (fun q => q = w.heap.size + 2) w6 Wf → ReadyOut T H w (.returned (.tuple #[y.val, .int .i64 e6])) Wf) := Lib.hid (fun Wf hc => by
            obtain ⟨_, _, _, k4, k5⟩ := HALL.out w6 HW6.out
            obtain ⟨_, _, _, k4', k5'⟩ := HALL.out W5 HW5.out
            have s0 := HS0.out
            exact ⟨⟨y, e6, rfl, hyu.chg hyin hc (fun g e => by omega), by have := HX.out.2; exact Nat.le_trans hyh this, hyu.low k4'.size, fun _ => HE1.out, HQ0.out⟩, k4.trans (hc.below k4.size (fun g e => by omega))⟩)
          clear hb6 D5 hyin hyh hyu
          obtain ⟨yb, yra, yrc, yrs, ⟨yn, ypa, ypc, yps, yka, ykc, yks⟩⟩ := y
          simp only [Tr.val, Tr.rv, Nd.val, Nd.pv, Nd.kv, Nd.name, Nd.pa, Nd.pc, Nd.props, Nd.ka, Nd.kc, Nd.kids] at HFC ⊢
          obtain ⟨_, _, k3, _, _⟩ := HALL.out w6 HW6.out
          obtain ⟨z0, z1, z2, z3, z4⟩ := tree_box k3
          have f0 := Lib.frozen_of_heap k3 0
          have f1 := Lib.frozen_of_heap k3 1
          have f2 := Lib.frozen_of_heap k3 2
          have f3 := Lib.frozen_of_heap k3 3
          have f4 := Lib.frozen_of_heap k3 4
          go_wp2_with fail
          clear z0 z1 z2 z3 z4 f0 f1 f2 f3 f4
          obtain ⟨⟨d0, d1, d2, d3, d4⟩, hch, _⟩ := box5 k3 (.int .u32 yb) (.slice yra yrs.length yrc) (.string yn) (.slice ypa yps.length ypc) (.slice yka yks.length ykc) _ rfl
          refine bodyPost_ret (v := .tuple #[.agg #[.int .u32 yb, .slice yra yrs.length yrc, .string yn, .slice ypa yps.length ypc, .slice yka yks.length ykc], .int .i64 e6]) (by simp [results, Tryz.results13, go_sem, d0, d1, d2, d3, d4]; try rfl) rfl ?_
          exact HFC.out _ hch
        · have j1 : (e4 != 0) = true := by rw [bne_iff_ne]; exact h4
          obtain ⟨_, _, k3, k4, _⟩ := HALL.out W5 HW5.out
          obtain ⟨z0, z1, z2, z3, z4⟩ := tree_box k3
          have f0 := Lib.frozen_of_heap k3 0
          have f1 := Lib.frozen_of_heap k3 1
          have f2 := Lib.frozen_of_heap k3 2
          have f3 := Lib.frozen_of_heap k3 3
          have f4 := Lib.frozen_of_heap k3 4
          go_wp2_with fail
          clear z0 z1 z2 z3 z4 f0 f1 f2 f3 f4
          obtain ⟨⟨d0, d1, d2, d3, d4⟩, hch, _⟩ := box5 k3 (.int .u32 0) (.slice none 0 0) (.string ⟨#[]⟩) (.slice none 0 0) (.slice none 0 0) _ rfl
          refine bodyPost_ret (v := .tuple #[.agg #[.int .u32 0, .slice none 0 0, .string ⟨#[]⟩, .slice none 0 0, .slice none 0 0], .int .i64 e4]) (by simp [results, Tryz.results13, go_sem, d0, d1, d2, d3, d4]; try rfl) rfl ?_
          exact readyOut_zero H16.out h4 HQ0.out k4 hch (by omega)
      · have j1 : (E3 != 0) = true := by rw [bne_iff_ne]; exact h3
        obtain ⟨_, _, k3, k4, _⟩ := HALL.out w3 HW3.out
        obtain ⟨z0, z1, z2, z3, z4⟩ := tree_box k3
        have f0 := Lib.frozen_of_heap k3 0
        have f1 := Lib.frozen_of_heap k3 1
        have f2 := Lib.frozen_of_heap k3 2
        have f3 := Lib.frozen_of_heap k3 3
        have f4 := Lib.frozen_of_heap k3 4
        go_wp2_with fail
        clear z0 z1 z2 z3 z4 f0 f1 f2 f3 f4
        obtain ⟨⟨d0, d1, d2, d3, d4⟩, hch, _⟩ := box5 k3 (.int .u32 0) (.slice none 0 0) (.string ⟨#[]⟩) (.slice none 0 0) (.slice none 0 0) _ rfl
        refine bodyPost_ret (v := .tuple #[.agg #[.int .u32 0, .slice none 0 0, .string ⟨#[]⟩, .slice none 0 0, .slice none 0 0], .int .i64 E3]) (by simp [results, Tryz.results13, go_sem, d0, d1, d2, d3, d4]; try rfl) rfl ?_
        exact readyOut_zero H16.out h3 HQ0.out k4 hch (by omega)
    · have j1 : (E2 != 0) = true := by rw [bne_iff_ne]; exact h2
      obtain ⟨_, _, k3, k4, _⟩ := HALL.out w2 HW2.out
      obtain ⟨z0, z1, z2, z3, z4⟩ := tree_box k3
      have f0 := Lib.frozen_of_heap k3 0
      have f1 := Lib.frozen_of_heap k3 1
      have f2 := Lib.frozen_of_heap k3 2
      have f3 := Lib.frozen_of_heap k3 3
      have f4 := Lib.frozen_of_heap k3 4
      go_wp2_with fail
      clear z0 z1 z2 z3 z4 f0 f1 f2 f3 f4
      obtain ⟨⟨d0, d1, d2, d3, d4⟩, hch, _⟩ := box5 k3 (.int .u32 0) (.slice none 0 0) (.string ⟨#[]⟩) (.slice none 0 0) (.slice none 0 0) _ rfl
      refine bodyPost_ret (v := .tuple #[.agg #[.int .u32 0, .slice none 0 0, .string ⟨#[]⟩, .slice none 0 0, .slice none 0 0], .int .i64 E2]) (by simp [results, Tryz.results13, go_sem, d0, d1, d2, d3, d4]; try rfl) rfl ?_
      exact readyOut_zero H16.out h2 HQ0.out k4 hch (by omega)
  · have j1 : (E1 != 0) = true := by rw [bne_iff_ne]; exact h1
    have HQ1 : Hid (checkE T ≠ 0 → E1 = checkE T) := Lib.hid (fun _ => HE1.out.symm)
    obtain ⟨_, _, k3, k4, _⟩ := HALL.out w1 HW1.out
    obtain ⟨z0, z1, z2, z3, z4⟩ := tree_box k3
    have f0 := Lib.frozen_of_heap k3 0
    have f1 := Lib.frozen_of_heap k3 1
    have f2 := Lib.frozen_of_heap k3 2
    have f3 := Lib.frozen_of_heap k3 3
    have f4 := Lib.frozen_of_heap k3 4
    go_wp2_with fail
    clear z0 z1 z2 z3 z4 f0 f1 f2 f3 f4
    obtain ⟨⟨d0, d1, d2, d3, d4⟩, hch, _⟩ := box5 k3 (.int .u32 0) (.slice none 0 0) (.string ⟨#[]⟩) (.slice none 0 0) (.slice none 0 0) _ rfl
    refine bodyPost_ret (v := .tuple #[.agg #[.int .u32 0, .slice none 0 0, .string ⟨#[]⟩, .slice none 0 0, .slice none 0 0], .int .i64 E1]) (by simp [results, Tryz.results13, go_sem, d0, d1, d2, d3, d4]; try rfl) rfl ?_
    exact readyOut_zero H16.out h1 HQ1.out k4 hch (by omega)
end Go.Proofs.YtihlpcbebpnmkaaGreatDoor
