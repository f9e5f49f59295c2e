/-
  Layer 14: the program's Through.
-/
import Derived.Test.YtapfcbcojnplaaaIThr
namespace Go.Proofs.Ytapfcbcojnplaaa
open Go.RowKit
set_option linter.unusedVariables false
set_option linter.unusedSimpArgs false

/-- A block is the spot of one place alone. -/
theorem Spot.det {w : World} {R x x' : Nd} {D D' : Nat → Prop} {b : Nat} {z z' : List Nat} (h : Spot w R D b z x) : Spot w R D' b z' x' → z = z' := by
  induction h generalizing z' x' with
  | root _ e =>
    intro h'
    rcases h'.inv with ⟨rfl, _, _⟩ | ⟨a, i, z1, x1, rfl, _, _, e'⟩
    · rfl
    · rw [e] at e'
      simp at e'
  | @kid a b i z x k h1 _ _ e ih =>
    intro h'
    rcases h'.inv with ⟨rfl, rfl, e'⟩ | ⟨a', i', z1, x1, rfl, h1', _, e'⟩
    · rw [e] at e'
      simp at e'
    · rw [e] at e'
      simp only [Option.some.injEq, Obj.cells.injEq, Array.mk.injEq, List.cons.injEq, Value.pointer.injEq, Addr.mk.injEq, Value.int.injEq, and_true, true_and, Int.natCast_inj] at e'
      obtain ⟨-, -, -, rfl, hi⟩ := e'
      have hi' : i = i' := by omega
      rw [ih h1', hi']

set_option maxRecDepth 20000 in
set_option maxHeartbeats 8000000 in
theorem throughOK : ThroughOK := by
  intro t z A n c ln w hin hp hnc hc hh hln hn hck
  obtain ⟨g, hg⟩ : ∃ g, w.heap.size = g := ⟨_, rfl⟩
  have HLN := Lib.hid hln
  have HZN : Hid (z.length = n) := Lib.hid (by have := hp.1; rwa [List.length_map] at this)
  have HAT := Lib.hid (fun (W : World) (hW : Below w.heap.size w W) (hr : W.heap[g + 3]? = some (rbox t none 0)) => at_any t (g + 3) none 0 z A n c W hr (hin.on hW) (hp.on hW) hnc hc)
  have HTH := Lib.hid (fun (W : World) (hW : Below g w W) (hr : Rd W g (g + 3) t (fun _ => True)) (b : Nat) (zn : List Nat) (x : Nd) (hs : Spot W t.root (fun _ => True) b zn x) => through14_any t g (g + 3) b zn x ln W hr (by have := hW.size; omega) (by rw [← hg] at hW ⊢; exact hin.under hW) hh hs hln)
  have HLI := Lib.hid (fun (W : World) (b : Nat) (zn : List Nat) (x : Nd) (l : Int) (hs : Spot W t.root (fun _ => True) b zn x) => line_any t.root _ b zn x l W hs hh)
  have HLEN : Hid (∀ (W : World) (b : Nat) (zn : List Nat) (x : Nd), Spot W t.root (fun _ => True) b zn x → zn.length ≤ 8388608) := Lib.hid (fun W b zn x hs => by have := hs.len; omega)
  have HRD0 : Hid (∀ W : World, W.heap[g + 3]? = some (rbox t none 0) → Rd W g (g + 3) t (fun _ => True)) := Lib.hid (fun W h => ⟨by omega, none, 0, h, fun g e => by cases e⟩)
  clear hin hp hnc hc hh hln hn hck
  obtain ⟨boot, ra, rc, rs, ⟨nm, pa, pc, ps, ka, kc, ks⟩⟩ := t
  obtain ⟨TT, hTT⟩ : ∃ TT, Tr.mk boot ra rc rs (Nd.mk nm pa pc ps ka kc ks) = TT := ⟨_, rfl⟩
  have HA4 := Lib.hid (allocs4 w (.cells #[.int .u32 boot, .slice ra rs.length rc, .string nm, .slice pa ps.length pc, .slice ka ks.length kc] 29) (.cells #[.slice A n c, .int .u32 ln] 32) (.cells #[.slice none 0 0, .int .u32 0] 32) (.cells #[.int .u32 boot, .slice ra rs.length rc, .string nm, .slice pa ps.length pc, .slice ka ks.length kc, .map none, .int .i64 0] 49))
  have hrb : (.cells #[.int .u32 boot, .slice ra rs.length rc, .string nm, .slice pa ps.length pc, .slice ka ks.length kc, .map none, .int .i64 0] 49 : Obj) = rbox TT none 0 := by rw [← hTT]; rfl
  have hvv : Tr.val (Tr.mk boot ra rc rs (Nd.mk nm pa pc ps ka kc ks)) = .agg #[.int .u32 boot, .slice ra rs.length rc, .string nm, .slice pa ps.length pc, .slice ka ks.length kc] := rfl
  rw [hvv]
  rw [hTT] at HAT HTH HLI HRD0 HLEN ⊢
  clear hTT hvv
  rw [hg] at HA4 HAT ⊢
  have HRB := Lib.hid hrb
  clear hrb
  go_enter Try.func6, Try.ntmps6
  go_wp2_with fail
  generalize hW0 : (((w.alloc (.cells #[.int .u32 boot, .slice ra rs.length rc, .string nm, .slice pa ps.length pc, .slice ka ks.length kc] 29)).alloc (.cells #[.slice A n c, .int .u32 ln] 32)).alloc (.cells #[.slice none 0 0, .int .u32 0] 32)).alloc (.cells #[.int .u32 boot, .slice ra rs.length rc, .string nm, .slice pa ps.length pc, .slice ka ks.length kc, .map none, .int .i64 0] 49) = W0
  have A4 := HA4.out
  rw [hW0] at A4
  obtain ⟨z0, a0, a1, a2, a3, hb0⟩ := A4
  rw [HRB.out] at a3
  have HG1 := Lib.hid a1
  have HG2 := Lib.hid a2
  have HR0 := Lib.hid a3
  have HB0 := Lib.hid hb0
  have HZ0 := Lib.hid z0
  clear hW0 HA4 HRB a0 a1 a2 a3 hb0 z0
  refine (HAT.out W0 HB0.out HR0.out).mono ?_
  rintro e w1 ⟨hat, hb1⟩
  have hb1' : Below g W0 w1 := hb1.mono (by have := HZ0.out; omega)
  have HB1 := Lib.hid (HB0.out.trans hb1')
  have HG11 := Lib.hid ((hb1.block (g + 1) (by have := HZ0.out; omega)).trans HG1.out)
  have HG21 := Lib.hid ((hb1.block (g + 2) (by have := HZ0.out; omega)).trans HG2.out)
  have HR1 := Lib.hid ((hb1.block (g + 3) (by have := HZ0.out; omega)).trans HR0.out)
  have HS1 : Hid (g + 4 ≤ w1.heap.size) := Lib.hid (by have := HZ0.out; have := hb1.size; omega)
  clear hb1 hb1'
  rcases hat with ⟨b, x, zn, rfl, hx, hz, hsp⟩ | ⟨rfl, hx⟩
  · have hspt : Spot w1 TT.root (fun _ => True) b zn x := hsp.sub (fun _ _ _ => trivial)
    have CT := Lib.hid (HTH.out w1 HB1.out (HRD0.out w1 HR1.out) b zn x hspt)
    have HSP := Lib.hid hspt
    have HXZ := Lib.hid (And.intro hx hz)
    obtain ⟨l0, l1⟩ := two_cells HG11.out
    clear hsp hspt hx hz
    go_wp2_with fail
    refine CT.out.mono ?_
    rintro e w2 ⟨⟨p, l3, er, rfl, hgood, hself⟩, hrd2, htn2⟩
    have hsp2 := HSP.out.sp (htn2.sp (HRD0.out w1 HR1.out))
    have HSP2 := Lib.hid hsp2
    have HSELF := Lib.hid hself
    have hb2 : Below g w w2 := HB1.out.trans htn2.below
    have hg2 := (htn2.same (g + 2) (by have := HS1.out; omega) (by omega)).trans HG21.out
    have hs2 : g + 4 ≤ w2.heap.size := Nat.le_trans HS1.out htn2.below.size
    obtain ⟨w3, hw3⟩ : ∃ w3, w2.alloc (.cells #[.pointer p, .int .u32 l3] 54) = w3 := ⟨_, rfl⟩
    have hb3 : Below w2.heap.size w2 w3 := by rw [← hw3]; exact (Below.refl _ _).alloc (Nat.le_refl _) _
    have hn3 : w3.heap[w2.heap.size]? = some (.cells #[.pointer p, .int .u32 l3] 54 (0, 0)) := by rw [← hw3]; exact heap_alloc_new _ _
    have HB3 := Lib.hid (hb2.trans (hb3.mono (by omega)))
    have HG3 := Lib.hid ((hb3.block (g + 2) (by omega)).trans hg2)
    have HS3 : Hid (g + 4 ≤ w3.heap.size) := Lib.hid (Nat.le_trans hs2 hb3.size)
    have HGD : Hid (er = 0 → (0 ≤ l3 ∧ l3 ≤ 4294967295) ∧ ∃ b z x, p = some ⟨b, 0, none⟩ ∧ Spot w3 TT.root (fun _ => True) b z x ∧ ctrlB x = true) := Lib.hid (fun he => by
      obtain ⟨q1, b, z, x, q2, q3, q4⟩ := hgood he
      exact ⟨q1, b, z, x, q2, q3.on hb3, q4⟩)
    have HSP3 := Lib.hid (hsp2.on hb3)
    obtain ⟨n0, n1⟩ := two_cells hn3
    clear hgood hself hrd2 htn2 hsp2 hb2 hg2 hs2 hb3 hn3 l0 l1 CT HSP2
    obtain ⟨d0, d1⟩ := two_cells HG3.out
    by_cases he : er = 0
    rotate_left
    · have q1 : (er != 0) = true := by rw [bne_iff_ne]; exact he
      have f0 := Lib.frozen_of_heap HG3.out 0
      have f1 := Lib.frozen_of_heap HG3.out 1
      have HE := Lib.hid (two_cells (set2_heap HG3.out (.slice none 0 0) (.int .u32 0)))
      have HBF := Lib.hid (set2_below HB3.out (b := g + 2) (by omega) (.slice none 0 0) (.int .u32 0))
      have HER := Lib.hid he
      clear he
      go_wp2
      obtain ⟨e0, e1⟩ := HE.out
      refine bodyPost_ret (v := .tuple #[.agg #[.slice none 0 0, .int .u32 0], .int .i64 er]) (by simp [results, Try.results6, go_sem, e0, e1]; try rfl) rfl ?_
      exact ⟨⟨[], none, 0, 0, 0, er, rfl, fun h => absurd h HER.out, fun x' h hc => (by
        rw [HXZ.out.1] at h
        obtain rfl := Option.some.inj h
        exact absurd (HSELF.out hc).1 HER.out)⟩, HBF.out⟩
    subst he
    obtain ⟨hl3, b3, z3, x3, rfl, hsp3, hc3⟩ := HGD.out rfl
    have CL := Lib.hid (HLI.out w3 b3 z3 x3 l3 hsp3)
    have HFACT : Hid ((0 ≤ l3 ∧ l3 ≤ 4294967295) ∧ nodeZ TT.root (z3.map Int.ofNat) = some x3 ∧ ctrlB x3 = true ∧ z3.length ≤ 8388608 ∧ (ctrlB x = true → z3 = zn ∧ l3 = ln)) := Lib.hid ⟨hl3, hsp3.node, hc3, HLEN.out w3 b3 z3 x3 hsp3, fun h => by
      obtain ⟨_, h2, h3⟩ := HSELF.out h
      simp only [Option.some.injEq, Addr.mk.injEq, and_true] at h2
      subst h2
      exact ⟨hsp3.det HSP3.out, h3⟩⟩
    clear hl3 hsp3 hc3 d0 d1
    go_wp2_with fail
    refine CL.out.mono ?_
    rintro e w4 ⟨⟨A', c', rfl, hcel, hc1, hc2, hfr⟩, hb4⟩
    have hg4 := (hb4.block (g + 2) (by have := HS3.out; omega)).trans HG3.out
    obtain ⟨d0, d1⟩ := two_cells hg4
    have f0 := Lib.frozen_of_heap hg4 0
    have f1 := Lib.frozen_of_heap hg4 1
    have HE := Lib.hid (two_cells (set2_heap hg4 (.slice A' z3.length c') (.int .u32 l3)))
    have HBF := Lib.hid (set2_below (HB3.out.trans (hb4.mono (by have := HS3.out; omega))) (b := g + 2) (by omega) (.slice A' z3.length c') (.int .u32 l3))
    have HCF := Lib.hid (hcel.set2 (g := g + 2) (fun b o e => by have h1 := hfr b o e; have h2 := HS3.out; omega) (.slice A' z3.length c') (.int .u32 l3))
    have HCC := Lib.hid (And.intro hc1 hc2)
    clear hcel hc1 hc2 hfr hb4 hg4 CL n0 n1
    go_wp2
    obtain ⟨e0, e1⟩ := HE.out
    refine bodyPost_ret (v := .tuple #[.agg #[.slice A' z3.length c', .int .u32 l3], .int .i64 0]) (by simp [results, Try.results6, go_sem, e0, e1]; try rfl) rfl ?_
    exact ⟨⟨z3.map Int.ofNat, A', z3.length, c', l3, 0, rfl, fun _ => ⟨⟨by rw [← ints_eq]; exact HCF.out, HCC.out.1, HCC.out.2, by have := HFACT.out.2.2.2.1; omega, HFACT.out.1⟩, x3, HFACT.out.2.1, HFACT.out.2.2.1⟩, fun x' h hc => (by
      rw [HXZ.out.1] at h
      obtain rfl := Option.some.inj h
      obtain ⟨h1, h2⟩ := HFACT.out.2.2.2.2 hc
      exact ⟨rfl, by rw [h1, HXZ.out.2], h2⟩)⟩, HBF.out⟩
  · obtain ⟨d0, d1⟩ := two_cells HG21.out
    have f0 := Lib.frozen_of_heap HG21.out 0
    have f1 := Lib.frozen_of_heap HG21.out 1
    have HE := Lib.hid (two_cells (set2_heap HG21.out (.slice none 0 0) (.int .u32 0)))
    have HBF := Lib.hid (set2_below HB1.out (b := g + 2) (by omega) (.slice none 0 0) (.int .u32 0))
    have HX := Lib.hid hx
    clear hx
    go_wp2
    obtain ⟨e0, e1⟩ := HE.out
    refine bodyPost_ret (v := .tuple #[.agg #[.slice none 0 0, .int .u32 0], .int .i64 8]) (by simp [results, Try.results6, go_sem, e0, e1]; try rfl) rfl ?_
    exact ⟨⟨[], none, 0, 0, 0, 8, rfl, fun h => (by cases h), fun x h => (by rw [HX.out] at h; cases h)⟩, HBF.out⟩
end Go.Proofs.Ytapfcbcojnplaaa
