/-
  Layer 14: the program's through.
-/
import Derived.Test.YtapfcbcojnplaaaINext
namespace Go.Proofs.Ytapfcbcojnplaaa
open Go.RowKit
set_option linter.unusedVariables false
set_option linter.unusedSimpArgs false

/-- What through answers: a line at a controller, or an error; a line at a controller comes to itself. -/
def ThrOut (w' : World) (R : Nd) (b : Nat) (x : Nd) (l : Int) (e : Ending) : Prop := ∃ p ln er, e = .returned (.tuple #[.agg #[.pointer p, .int .u32 ln], .int .i64 er]) ∧ (er = 0 → (0 ≤ ln ∧ ln ≤ 4294967295) ∧ ∃ b z x, p = some ⟨b, 0, none⟩ ∧ Spot w' R (fun _ => True) b z x ∧ ctrlB x = true) ∧ (ctrlB x = true → er = 0 ∧ p = some ⟨b, 0, none⟩ ∧ ln = l)
/-- Between two rounds. -/
structure ThrI (t : Tr) (B r g b : Nat) (x : Nd) (l : Int) (w : World) (k b' : Nat) (x' : Nd) (l' : Int) (W : World) : Prop where
  box : W.heap[g]? = some (.cells #[.pointer (some ⟨b', 0, none⟩), .int .u32 l'] 54 (0, 0))
  res : W.heap[g + 1]? = some (.cells #[.pointer none, .int .u32 0] 54 (0, 0))
  spot : ∃ z', Spot W t.root (fun _ => True) b' z' x'
  num : 0 ≤ l' ∧ l' ≤ 4294967295
  rd : Rd W B r t (fun _ => True)
  tn : Tn B r w W
  first : k = 0 → b' = b ∧ x' = x ∧ l' = l
  later : 0 < k → ctrlB x = false
  size : g + 2 ≤ W.heap.size
theorem ThrI.on {t : Tr} {B r g b : Nat} {x : Nd} {l : Int} {w W W' : World} {k b' : Nat} {x' : Nd} {l' : Int} (h : ThrI t B r g b x l w k b' x' l' W) (hb : Below W.heap.size W W') (hB : B ≤ W.heap.size) : ThrI t B r g b x l w k b' x' l' W' := by
  obtain ⟨z', hs⟩ := h.spot
  exact ⟨(hb.block _ (by have := h.size; omega)).trans h.box, (hb.block _ (by have := h.size; omega)).trans h.res, ⟨z', hs.on hb⟩, h.num, h.rd.on hb, h.tn.trans (Tn.of_below hb hB), h.first, h.later, Nat.le_trans h.size hb.size⟩
/-- A wire's box is written: spots and the reader stay. -/
theorem wire_keep {w w' : World} {B r b : Nat} {t : Tr} {v0 v1 : Value} (hr : Rd w B r t (fun _ => True)) (h : w.heap[b]? = some (.cells #[v0, v1] 54 (0, 0))) (ho : ∀ k, k ≠ b → w'.heap[k]? = w.heap[k]?) : Sp w w' ∧ Rd w' B r t (fun _ => True) := by
  have hs : Sp w w' := fun j c e => ho j (fun q => by
    rw [q, h] at e
    simp only [Option.some.injEq, Obj.cells.injEq] at e
    exact absurd e.2.1 (by decide))
  refine ⟨hs, ?_⟩
  obtain ⟨h0, own, er, h1, h2⟩ := hr
  refine ⟨h0, own, er, (ho r (fun q => ?_)).trans h1, fun g hg => ?_⟩
  · rw [q, h] at h1
    simp only [rbox, Option.some.injEq, Obj.cells.injEq] at h1
    exact absurd h1.2.1 (by decide)
  · obtain ⟨h3, n, h4⟩ := h2 g hg
    obtain ⟨es, cl, h5⟩ := h4.heap
    exact ⟨h3, n, h4.sp (ho g (fun q => by rw [q, h] at h5; cases h5)) hs⟩
theorem Rd.all {w : World} {B r : Nat} {t : Tr} {D : Nat → Prop} (h : Rd w B r t D) : Rd w B r t (fun _ => True) := h.keep (fun _ _ _ => trivial) (fun _ _ _ => rfl)

set_option maxRecDepth 20000 in
set_option maxHeartbeats 8000000 in
theorem through14_any (t : Tr) (B r b : Nat) (z : List Nat) (x : Nd) (ln : Int) (w : World) (hr : Rd w B r t (fun _ => True)) (hB : B ≤ w.heap.size) (hin : t.In w B) (hh : heftN t.root ≤ 134217728) (hs : Spot w t.root (fun _ => True) b z x) (h0 : 0 ≤ ln ∧ ln ≤ 4294967295) :
    Calls Try.prog 14 #[.pointer (some ⟨r, 0, none⟩), .agg #[.pointer (some ⟨b, 0, none⟩), .int .u32 ln]] w fun e w' => ThrOut w' t.root b x ln e ∧ Rd w' B r t (fun _ => True) ∧ Tn B r w w' := by
  obtain ⟨g, hg⟩ : ∃ g, w.heap.size = g := ⟨_, rfl⟩
  have hrl := hr.lt
  have HTI : Hid (∀ W1, (w.alloc (.cells #[.pointer (some ⟨b, 0, none⟩), .int .u32 ln] 54)).alloc (.cells #[.pointer none, .int .u32 0] 54) = W1 → ThrI t B r g b x ln w 0 b x ln W1) := Lib.hid (by
    rintro W1 rfl
    have e1 : (w.alloc (.cells #[.pointer (some ⟨b, 0, none⟩), .int .u32 ln] 54)).heap.size = g + 1 := by simp [hg]
    have hb : Below w.heap.size w ((w.alloc (.cells #[.pointer (some ⟨b, 0, none⟩), .int .u32 ln] 54)).alloc (.cells #[.pointer none, .int .u32 0] 54)) := ((Below.refl _ w).alloc (Nat.le_refl _) _).alloc (by simp) _
    refine ⟨?_, ?_, ⟨z, hs.on hb⟩, h0, hr.on hb, Tn.of_below hb hB, fun _ => ⟨rfl, rfl, rfl⟩, fun h => absurd h (Nat.lt_irrefl 0), by simp [hg]⟩
    · rw [Below.heap_alloc _ _ _ (by omega), ← hg]; exact heap_alloc_new _ _
    · rw [← e1]; exact heap_alloc_new _ _)
  have HNX := Lib.hid (fun (W : World) (hR : Rd W B r t (fun _ => True)) (hT : Tn B r w W) (b' : Nat) (z' : List Nat) (x' : Nd) (l' : Int) (hs' : Spot W t.root (fun _ => True) b' z' x') (hl' : 0 ≤ l' ∧ l' ≤ 4294967295) => next_any t B r (fun _ => True) b' z' x' l' W hR (Nat.le_trans hB hT.below.size) (hin.under hT.below) hh hs' hl')
  have HCT := Lib.hid (fun (W : World) (hT : Tn B r w W) (b' : Nat) (z' : List Nat) (x' : Nd) (hs' : Spot W t.root (fun _ => True) b' z' x') => ctrl_any x' W (hs'.inn ((hin.root.under hT.below).more (Nat.le_trans hB hT.below.size))))
  have HRG : Hid (r < g ∧ B ≤ g) := Lib.hid ⟨by omega, by omega⟩
  have HGW := Lib.hid hg
  clear hr hB hin hh hs h0 hrl
  go_enter Try.func14, Try.ntmps14
  go_wp2_with fail
  generalize hW1 : (w.alloc (.cells #[.pointer (some ⟨b, 0, none⟩), .int .u32 ln] 54)).alloc (.cells #[.pointer none, .int .u32 0] 54) = W1
  have HT0 := Lib.hid (HTI.out W1 hW1)
  clear hW1 HTI hg
  go_loopw [8] (fun i wr => ∃ (k b' : Nat) (x' : Nd) (l' : Int), k ≤ 16 ∧ i = .int .i64 k ∧ ThrI t B r g b x ln w k b' x' l' wr) (fun i _ => 16 - (intOf i).toNat)
  case atStart => exact ⟨0, b, x, ln, by omega, rfl, HT0.out⟩
  case round =>
    obtain ⟨k, b', x', l', hk, rfl, hti⟩ := hrel
    have HTI := Lib.hid hti
    obtain ⟨c0, c1⟩ := two_cells hti.box
    have hq1 := hti.res
    obtain ⟨d0, d1⟩ := two_cells hq1
    have f0 := Lib.frozen_of_heap hq1 0
    have f1 := Lib.frozen_of_heap hq1 1
    by_cases hlt : k < 16
    · obtain ⟨z', hsp⟩ := hti.spot
      have HSP := Lib.hid hsp
      have CC := Lib.hid (HCT.out wr hti.tn b' z' x' hsp)
      obtain ⟨pa, pi, hbk⟩ := hsp.heap
      obtain ⟨s0, s1, s2, _, _⟩ := spot_cells hbk
      have HCB : Hid (ctrlB x = true → k = 0) := Lib.hid (fun h => by
        rcases Nat.eq_zero_or_pos k with h1 | h1
        · exact h1
        · rw [hti.later h1] at h; cases h)
      have HFI := Lib.hid hti.first
      have HNM := Lib.hid hti.num
      have HSZ := Lib.hid hti.size
      obtain ⟨CB, hCB⟩ : ∃ CB, ctrlB x' = CB := ⟨_, rfl⟩
      have HCBV := Lib.hid hCB
      rw [hCB] at CC
      obtain ⟨xn, xpa, xpc, xps, xka, xkc, xks⟩ := x'
      simp only [Nd.val, Nd.pv, Nd.kv, Nd.name, Nd.pa, Nd.pc, Nd.props, Nd.ka, Nd.kc, Nd.kids] at CC s0 s1 s2
      clear hti hsp hbk hq1 hCB
      go_wp2_with fail
      refine CC.out.mono ?_
      rintro e w2 ⟨rfl, hb2⟩
      have HTI2 := Lib.hid (HTI.out.on hb2 (by have := HRG.out; have := HSZ.out; omega))
      clear hb2 c0 c1 d0 d1 f0 f1 s0 s1 s2 CC
      obtain ⟨c0, c1⟩ := two_cells HTI2.out.box
      have hq1 := HTI2.out.res
      obtain ⟨d0, d1⟩ := two_cells hq1
      have f0 := Lib.frozen_of_heap hq1 0
      have f1 := Lib.frozen_of_heap hq1 1
      have ho2 : ∀ (u0 u1 : Value) k, k ≠ g + 1 → ((w2.setCell ⟨g + 1, 0, none⟩ u0).setCell ⟨g + 1, 1, none⟩ u1).heap[k]? = w2.heap[k]? := fun u0 u1 k hk => set2_other w2 hk u0 u1
      cases CB
      rotate_left
      · obtain ⟨z2, hsp2⟩ := HTI2.out.spot
        obtain ⟨g1, g2⟩ := wire_keep HTI2.out.rd hq1 (ho2 (.pointer (some ⟨b', 0, none⟩)) (.int .u32 l'))
        have HE := Lib.hid (two_cells (set2_heap hq1 (.pointer (some ⟨b', 0, none⟩)) (.int .u32 l')))
        have HSPF := Lib.hid (hsp2.sp g1)
        have HRDF := Lib.hid g2
        have HTNF : Hid (Tn B r w ((w2.setCell ⟨g + 1, 0, none⟩ (.pointer (some ⟨b', 0, none⟩))).setCell ⟨g + 1, 1, none⟩ (.int .u32 l'))) := Lib.hid ⟨set2_below HTI2.out.tn.below (by have := HRG.out; omega) _ _, fun j hj hjr => (ho2 _ _ j (by rw [HGW.out] at hj; omega)).trans (HTI2.out.tn.same j hj hjr)⟩
        clear hq1 ho2 hsp2 g1 g2
        go_wp2
        obtain ⟨e0, e1⟩ := HE.out
        refine bodyPost_ret (v := .tuple #[.agg #[.pointer (some ⟨b', 0, none⟩), .int .u32 l'], .int .i64 0]) (by simp [results, Try.results14, go_sem, e0, e1]; try rfl) rfl ?_
        exact ⟨⟨_, _, _, rfl, fun _ => ⟨HNM.out, b', z2, _, rfl, HSPF.out, HCBV.out⟩, fun h => by
          obtain ⟨h1, h2, h3⟩ := HFI.out (HCB.out h)
          exact ⟨rfl, by rw [h1], h3⟩⟩, HRDF.out, HTNF.out⟩
      have HXF : Hid (ctrlB x = false) := Lib.hid (by
        rcases hc : ctrlB x with _ | _
        · rfl
        · have h1 := HCBV.out
          obtain ⟨_, h2, _⟩ := HFI.out (HCB.out hc)
          rw [h2, hc] at h1
          cases h1)
      obtain ⟨z2, hsp2⟩ := HTI2.out.spot
      have CN := Lib.hid (HNX.out w2 HTI2.out.rd HTI2.out.tn b' z2 _ l' hsp2 HNM.out)
      clear ho2 hsp2 d0 d1 f0 f1
      go_wp2_with fail
      refine CN.out.mono ?_
      rintro e w3 ⟨⟨p, l3, er, rfl, hgood⟩, hrd3, htn3⟩
      have hrd3 := hrd3.all
      have hbox3 : w3.heap[g]? = _ := (htn3.same g (by have := HTI2.out.size; omega) (by have := HRG.out; omega)).trans HTI2.out.box
      have hres3 : w3.heap[g + 1]? = _ := (htn3.same (g + 1) (by have := HTI2.out.size; omega) (by have := HRG.out; omega)).trans HTI2.out.res
      have hs3 : g + 2 ≤ w3.heap.size := Nat.le_trans HTI2.out.size htn3.below.size
      have ht3 : Tn B r w w3 := HTI2.out.tn.trans htn3
      obtain ⟨w4, hw4⟩ : ∃ w4, w3.alloc (.cells #[.pointer p, .int .u32 l3] 54) = w4 := ⟨_, rfl⟩
      have hb4 : Below w3.heap.size w3 w4 := by rw [← hw4]; exact (Below.refl _ _).alloc (Nat.le_refl _) _
      have hnb4 : w4.heap[w3.heap.size]? = some (.cells #[.pointer p, .int .u32 l3] 54 (0, 0)) := by rw [← hw4]; exact heap_alloc_new _ _
      have hbox4 := (hb4.block g (by omega)).trans hbox3
      have hres4 := (hb4.block (g + 1) (by omega)).trans hres3
      have HBOX := Lib.hid hbox4
      have HRES := Lib.hid hres4
      have HRD4 := Lib.hid (hrd3.on hb4)
      have HTN4 := Lib.hid (ht3.trans (Tn.of_below hb4 (by have := HRG.out; omega)))
      have HS4 : Hid (g + 2 ≤ w4.heap.size ∧ g + 2 ≤ w3.heap.size) := Lib.hid ⟨Nat.le_trans hs3 hb4.size, hs3⟩
      have HGD : Hid (er = 0 → (0 ≤ l3 ∧ l3 ≤ 4294967295) ∧ ∃ b z x, p = some ⟨b, 0, none⟩ ∧ Spot w4 t.root (fun _ => True) b z x) := Lib.hid (fun he => by
        obtain ⟨q1, b, z, x, q2, q3⟩ := hgood he
        exact ⟨q1, b, z, x, q2, (q3.on hb4).sub (fun _ _ _ => trivial)⟩)
      obtain ⟨n0, n1⟩ := two_cells hnb4
      clear hgood hrd3 htn3 hbox3 hres3 hs3 ht3 hb4 hnb4 hbox4 hres4 CN c0 c1 hq1
      obtain ⟨c0, c1⟩ := two_cells HBOX.out
      obtain ⟨d0, d1⟩ := two_cells HRES.out
      by_cases he : er = 0
      rotate_left
      · have q1 : (er != 0) = true := by rw [bne_iff_ne]; exact he
        have f0 := Lib.frozen_of_heap HRES.out 0
        have f1 := Lib.frozen_of_heap HRES.out 1
        have ho4 : ∀ k, k ≠ g + 1 → ((w4.setCell ⟨g + 1, 0, none⟩ (.pointer none)).setCell ⟨g + 1, 1, none⟩ (.int .u32 0)).heap[k]? = w4.heap[k]? := fun k hk => set2_other w4 hk _ _
        have HE := Lib.hid (two_cells (set2_heap HRES.out (.pointer none) (.int .u32 0)))
        have HRDF := Lib.hid (wire_keep HRD4.out HRES.out ho4).2
        have HTNF : Hid (Tn B r w ((w4.setCell ⟨g + 1, 0, none⟩ (.pointer none)).setCell ⟨g + 1, 1, none⟩ (.int .u32 0))) := Lib.hid ⟨set2_below HTN4.out.below (by have := HRG.out; omega) _ _, fun j hj hjr => (ho4 j (by rw [HGW.out] at hj; omega)).trans (HTN4.out.same j hj hjr)⟩
        have HER := Lib.hid he
        clear ho4 he
        go_wp2
        obtain ⟨e0, e1⟩ := HE.out
        refine bodyPost_ret (v := .tuple #[.agg #[.pointer none, .int .u32 0], .int .i64 er]) (by simp [results, Try.results14, go_sem, e0, e1]; try rfl) rfl ?_
        exact ⟨⟨_, _, _, rfl, fun h => absurd h HER.out, fun h => (by rw [HXF.out] at h; cases h)⟩, HRDF.out, HTNF.out⟩
      subst he
      have f0 := Lib.frozen_of_heap HBOX.out 0
      have f1 := Lib.frozen_of_heap HBOX.out 1
      obtain ⟨hn3, b3, z3, x3, rfl, hsp3⟩ := HGD.out rfl
      have ho4 : ∀ k, k ≠ g → ((w4.setCell ⟨g, 0, none⟩ (.pointer (some ⟨b3, 0, none⟩))).setCell ⟨g, 1, none⟩ (.int .u32 l3)).heap[k]? = w4.heap[k]? := fun k hk => set2_other w4 hk _ _
      obtain ⟨g1, g2⟩ := wire_keep HRD4.out HBOX.out ho4
      have HNEW : Hid (ThrI t B r g b x ln w (k + 1) b3 x3 l3 ((w4.setCell ⟨g, 0, none⟩ (.pointer (some ⟨b3, 0, none⟩))).setCell ⟨g, 1, none⟩ (.int .u32 l3))) := Lib.hid ⟨set2_heap HBOX.out _ _, (ho4 (g + 1) (by omega)).trans HRES.out, ⟨z3, hsp3.sp g1⟩, hn3, g2, ⟨set2_below HTN4.out.below (by have := HRG.out; omega) _ _, fun j hj hjr => (ho4 j (by rw [HGW.out] at hj; omega)).trans (HTN4.out.same j hj hjr)⟩, fun h => (by cases h), fun _ => HXF.out, by rw [set2_size]; exact HS4.out.1⟩
      clear hn3 hsp3 ho4 g1 g2
      go_wp2
      go_roundw
      case rel => exact ⟨k + 1, b3, x3, l3, by omega, by go_num, HNEW.out⟩
      case measure => simp [intOf]; omega
    · have HXF : Hid (ctrlB x = false) := Lib.hid (hti.later (by omega))
      have ho4 : ∀ k, k ≠ g + 1 → ((wr.setCell ⟨g + 1, 0, none⟩ (.pointer none)).setCell ⟨g + 1, 1, none⟩ (.int .u32 0)).heap[k]? = wr.heap[k]? := fun k hk => set2_other wr hk _ _
      have HE := Lib.hid (two_cells (set2_heap hq1 (.pointer none) (.int .u32 0)))
      have HRDF := Lib.hid (wire_keep hti.rd hq1 ho4).2
      have HTNF : Hid (Tn B r w ((wr.setCell ⟨g + 1, 0, none⟩ (.pointer none)).setCell ⟨g + 1, 1, none⟩ (.int .u32 0))) := Lib.hid ⟨set2_below hti.tn.below (by have := HRG.out; omega) _ _, fun j hj hjr => (ho4 j (by rw [HGW.out] at hj; omega)).trans (hti.tn.same j hj hjr)⟩
      clear ho4 hti hq1
      go_wp2
      obtain ⟨e0, e1⟩ := HE.out
      refine bodyPost_ret (v := .tuple #[.agg #[.pointer none, .int .u32 0], .int .i64 14]) (by simp [results, Try.results14, go_sem, e0, e1]; try rfl) rfl ?_
      exact ⟨⟨_, _, _, rfl, fun h => (by cases h), fun h => (by rw [HXF.out] at h; cases h)⟩, HRDF.out, HTNF.out⟩
end Go.Proofs.Ytapfcbcojnplaaa
