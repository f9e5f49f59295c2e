/-
  Layer 11: the program's Fix: whatever it is asked, it answers some tree, as great as the overlay, or an error; nothing that was there has turned.
-/
import Derived.Test.YtihlpcbebpnmkaaGreatDoorZShift
import Derived.Test.YtihlpcbebpnmkaaGreatDoorZFixL
namespace Go.Proofs.YtihlpcbebpnmkaaGreatDoor
open Go.RowKit
set_option linter.unusedVariables false
set_option linter.unusedSimpArgs false
set_option maxRecDepth 20000
attribute [local go_sem ↓] Go.wp_at_zero Go.wp_at_succ

set_option maxHeartbeats 8000000 in
theorem fix_any (t u : Tr) (w : World) (hin : t.In w w.heap.size) (hu : u.In w w.heap.size) (hh : heftN t.root ≤ 134217728) (hhu : heftN u.root ≤ 134217728) (hel : ErrLaid w) :
    Calls Tryz.prog 24 #[t.val, u.val] w (TreeOut w (heftN u.root)) := by
  have HIB := Lib.hid hin
  have HHB := Lib.hid hh
  have HI := Lib.hid hu
  have HH := Lib.hid hhu
  have HEL := Lib.hid hel
  have CC := Lib.hid (fun W h => clone_own u W h)
  have CK := Lib.hid (fun (W : World) (h : u.root.In W W.heap.size) => kid_any u.root ⟨#[95, 95, 102, 105, 120, 117, 112, 115, 95, 95]⟩ W h _ rfl)
  have H16 := Lib.hid (heft_16 u.root)
  have HKI := Lib.hid (kidIdx (u.root.kids.map Nd.name) ⟨#[95, 95, 102, 105, 120, 117, 112, 115, 95, 95]⟩)
  have HHK : Hid (∀ k ∈ u.root.kids, heftN k ≤ 134217728) := Lib.hid (fun k hk => Nat.le_trans (heft_kid hk) hhu)
  obtain ⟨ix, hix⟩ : ∃ ix, idxOf (u.root.kids.map Nd.name) ⟨#[95, 95, 102, 105, 120, 117, 112, 115, 95, 95]⟩ = ix := ⟨_, rfl⟩
  obtain ⟨H, hH⟩ : ∃ H, heftN u.root = H := ⟨_, rfl⟩
  rw [hix] at CK HKI
  rw [hH] at HH H16 ⊢
  have HHU : Hid (∀ c : Tr, pureN c.root = pureN u.root → heftN c.root = H) := Lib.hid (fun c e => by rw [heft_hp, e, ← heft_hp]; exact hH)
  have HIR : Hid (u.root.In w w.heap.size) := Lib.hid hu.root
  have HKL := Lib.hid hu.root.klen
  have CFL := Lib.hid (fun (D : Nat → Prop) (P : Value → Prop) (TV TK : Nat → Prop) (hD : ∀ g, D g → 3 ≤ g) (p : PV) (a b : Option Nat) (V : World) h1 h2 h3 (h4 : t.In V V.heap.size) h6 h7 h8 => fixLabel_any D P TV TK hD t p a b V h1 h2 h3 h4 hh h6 h7 h8)
  clear hin hu hh hhu hix hH hel
  obtain ⟨boot, ra, rc, rs, ⟨nm, pa, pc, ps, ka, kc, ks⟩⟩ := t
  obtain ⟨oboot, ora, orc, ors, ⟨onm, opa, opc, ops, oka, okc, oks⟩⟩ := u
  simp only [Tr.val, Tr.rv, Nd.val, Nd.pv, Nd.kv, Nd.name, Nd.pa, Nd.pc, Nd.props, Nd.ka, Nd.kc, Nd.kids, List.length_map] at CC CK CFL HKI HHK HHU HIR HKL ⊢
  obtain ⟨W0, hW0⟩ : ∃ W0, (((w.alloc (.cells #[Value.int .u32 boot, .slice ra rs.length rc, .string nm, .slice pa ps.length pc, .slice ka ks.length kc] 29)).alloc (.cells #[Value.int .u32 oboot, .slice ora ors.length orc, .string onm, .slice opa ops.length opc, .slice oka oks.length okc] 29)).alloc (.cells #[Value.int .u32 0, .slice none 0 0, .string ⟨#[]⟩, .slice none 0 0, .slice none 0 0] 29)) = W0 := ⟨_, rfl⟩
  have h3 := allocs3 w (.cells #[Value.int .u32 boot, .slice ra rs.length rc, .string nm, .slice pa ps.length pc, .slice ka ks.length kc] 29) (.cells #[Value.int .u32 oboot, .slice ora ors.length orc, .string onm, .slice opa ops.length opc, .slice oka oks.length okc] 29) (.cells #[Value.int .u32 0, .slice none 0 0, .string ⟨#[]⟩, .slice none 0 0, .slice none 0 0] 29)
  rw [hW0] at h3
  obtain ⟨_, s0, n0, n1, n2, bel⟩ := h3
  have HB0 := Lib.hid bel
  have HX0 := Lib.hid (And.intro n0 (And.intro n1 n2))
  have HS0 := Lib.hid s0
  obtain ⟨b0, b1, b2, b3, b4⟩ := tree_box n1
  clear s0 n0 n1 n2 bel
  go_enter Tryz.func24, Tryz.ntmps24
  go_wp2_with fail
  try rw [hW0]
  clear hW0 b0 b1 b2 b3 b4
  refine (CC.out W0 (HI.out.on HB0.out)).mono ?_
  rintro e w2 ⟨c, F, D, rfl, hcb, hcr, hcp, hown, hb2⟩
  have HTR : Hid (TreeAt D (fun g => F g ∨ D g) W0.heap.size c w2) := Lib.hid (hown.treeAt (by rw [HHU.out c hcp]; have := HH.out; omega))
  have HCH : Hid (heftN c.root = H) := Lib.hid (HHU.out c hcp)
  have HD : Hid (∀ g, D g → W0.heap.size ≤ g ∧ g < w2.heap.size) := Lib.hid (fun g hg => ⟨(hown.hD g hg).1, (hown.hD g hg).2.1⟩)
  have HB2 := Lib.hid (HB0.out.trans (hb2.mono HB0.out.size))
  have HS2 : Hid (w.heap.size + 3 ≤ w2.heap.size) := Lib.hid (by have h1 := HS0.out; have h2 := hb2.size; omega)
  have HX2 : Hid (w2.heap[w.heap.size]? = some (.cells #[Value.int .u32 boot, .slice ra rs.length rc, .string nm, .slice pa ps.length pc, .slice ka ks.length kc] 29 (0, 0)) ∧ w2.heap[w.heap.size + 1]? = some (.cells #[Value.int .u32 oboot, .slice ora ors.length orc, .string onm, .slice opa ops.length opc, .slice oka oks.length okc] 29 (0, 0)) ∧ w2.heap[w.heap.size + 2]? = some (.cells #[Value.int .u32 0, .slice none 0 0, .string ⟨#[]⟩, .slice none 0 0, .slice none 0 0] 29 (0, 0))) := Lib.hid ⟨(hb2.block _ (by have := HS0.out; omega)).trans HX0.out.1, (hb2.block _ (by have := HS0.out; omega)).trans HX0.out.2.1, (hb2.block _ (by have := HS0.out; omega)).trans HX0.out.2.2⟩
  clear hcb hcr hcp hown hb2 CC HHU HX0
  have CSP := Lib.hid (fun (V : World) (h : Lies V D c.root) => spotOf_any D V c.root h V (Below.refl _ _))
  obtain ⟨W3, hW3⟩ : ∃ W3, w2.alloc (.cells #[.int .u32 c.boot, c.rv, .string c.root.name, c.root.pv, c.root.kv] 29) = W3 := ⟨_, rfl⟩
  have HB3 : Hid (Below w2.heap.size w2 W3) := Lib.hid (by rw [← hW3]; exact (Below.refl _ _).alloc (Nat.le_refl _) _)
  have HX3 : Hid (W3.heap[w2.heap.size]? = some (.cells #[.int .u32 c.boot, c.rv, .string c.root.name, c.root.pv, c.root.kv] 29 (0, 0))) := Lib.hid (by rw [← hW3]; exact heap_alloc_new _ _)
  have HS3 : Hid (W3.heap.size = w2.heap.size + 1) := Lib.hid (by rw [← hW3]; simp)
  -- what is there as long as only bytes turn
  have HALL : Hid (∀ V : World, Wrote D W3 V → V.heap[w.heap.size + 1]? = some (.cells #[Value.int .u32 oboot, .slice ora ors.length orc, .string onm, .slice opa ops.length opc, .slice oka oks.length okc] 29 (0, 0)) ∧ V.heap[w.heap.size + 2]? = some (.cells #[Value.int .u32 0, .slice none 0 0, .string ⟨#[]⟩, .slice none 0 0, .slice none 0 0] 29 (0, 0)) ∧ V.heap[w2.heap.size]? = some (.cells #[.int .u32 c.boot, c.rv, .string c.root.name, c.root.pv, c.root.kv] 29 (0, 0)) ∧ TreeAt D (fun g => F g ∨ D g) W0.heap.size c V ∧ Below w.heap.size w V ∧ (∀ g, D g → g < V.heap.size) ∧ (Nd.mk onm opa opc ops oka okc oks).In V w.heap.size ∧ V.heap[w.heap.size]? = some (.cells #[Value.int .u32 boot, .slice ra rs.length rc, .string nm, .slice pa ps.length pc, .slice ka ks.length kc] 29 (0, 0)) ∧ W3.heap.size ≤ V.heap.size) := Lib.hid (fun V h => by
    have hw := (Wrote.of_below D HB3.out).trans h
    have s1 := HS0.out
    have s2 := HS2.out
    have s3 := HS3.out
    have hbV : Below w.heap.size w V := HB2.out.trans (hw.below (by omega) (fun g hg => by have := (HD.out g hg).1; omega))
    exact ⟨(hw.blk (by omega) (fun hg => by have := (HD.out _ hg).1; omega)).trans HX2.out.2.1, (hw.blk (by omega) (fun hg => by have := (HD.out _ hg).1; omega)).trans HX2.out.2.2, (h.blk (by omega) (fun hg => by have := (HD.out _ hg).2; omega)).trans HX3.out, HTR.out.wrote hw, hbV, fun g hg => by have h1 := (HD.out g hg).2; have h2 := h.size; omega, HIR.out.under hbV, (hw.blk (by omega) (fun hg => by have := (HD.out _ hg).1; omega)).trans HX2.out.1, h.size⟩)
  have HFC : Hid (∀ V Wf : World, Wrote D W3 V → Chg (fun q => q = w.heap.size + 2) V Wf → TreeOut w H (.returned (.tuple #[.agg #[.int .u32 c.boot, c.rv, .string c.root.name, c.root.pv, c.root.kv], .int .i64 0])) Wf) := Lib.hid (fun V Wf h hc => by
    obtain ⟨_, _, _, k4, k5, _⟩ := HALL.out V h
    obtain ⟨x, x1, x2, x3, x4⟩ := k4.done hc (fun g e => by have := HS0.out; omega)
    exact ⟨⟨x, 0, by rw [x1]; rfl, x2, by rw [x3, HCH.out]; exact Nat.le_refl _, x4.low (by have := HS0.out; omega)⟩, k5.trans (hc.below k5.size (fun g e => by omega))⟩)
  have HW3 : Hid (Wrote D W3 W3) := Lib.hid (Wrote.refl _ _)
  have HDL : Hid (∀ g, D g → 3 ≤ g) := Lib.hid (fun g hg => by have h1 := (HD.out g hg).1; have h2 := HS0.out; have h3 := HEL.out.1; omega)
  have HELV : Hid (∀ V : World, Wrote D W3 V → ErrLaid V) := Lib.hid (fun V h => HEL.out.on HEL.out.1 (HALL.out V h).2.2.2.2.1 (HALL.out V h).2.2.2.2.1.size)
  have HBSV : Hid (∀ V : World, Wrote D W3 V → Tr.In V V.heap.size _) := Lib.hid (fun V h => HIB.out.on (HALL.out V h).2.2.2.2.1)
  clear HTR HCH HB2 HX2 HX3 HI HIR HIB HEL
  obtain ⟨cb, cra, crc, crs, ⟨cn, cpa, cpc, cps, cka, ckc, cks⟩⟩ := c
  simp only [Tr.val, Tr.rv, Nd.val, Nd.pv, Nd.kv, Nd.name, Nd.pa, Nd.pc, Nd.props, Nd.ka, Nd.kc, Nd.kids] at CSP hW3 HALL HFC ⊢
  obtain ⟨k1, _, _, _, k5, _, k7, _⟩ := HALL.out W3 HW3.out
  obtain ⟨b0, b1, b2, b3, b4⟩ := tree_box k1
  have CK4 := Lib.hid (CK.out W3 (k7.more k5.size))
  clear k1 k5 k7
  go_wp2_with fail
  try rw [hW3]
  clear hW3 b0 b1 b2 b3 b4
  refine CK4.out.mono ?_
  rintro e w5 ⟨rfl, hb5⟩
  have HW5 := Lib.hid (HW3.out.on hb5)
  clear hb5 CK4 CK
  by_cases hx : ix < 0
  · have j2 : decide (ix < 0) = true := decide_eq_true hx
    obtain ⟨_, k2, k3, _, _, _, _⟩ := HALL.out w5 HW5.out
    obtain ⟨c0, c1, c2, c3, c4⟩ := tree_box k3
    obtain ⟨z0, z1, z2, z3, z4⟩ := tree_box k2
    have f0 := Lib.frozen_of_heap k2 0
    have f1 := Lib.frozen_of_heap k2 1
    have f2 := Lib.frozen_of_heap k2 2
    have f3 := Lib.frozen_of_heap k2 3
    have f4 := Lib.frozen_of_heap k2 4
    go_wp2_with fail
    clear z0 z1 z2 z3 z4 f0 f1 f2 f3 f4 c0 c1 c2 c3 c4
    obtain ⟨⟨d0, d1, d2, d3, d4⟩, hch, _⟩ := box5 k2 (.int .u32 cb) (.slice cra crs.length crc) (.string cn) (.slice cpa cps.length cpc) (.slice cka cks.length ckc) _ rfl
    refine bodyPost_ret (v := .tuple #[.agg #[.int .u32 cb, .slice cra crs.length crc, .string cn, .slice cpa cps.length cpc, .slice cka cks.length ckc], .int .i64 0]) (by simp [results, Tryz.results24, go_sem, d0, d1, d2, d3, d4]; try rfl) rfl ?_
    exact HFC.out w5 _ HW5.out hch
  · have j2 : decide (ix < 0) = false := decide_eq_false hx
    obtain ⟨i, rfl⟩ : ∃ i : Nat, ix = (i : Int) := ⟨ix.toNat, by omega⟩
    have hik : i < oks.length := by have := HKI.out; omega
    obtain ⟨l1, l2⟩ := HKL.out
    obtain ⟨k1, _, k3, k4, k5, k6, k7, _⟩ := HALL.out w5 HW5.out
    obtain ⟨c0, c1, c2, c3, c4⟩ := tree_box k3
    have CS5 := Lib.hid (CSP.out w5 k4.lies)
    have HD5 := Lib.hid k6
    clear k1 k3 k4 k5 k6 k7 c0 c1
    go_wp2_with fail
    clear c2 c3 c4
    refine CS5.out.mono ?_
    rintro e w6 ⟨⟨sv, TV, TK, rfl, hsv, hsp, hge⟩, hb6⟩
    obtain ⟨va, vb, rfl, hva, hvb⟩ := hsv
    have HW6 := Lib.hid (HW5.out.on hb6)
    have HSA : Hid (SpotAt D (SlB w5 D) TV TK w6) := Lib.hid ⟨hsp, fun v hv => hv.wrote (Wrote.of_below D hb6), SlB.nil _ _, (HALL.out _ HW6.out).2.2.2.2.2.1, fun g hg hd => by
      have h1 := hge g hg
      have h2 := HD5.out g hd
      omega⟩
    have HVA := Lib.hid (And.intro hva hvb)
    clear hva hvb hsp hge hb6 CS5 CSP
    obtain ⟨W7, hW7⟩ : ∃ W7, w6.alloc (.cells #[.map va, .map vb] 87) = W7 := ⟨_, rfl⟩
    have HB7 : Hid (Below w6.heap.size w6 W7) := Lib.hid (by rw [← hW7]; exact (Below.refl _ _).alloc (Nat.le_refl _) _)
    have HX7 : Hid (W7.heap[w6.heap.size]? = some (.cells #[.map va, .map vb] 87 (0, 0)) ∧ W7.heap.size = w6.heap.size + 1) := Lib.hid (by rw [← hW7]; exact ⟨heap_alloc_new _ _, by simp⟩)
    have HW7 := Lib.hid (HW6.out.on HB7.out)
    have HAL7 : Hid (∀ V : World, Wrote D W7 V → Wrote D W3 V ∧ SpotAt D (SlB w5 D) TV TK V ∧ V.heap[w6.heap.size]? = some (.cells #[.map va, .map vb] 87 (0, 0))) := Lib.hid (fun V h => ⟨HW7.out.trans h, (HSA.out.on HB7.out).wrote h, (h.blk (by have := HX7.out.2; omega) (fun hg => by have := (HALL.out _ HW6.out).2.2.2.2.2.1 _ hg; omega)).trans HX7.out.1⟩)
    clear HSA HB7 HX7
    obtain ⟨k1, _, _, _, k5, _, k7, _⟩ := HALL.out W7 HW7.out
    obtain ⟨b0, b1, b2, b3, b4⟩ := tree_box k1
    obtain ⟨kb, ko, e, _, e0, e1, e2⟩ := k7.kcell (i := i) hik
    obtain rfl : oka = _ := e
    have HXI : Hid (∀ V : World, Wrote D W3 V → (oks[i]'hik).In V w.heap.size ∧ Below w.heap.size w V) := Lib.hid (fun V h => ⟨(HALL.out V h).2.2.2.2.2.2.1.kid (List.getElem_mem hik), (HALL.out V h).2.2.2.2.1⟩)
    have HXH := Lib.hid (HHK.out _ (List.getElem_mem hik))
    replace e1 : _ = some (oks[i]'hik).pv := e1
    replace b4 : W7.cell? ⟨w.heap.size + 1, 4, none⟩ = some (.slice (some ⟨kb, ko, none⟩) oks.length okc) := b4
    generalize (oks[i]'hik) = X at *
    have HXL := Lib.hid ((HXI.out W7 HW7.out).1.plen)
    have HXS := Lib.hid ((HXI.out W7 HW7.out).1.name_le)
    obtain ⟨xn, xpa, xpc, xps, xka, xkc, xks⟩ := X
    simp only [Nd.val, Nd.pv, Nd.kv, Nd.name, Nd.pa, Nd.pc, Nd.props, Nd.ka, Nd.kc, Nd.kids] at e1 HXI HXL HXH HXS
    clear k1 k5 k7 b0 b1 b2 b3 e0 e2
    go_wp2_with fail
    try rw [hW7]
    clear hW7
    obtain ⟨N, hN⟩ : ∃ N, xps.length = N := ⟨_, rfl⟩
    have HN := Lib.hid hN
    go_wp2_with fail
    have HNB : Hid (N ≤ 9223372036854775807) := Lib.hid (by have := HXL.out; omega)
    rw [hN]
    clear hN b4 e1
    go_loopw [30] (fun i wr => ∃ k : Nat, k ≤ N ∧ i = .int .i64 k ∧ Wrote D W7 wr) (fun i _ => N - (intOf i).toNat)
    case atStart => exact ⟨0, Nat.zero_le _, rfl, Wrote.refl _ _⟩
    case round =>
      obtain ⟨k, hk, rfl, hw⟩ := hrel
      have HWK := Lib.hid hw
      have HWR := Lib.hid (HAL7.out _ hw)
      clear hw
      have hn2 := HNB.out
      by_cases hlt : k < N
      · have HLT := Lib.hid hlt
        obtain ⟨hxin, hbw⟩ := HXI.out wr HWR.out.1
        have hkp : k < xps.length := by rw [HN.out]; exact hlt
        obtain ⟨pb, po, e, _, d0, d1⟩ := hxin.pcell (i := k) hkp
        obtain rfl : xpa = _ := e
        have HPI := Lib.hid (hxin.prop (List.getElem_mem hkp))
        have HPZ : Hid ((xps[k]'hkp).zs.length ≤ 134217728) := Lib.hid (by have h1 := heft_prop (n := Nd.mk xn (some ⟨pb, po, none⟩) xpc xps xka xkc xks) (List.getElem_mem hkp); have h2 := HXH.out; omega)
        replace d0 : wr.cell? ⟨pb, po + k * 2, none⟩ = some (.string (xps[k]'hkp).name) := d0
        replace d1 : wr.cell? ⟨pb, po + k * 2 + 1, none⟩ = some (xps[k]'hkp).val := d1
        have hxl := HXL.out
        rw [HN.out] at hxl
        generalize (xps[k]'hkp) = p at *
        clear hxin hkp
        obtain ⟨pn, pad, pcp, pzs⟩ := p
        simp only [PV.name, PV.val, PV.zs] at d0 d1
        obtain ⟨W8, hW8⟩ : ∃ W8, wr.alloc (.cells #[.string pn, .slice pad pzs.length pcp] 61) = W8 := ⟨_, rfl⟩
        have hb8 : Below wr.heap.size wr W8 := by rw [← hW8]; exact (Below.refl _ _).alloc (Nat.le_refl _) _
        have HWK8 := Lib.hid (HWK.out.on hb8)
        have HWR8 := Lib.hid (HAL7.out _ HWK8.out)
        have CF8 := Lib.hid (CFL.out D (SlB w5 D) TV TK HDL.out ⟨pn, pad, pcp, pzs⟩ va vb W8 HWR8.out.2.1 HVA.out.1 HVA.out.2 (HBSV.out _ HWR8.out.1) ((HPI.out.more hbw.size).on' hb8) HPZ.out (HELV.out _ HWR8.out.1))
        obtain ⟨_, _, kbx⟩ := HWR8.out
        obtain ⟨_, _, _, _, _, _, _, k8, _⟩ := HALL.out W8 HWR8.out.1
        obtain ⟨b0, b1, b2, b3, b4⟩ := tree_box k8
        have y0 : W8.cell? ⟨w6.heap.size, 0, none⟩ = some (.map va) := by rw [Lib.cell_of_heap kbx]; rfl
        have y1 : W8.cell? ⟨w6.heap.size, 1, none⟩ = some (.map vb) := by rw [Lib.cell_of_heap kbx]; rfl
        have hpx : W8.heap[wr.heap.size]? = some (.cells #[.string pn, .slice pad pzs.length pcp] 61 (0, 0)) := by rw [← hW8]; exact heap_alloc_new _ _
        have z0 : W8.cell? ⟨wr.heap.size, 0, none⟩ = some (.string pn) := by rw [Lib.cell_of_heap hpx]; rfl
        have z1 : W8.cell? ⟨wr.heap.size, 1, none⟩ = some (.slice pad pzs.length pcp) := by rw [Lib.cell_of_heap hpx]; rfl
        clear k8 kbx hb8 hpx
        go_wp2_with fail
        try rw [hW8]
        clear hW8 b0 b1 b2 b3 b4 y0 y1 z0 z1 d0 d1
        refine CF8.out.mono ?_
        rintro e w9 ⟨⟨r, rfl⟩, hw9⟩
        have HW9 := Lib.hid (HWK8.out.trans hw9)
        clear hw9
        cases r
        · have HW9b := Lib.hid (HAL7.out _ HW9.out).1
          obtain ⟨_, k2, _, _, k5, _⟩ := HALL.out w9 HW9b.out
          obtain ⟨z0, z1, z2, z3, z4⟩ := tree_box k2
          have f0 := Lib.frozen_of_heap k2 0
          have f1 := Lib.frozen_of_heap k2 1
          have f2 := Lib.frozen_of_heap k2 2
          have f3 := Lib.frozen_of_heap k2 3
          have f4 := Lib.frozen_of_heap k2 4
          go_wp2_with fail
          clear z0 z1 z2 z3 z4 f0 f1 f2 f3 f4
          obtain ⟨⟨d0, d1, d2, d3, d4⟩, hch, _⟩ := box5 k2 (.int .u32 0) (.slice none 0 0) (.string ⟨#[]⟩) (.slice none 0 0) (.slice none 0 0) _ rfl
          refine bodyPost_ret (v := .tuple #[.agg #[.int .u32 0, .slice none 0 0, .string ⟨#[]⟩, .slice none 0 0, .slice none 0 0], .int .i64 16]) (by simp [results, Tryz.results24, go_sem, d0, d1, d2, d3, d4]; try rfl) rfl ?_
          exact treeOut_zero H16.out 16 k5 hch (by omega)
        · go_wp2
          go_roundw
          case rel => exact ⟨k + 1, by have := HLT.out; omega, by go_num, HW9.out⟩
          case measure => have := HLT.out; simp [intOf]; omega
      · obtain rfl : k = N := by omega
        have HWF := Lib.hid HWR.out.1
        obtain ⟨_, k2, k3, _, _, _, _⟩ := HALL.out wr HWF.out
        obtain ⟨c0, c1, c2, c3, c4⟩ := tree_box k3
        obtain ⟨z0, z1, z2, z3, z4⟩ := tree_box k2
        have f0 := Lib.frozen_of_heap k2 0
        have f1 := Lib.frozen_of_heap k2 1
        have f2 := Lib.frozen_of_heap k2 2
        have f3 := Lib.frozen_of_heap k2 3
        have f4 := Lib.frozen_of_heap k2 4
        go_wp2_with fail
        clear z0 z1 z2 z3 z4 f0 f1 f2 f3 f4 c0 c1 c2 c3 c4
        obtain ⟨⟨d0, d1, d2, d3, d4⟩, hch, _⟩ := box5 k2 (.int .u32 cb) (.slice cra crs.length crc) (.string cn) (.slice cpa cps.length cpc) (.slice cka cks.length ckc) _ rfl
        refine bodyPost_ret (v := .tuple #[.agg #[.int .u32 cb, .slice cra crs.length crc, .string cn, .slice cpa cps.length cpc, .slice cka cks.length ckc], .int .i64 0]) (by simp [results, Tryz.results24, go_sem, d0, d1, d2, d3, d4]; try rfl) rfl ?_
        exact HFC.out wr _ HWF.out hch
end Go.Proofs.YtihlpcbebpnmkaaGreatDoor
