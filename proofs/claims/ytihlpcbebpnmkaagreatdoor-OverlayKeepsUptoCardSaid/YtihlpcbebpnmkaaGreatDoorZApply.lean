/-
  Layer 11: the program's Apply: a formed tree that keeps all of base, or an error.
-/
import Derived.Test.YtihlpcbebpnmkaaGreatDoorZReady
import Derived.Test.YtihlpcbebpnmkaaGreatDoorZLayF
namespace Go.Proofs.YtihlpcbebpnmkaaGreatDoor
open Go.RowKit
set_option linter.unusedVariables false
set_option linter.unusedSimpArgs false
set_option maxRecDepth 20000
attribute [local go_sem ↓] Go.wp_at_zero Go.wp_at_succ

def ApplyOut (T : Tr) (w : World) (e : Ending) (w' : World) : Prop := (∃ (x : Tr) (er : Int), e = .returned (.tuple #[x.val, .int .i64 er]) ∧ x.In w' w'.heap.size ∧ (er = 0 → checkE T = 0 ∧ checkE x = 0 ∧ Keeps T.root x.root) ∧ (checkE T ≠ 0 → er = checkE T)) ∧ Below w.heap.size w w'
theorem applyOut_zero {t : Tr} {w V Wf : World} {g : Nat} {er : Int} (her : er ≠ 0) (hq : checkE t ≠ 0 → er = checkE t) (hb : Below w.heap.size w V) (hc : Chg (fun q => q = g) V Wf) (hg : w.heap.size ≤ g) : ApplyOut t w (.returned (.tuple #[.agg #[.int .u32 0, .slice none 0 0, .string ⟨#[]⟩, .slice none 0 0, .slice none 0 0], .int .i64 er])) Wf :=
  ⟨⟨zeroT, er, rfl, zeroT_in _ _, fun e => absurd e her, hq⟩, hb.trans (hc.below hb.size (fun q e => by omega))⟩
set_option maxHeartbeats 8000000 in
theorem apply_any (t u : Tr) (w : World) (hin : t.In w w.heap.size) (hu : u.In w w.heap.size) (hh : heftN t.root + heftN u.root ≤ 134217728) (hel : ErrLaid w) :
    Calls Tryz.prog 6 #[t.val, u.val] w (ApplyOut t w) := by
  have HIB := Lib.hid hin
  have HI := Lib.hid hu
  have HEL := Lib.hid hel
  have HH := Lib.hid hh
  have CR := Lib.hid (fun (W : World) (h : t.In W W.heap.size) (h2 : u.In W W.heap.size) (h3 : ErrLaid W) => ready_any t u W h h2 (by omega) (by omega) h3)
  have CC := Lib.hid (fun (W : World) (h : t.In W W.heap.size) => clone_own t W h)
  have CCK := Lib.hid checkO_any
  have CLF := Lib.hid layFragments_any
  obtain ⟨T, hT⟩ : ∃ T, t = T := ⟨_, rfl⟩
  have HT := Lib.hid hT
  obtain ⟨HU, hHU⟩ : ∃ HU, heftN u.root = HU := ⟨_, rfl⟩
  rw [hHU] at CR HH
  replace CR : Hid (∀ W : World, t.In W W.heap.size → u.In W W.heap.size → ErrLaid W → Calls Tryz.prog 13 #[t.val, u.val] W (ReadyOut T HU W)) := by rw [← hT]; exact CR
  replace CC : Hid (∀ W : World, t.In W W.heap.size → Calls Tryz.prog 14 #[t.val] W fun e w' => ∃ (c : Tr) (F D : Nat → Prop), e = .returned c.val ∧ c.boot = T.boot ∧ c.rs = T.rs ∧ pureN c.root = pureN T.root ∧ OwnT w' W.heap.size F D c ∧ Below W.heap.size W w') := by rw [← hT]; exact CC
  replace HH : Hid (heftN T.root + HU ≤ 134217728) := by rw [← hT]; exact HH
  have hgoal : ∀ P : Tr → Prop, P T → P t := fun P h => by rw [hT]; exact h
  refine hgoal (fun z => Calls Tryz.prog 6 #[t.val, u.val] w (ApplyOut z w)) ?_
  clear hgoal hT hin hu hh hel hHU
  obtain ⟨boot, ra, rc, rs, ⟨nm, pa, pc, ps, ka, kc, ks⟩⟩ := t
  obtain ⟨oboot, ora, orc, ors, ⟨onm, opa, opc, ops, oka, okc, oks⟩⟩ := u
  simp only [Tr.val, Tr.rv, Nd.val, Nd.pv, Nd.kv, Nd.name, Nd.pa, Nd.pc, Nd.props, Nd.ka, Nd.kc, Nd.kids] at CR CC ⊢
  obtain ⟨W0, hW0⟩ : ∃ W0, (((w.alloc (.cells #[Value.int .u32 boot, .slice ra rs.length rc, .string nm, .slice pa ps.length pc, .slice ka ks.length kc] 29)).alloc (.cells #[Value.int .u32 oboot, .slice ora ors.length orc, .string onm, .slice opa ops.length opc, .slice oka oks.length okc] 29)).alloc (.cells #[Value.int .u32 0, .slice none 0 0, .string ⟨#[]⟩, .slice none 0 0, .slice none 0 0] 29)) = W0 := ⟨_, rfl⟩
  have h3 := allocs3 w (.cells #[Value.int .u32 boot, .slice ra rs.length rc, .string nm, .slice pa ps.length pc, .slice ka ks.length kc] 29) (.cells #[Value.int .u32 oboot, .slice ora ors.length orc, .string onm, .slice opa ops.length opc, .slice oka oks.length okc] 29) (.cells #[Value.int .u32 0, .slice none 0 0, .string ⟨#[]⟩, .slice none 0 0, .slice none 0 0] 29)
  rw [hW0] at h3
  obtain ⟨_, s0, n0, n1, n2, bel⟩ := h3
  have HB0 := Lib.hid bel
  have HS0 := Lib.hid s0
  have HALL : Hid (∀ V : World, Below W0.heap.size W0 V → V.heap[w.heap.size]? = some (.cells #[Value.int .u32 boot, .slice ra rs.length rc, .string nm, .slice pa ps.length pc, .slice ka ks.length kc] 29 (0, 0)) ∧ V.heap[w.heap.size + 1]? = some (.cells #[Value.int .u32 oboot, .slice ora ors.length orc, .string onm, .slice opa ops.length opc, .slice oka oks.length okc] 29 (0, 0)) ∧ V.heap[w.heap.size + 2]? = some (.cells #[Value.int .u32 0, .slice none 0 0, .string ⟨#[]⟩, .slice none 0 0, .slice none 0 0] 29 (0, 0)) ∧ Below w.heap.size w V ∧ W0.heap.size ≤ V.heap.size) := Lib.hid (fun V h =>
    ⟨(h.block _ (by omega)).trans n0, (h.block _ (by omega)).trans n1, (h.block _ (by omega)).trans n2, bel.trans (h.mono bel.size), h.size⟩)
  obtain ⟨b0, b1, b2, b3, b4⟩ := tree_box n0
  obtain ⟨c0, c1, c2, c3, c4⟩ := tree_box n1
  clear s0 n0 n1 n2 bel
  go_enter Tryz.func6, Tryz.ntmps6
  go_wp2_with fail
  try rw [hW0]
  clear hW0 b0 b1 b2 b3 b4 c0 c1 c2 c3 c4
  refine (CR.out W0 (HIB.out.on HB0.out) (HI.out.on HB0.out) (HEL.out.on HEL.out.1 HB0.out HB0.out.size)).mono ?_
  rintro e w1 ⟨⟨x, e1, rfl, hxin, hxh, _, hck, hcq⟩, hb1⟩
  have HW1 := Lib.hid hb1
  have HX := Lib.hid (And.intro hxin.root hxh)
  have HCK := Lib.hid hck
  have HCQ := Lib.hid hcq
  clear hb1 hxin hxh hck hcq CR
  obtain ⟨xb, xra, xrc, xrs, ⟨xn, xpa, xpc, xps, xka, xkc, xks⟩⟩ := x
  simp only [Tr.val, Tr.rv, Nd.val, Nd.pv, Nd.kv, Nd.name, Nd.pa, Nd.pc, Nd.props, Nd.ka, Nd.kc, Nd.kids] at HX ⊢
  obtain ⟨W2, hW2⟩ : ∃ W2, w1.alloc (.cells #[Value.int .u32 xb, .slice xra xrs.length xrc, .string xn, .slice xpa xps.length xpc, .slice xka xks.length xkc] 29) = W2 := ⟨_, rfl⟩
  have HB2 : Hid (Below w1.heap.size w1 W2) := Lib.hid (by rw [← hW2]; exact (Below.refl _ _).alloc (Nat.le_refl _) _)
  have HX2 : Hid (W2.heap[w1.heap.size]? = some (.cells #[Value.int .u32 xb, .slice xra xrs.length xrc, .string xn, .slice xpa xps.length xpc, .slice xka xks.length xkc] 29 (0, 0)) ∧ W2.heap.size = w1.heap.size + 1) := Lib.hid (by rw [← hW2]; exact ⟨heap_alloc_new _ _, by simp⟩)
  have HW2 := Lib.hid (HW1.out.trans (HB2.out.mono HW1.out.size))
  by_cases h1 : e1 = 0
  · subst h1
    have HQ0 : Hid (∀ {er : Int}, checkE T ≠ 0 → er = checkE T) := Lib.hid (fun h => absurd (HCK.out rfl) h)
    obtain ⟨k1, _, _, k4, _⟩ := HALL.out W2 HW2.out
    obtain ⟨b0, b1, b2, b3, b4⟩ := tree_box k1
    have C3 := Lib.hid (CC.out W2 (HIB.out.on k4))
    clear k1 k4 CC
    go_wp2_with fail
    try rw [hW2]
    clear hW2 b0 b1 b2 b3 b4
    refine C3.out.mono ?_
    rintro e w3 ⟨c, F, D, rfl, q1, q2, hcp, hown, hb3⟩
    clear q1 q2
    have HW3 := Lib.hid (HW2.out.trans (hb3.mono HW2.out.size))
    have HB3 := Lib.hid hb3
    have HOWN := Lib.hid hown
    have HCP := Lib.hid hcp
    have HCH : Hid (heftN c.root = heftN T.root) := Lib.hid (by rw [heft_hp, heft_hp, hcp])
    clear hb3 hown hcp C3
    obtain ⟨cb, cra, crc, crs, ⟨cn, cpa, cpc, cps, cka, ckc, cks⟩⟩ := c
    dsimp only
    replace HCH : Hid (heftN (Nd.mk cn cpa cpc cps cka ckc cks) = heftN T.root) := HCH
    replace HCP : Hid (pureN (Nd.mk cn cpa cpc cps cka ckc cks) = pureN T.root) := HCP
    obtain ⟨W4, hW4⟩ : ∃ W4, w3.alloc (.cells #[Value.int .u32 cb, .slice cra crs.length crc, .string cn, .slice cpa cps.length cpc, .slice cka cks.length ckc] 29) = W4 := ⟨_, rfl⟩
    have HB4 : Hid (Below w3.heap.size w3 W4) := Lib.hid (by rw [← hW4]; exact (Below.refl _ _).alloc (Nat.le_refl _) _)
    have HX4 : Hid (W4.heap[w3.heap.size]? = some (.cells #[Value.int .u32 cb, .slice cra crs.length crc, .string cn, .slice cpa cps.length cpc, .slice cka cks.length ckc] 29 (0, 0)) ∧ W4.heap.size = w3.heap.size + 1) := Lib.hid (by rw [← hW4]; exact ⟨heap_alloc_new _ _, by simp⟩)
    have HB24 := Lib.hid (HB3.out.trans (HB4.out.mono HB3.out.size))
    have HLT : Hid (LayT W4 w3.heap.size W2.heap.size cb cra crc crs (Nd.mk cn cpa cpc cps cka ckc cks) F D (.mk xn xpa xpc xps xka xkc xks)) := Lib.hid (by
      have hb := HB3.out.size
      refine ⟨HOWN.out.boot, HOWN.out.len, HOWN.out.nums, fun h0 => ?_, fun h0 b o e => ⟨(HOWN.out.hR h0 b o e).2.1, ?_⟩, fun g e => (HOWN.out.hF g e).1, hb, HB24.out.size, (HX.out.1.on HB2.out).under HB24.out⟩
      · obtain ⟨b, o, e, hb, hcc⟩ := HOWN.out.res h0
        exact ⟨b, o, e, Nat.lt_of_lt_of_le hb HB4.out.size, fun i hi => ⟨(HB4.out.cell (p := ⟨b, o + i * 2, none⟩) hb).trans (hcc i hi).1, (HB4.out.cell (p := ⟨b, o + i * 2 + 1, none⟩) hb).trans (hcc i hi).2⟩⟩
      · obtain ⟨b', o', e', hb', _⟩ := HOWN.out.res h0
        rw [e] at e'
        simp only [Option.some.injEq, Addr.mk.injEq, and_true] at e'
        omega)
    have HLY : Hid (LayN W4 w3.heap.size 2 29 #[Value.int .u32 cb, .slice cra crs.length crc, .string cn, .slice cpa cps.length cpc, .slice cka cks.length ckc] (Nd.mk cn cpa cpc cps cka ckc cks) F D W4 (Nd.mk cn cpa cpc cps cka ckc cks) F D) := Lib.hid (LayN.start (HOWN.out.own.chg (E := fun _ => False) (Chg.ofBelow HB4.out) (fun _ _ e => e) (fun _ _ e => e)) (fun g e => by have h1 := (HOWN.out.hF g e).2; have h2 := HX4.out.2; omega) (fun g e => ⟨by have h1 := (HOWN.out.hD g e).2.1; have h2 := HX4.out.2; omega, (HOWN.out.hD g e).2.2⟩) HX4.out.1 rfl rfl (fun e => by have := (HOWN.out.hF _ e).2; omega) (fun e => by have := (HOWN.out.hD _ e).2.1; omega))
    have C5 := Lib.hid (CLF.out W4 w3.heap.size W2.heap.size cb cra crc crs (Nd.mk cn cpa cpc cps cka ckc cks) _ F D HLT.out HLY.out (by have h1 := HCH.out; have h2 := HX.out.2; have h3 := HH.out; omega))
    have hx4 := HB24.out.block w1.heap.size (by have := HX2.out.2; omega)
    rw [HX2.out.1] at hx4
    obtain ⟨_, _, _, _, b4⟩ := tree_box hx4
    simp only [Nd.kv, Nd.ka, Nd.kc, Nd.kids] at C5
    clear hx4 CLF
    go_wp2_with fail
    try rw [hW4]
    clear hW4 b4
    refine C5.out.mono ?_
    rintro e w5 ⟨⟨e5, rfl⟩, n, F5, D5, hlay, hkeep, hheft⟩
    have HLW := Lib.hid hlay
    have HNH : Hid (heftN n ≤ 134217728) := Lib.hid (by have h1 := HCH.out; have h2 := HX.out.2; have h3 := HH.out; omega)
    have HKN : Hid (KeepsP (pureN T.root) (pureN n)) := Lib.hid (by rw [← HCP.out]; exact hkeep)
    have HB5 : Hid (Below W2.heap.size W4 w5) := Lib.hid (hlay.chg.below HB24.out.size (fun g e => e.elim (fun e => (HOWN.out.hF g e).1) (fun e => by rw [e]; exact HB3.out.size)))
    have HW5 := Lib.hid (HW2.out.trans ((HB24.out.trans HB5.out).mono HW2.out.size))
    have HTT := Lib.hid (HLT.out.at_ hlay HNH.out)
    have HUP : Hid (UpT W2.heap.size (Tr.mk cb cra crc crs n)) := Lib.hid ⟨fun h0 b o e => (HOWN.out.hR h0 b o e).1, Nd.At.mono (fun g hg => by
      have h0 := HB24.out.size
      rcases hg with e | e
      · rcases (hlay.hF' g e).1 with e | e
        · exact (HOWN.out.hF g e).1
        · omega
      · rcases (hlay.hD' g e).1 with e | e
        · exact (HOWN.out.hD g e).1
        · omega) hlay.own.at_⟩
    have HTI : Hid ((Tr.mk cb cra crc crs n).In w5 w5.heap.size) := Lib.hid HTT.out.2.1
    have C6 := Lib.hid (CCK.out (Tr.mk cb cra crc crs n) w5 HTI.out HNH.out)
    have HTB := Lib.hid HTT.out.1
    clear hlay hkeep hheft C5 CCK
    have HFC : Hid (∀ V Wf : World, Below w5.heap.size w5 V → Chg (fun q => q = w.heap.size + 2) V Wf → checkE (Tr.mk cb cra crc crs n) = 0 → ApplyOut T w (.returned (.tuple #[(Tr.mk cb cra crc crs n).val, .int .i64 0])) Wf) := Lib.hid (fun V Wf h hc hck => by
      obtain ⟨_, _, _, k4, k5⟩ := HALL.out V (HW5.out.trans (h.mono HW5.out.size))
      have s0 := HS0.out
      have s2 := HW2.out.size
      exact ⟨⟨Tr.mk cb cra crc crs n, 0, rfl, HUP.out.chg (HTI.out.on h) hc (fun g e => by omega), fun _ => ⟨HCK.out trivial, hck, keepsOf HKN.out⟩, HQ0.out⟩, k4.trans (hc.below k4.size (fun g e => by omega))⟩)
    clear HUP HTI HTT HLW HKN
    obtain ⟨R, hR⟩ : ∃ R, (Tr.mk cb cra crc crs n) = R := ⟨_, rfl⟩
    obtain ⟨yn, ypa, ypc, yps, yka, ykc, yks⟩ := n
    have hRv : R.val = .agg #[Value.int .u32 cb, .slice cra crs.length crc, .string yn, .slice ypa yps.length ypc, .slice yka yks.length ykc] := by rw [← hR]; rfl
    rw [hR, hRv] at C6 HFC
    replace C6 : Hid (Calls Tryz.prog 16 #[.agg #[Value.int .u32 cb, .slice cra crs.length crc, .string yn, .slice ypa yps.length ypc, .slice yka yks.length ykc]] w5 fun e w' => (∃ er : Int, e = .returned (.int .i64 er) ∧ (er = 0 → checkE R = 0)) ∧ Below w5.heap.size w5 w') := C6
    replace HTB : Hid (w5.heap[w3.heap.size]? = some (.cells #[Value.int .u32 cb, .slice cra crs.length crc, .string yn, .slice ypa yps.length ypc, .slice yka yks.length ykc] 29 (0, 0))) := HTB
    have HL3 : Hid (w3.heap.size < w5.heap.size) := Lib.hid (by have h1 := HX4.out.2; have h2 := HB5.out.size; omega)
    clear hR hRv
    by_cases h5 : e5 = 0
    · subst h5
      obtain ⟨b0, b1, b2, b3, b4⟩ := tree_box HTB.out
      go_wp2_with fail
      clear b0 b1 b2 b3 b4
      refine C6.out.mono ?_
      rintro e w6 ⟨⟨e6, rfl, hck⟩, hb6⟩
      have HB6 := Lib.hid hb6
      have HW6 := Lib.hid (HW5.out.trans (hb6.mono HW5.out.size))
      have HTB6 := Lib.hid ((hb6.block _ HL3.out).trans HTB.out)
      have HCK6 := Lib.hid hck
      clear hb6 hck C6
      by_cases h6 : e6 = 0
      · subst h6
        have HFD : Hid (∀ Wf : World, Chg (fun q => q = w.heap.size + 2) w6 Wf → ApplyOut T w (.returned (.tuple #[.agg #[Value.int .u32 cb, .slice cra crs.length crc, .string yn, .slice ypa yps.length ypc, .slice yka yks.length ykc], .int .i64 0])) Wf) := Lib.hid (fun Wf hc => HFC.out w6 Wf HB6.out hc (HCK6.out rfl))
        obtain ⟨_, _, k3, _, _⟩ := HALL.out w6 HW6.out
        obtain ⟨b0, b1, b2, b3, b4⟩ := tree_box HTB6.out
        obtain ⟨z0, z1, z2, z3, z4⟩ := tree_box k3
        have f0 := Lib.frozen_of_heap k3 0
        have f1 := Lib.frozen_of_heap k3 1
        have f2 := Lib.frozen_of_heap k3 2
        have f3 := Lib.frozen_of_heap k3 3
        have f4 := Lib.frozen_of_heap k3 4
        go_wp2_with fail
        clear z0 z1 z2 z3 z4 f0 f1 f2 f3 f4 b0 b1 b2 b3 b4
        obtain ⟨⟨d0, d1, d2, d3, d4⟩, hch, _⟩ := box5 k3 (.int .u32 cb) (.slice cra crs.length crc) (.string yn) (.slice ypa yps.length ypc) (.slice yka yks.length ykc) _ rfl
        refine bodyPost_ret (v := .tuple #[.agg #[Value.int .u32 cb, .slice cra crs.length crc, .string yn, .slice ypa yps.length ypc, .slice yka yks.length ykc], .int .i64 0]) (by simp [results, Tryz.results6, go_sem, d0, d1, d2, d3, d4]; try rfl) rfl ?_
        exact HFD.out _ hch
      · have j1 : (e6 != 0) = true := by rw [bne_iff_ne]; exact h6
        obtain ⟨_, _, k3, k4, _⟩ := HALL.out w6 HW6.out
        obtain ⟨z0, z1, z2, z3, z4⟩ := tree_box k3
        have f0 := Lib.frozen_of_heap k3 0
        have f1 := Lib.frozen_of_heap k3 1
        have f2 := Lib.frozen_of_heap k3 2
        have f3 := Lib.frozen_of_heap k3 3
        have f4 := Lib.frozen_of_heap k3 4
        go_wp2_with fail
        clear z0 z1 z2 z3 z4 f0 f1 f2 f3 f4
        obtain ⟨⟨d0, d1, d2, d3, d4⟩, hch, _⟩ := box5 k3 (.int .u32 0) (.slice none 0 0) (.string ⟨#[]⟩) (.slice none 0 0) (.slice none 0 0) _ rfl
        refine bodyPost_ret (v := .tuple #[.agg #[.int .u32 0, .slice none 0 0, .string ⟨#[]⟩, .slice none 0 0, .slice none 0 0], .int .i64 e6]) (by simp [results, Tryz.results6, go_sem, d0, d1, d2, d3, d4]; try rfl) rfl ?_
        exact applyOut_zero h6 HQ0.out k4 hch (by omega)
    · have j1 : (e5 != 0) = true := by rw [bne_iff_ne]; exact h5
      obtain ⟨_, _, k3, k4, _⟩ := HALL.out w5 HW5.out
      obtain ⟨z0, z1, z2, z3, z4⟩ := tree_box k3
      have f0 := Lib.frozen_of_heap k3 0
      have f1 := Lib.frozen_of_heap k3 1
      have f2 := Lib.frozen_of_heap k3 2
      have f3 := Lib.frozen_of_heap k3 3
      have f4 := Lib.frozen_of_heap k3 4
      go_wp2_with fail
      clear z0 z1 z2 z3 z4 f0 f1 f2 f3 f4
      obtain ⟨⟨d0, d1, d2, d3, d4⟩, hch, _⟩ := box5 k3 (.int .u32 0) (.slice none 0 0) (.string ⟨#[]⟩) (.slice none 0 0) (.slice none 0 0) _ rfl
      refine bodyPost_ret (v := .tuple #[.agg #[.int .u32 0, .slice none 0 0, .string ⟨#[]⟩, .slice none 0 0, .slice none 0 0], .int .i64 e5]) (by simp [results, Tryz.results6, go_sem, d0, d1, d2, d3, d4]; try rfl) rfl ?_
      exact applyOut_zero h5 HQ0.out k4 hch (by omega)
  · have j1 : (e1 != 0) = true := by rw [bne_iff_ne]; exact h1
    obtain ⟨_, _, k3, k4, _⟩ := HALL.out W2 HW2.out
    obtain ⟨z0, z1, z2, z3, z4⟩ := tree_box k3
    have f0 := Lib.frozen_of_heap k3 0
    have f1 := Lib.frozen_of_heap k3 1
    have f2 := Lib.frozen_of_heap k3 2
    have f3 := Lib.frozen_of_heap k3 3
    have f4 := Lib.frozen_of_heap k3 4
    go_wp2_with fail
    clear z0 z1 z2 z3 z4 f0 f1 f2 f3 f4
    obtain ⟨⟨d0, d1, d2, d3, d4⟩, hch, _⟩ := box5 k3 (.int .u32 0) (.slice none 0 0) (.string ⟨#[]⟩) (.slice none 0 0) (.slice none 0 0) _ rfl
    refine bodyPost_ret (v := .tuple #[.agg #[.int .u32 0, .slice none 0 0, .string ⟨#[]⟩, .slice none 0 0, .slice none 0 0], .int .i64 e1]) (by simp [results, Tryz.results6, go_sem, d0, d1, d2, d3, d4]; try rfl) rfl ?_
    exact applyOut_zero h1 HCQ.out k4 hch (by omega)
end Go.Proofs.YtihlpcbebpnmkaaGreatDoor
