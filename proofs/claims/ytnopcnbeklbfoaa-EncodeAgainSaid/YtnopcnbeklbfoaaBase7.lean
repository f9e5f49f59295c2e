/-
  Base, part 7: what the proofs of this claim lean on.
-/
import Derived.Test.YtnopcnbeklbfoaaBase6
import Derived.Test.YtnopcnbeklbfoaaBase3
import Derived.Test.YtnopcnbeklbfoaaBase2
import Derived.BigQuiet
import Derived.Deep.DrawnRows
import Derived.Test.YtnopcnbeklbfoaaRows

/-! Layer 5, EncodeWrites: any tree has the bytes that the document says, or is refused. -/
namespace Go.Proofs.Ytnopcnbeklbfoaa
open Go.RowKit
set_option linter.unusedVariables false
set_option linter.unusedSimpArgs false

/-- The five cells of a tree in a new block. -/
theorem box_cells (w : World) (v0 v1 v2 v3 v4 : Value) (W : World) (h : Below (w.heap.size + 1) (w.alloc (.cells #[v0, v1, v2, v3, v4] 40)) W) :
    W.cell? ⟨w.heap.size, 0, none⟩ = some v0 ∧ W.cell? ⟨w.heap.size, 1, none⟩ = some v1 ∧ W.cell? ⟨w.heap.size, 2, none⟩ = some v2 ∧ W.cell? ⟨w.heap.size, 3, none⟩ = some v3 ∧ W.cell? ⟨w.heap.size, 4, none⟩ = some v4 :=
  ⟨(h.cell (Nat.lt_succ_self _)).trans (World.cell?_alloc_new _ _ _ _), (h.cell (Nat.lt_succ_self _)).trans (World.cell?_alloc_new _ _ _ _), (h.cell (Nat.lt_succ_self _)).trans (World.cell?_alloc_new _ _ _ _), (h.cell (Nat.lt_succ_self _)).trans (World.cell?_alloc_new _ _ _ _), (h.cell (Nat.lt_succ_self _)).trans (World.cell?_alloc_new _ _ _ _)⟩

set_option maxRecDepth 20000 in
set_option maxHeartbeats 8000000 in
theorem encodeWrites_true (t : Tr) (w : World) (hin : t.In w w.heap.size) (hheft : heftN t.root ≤ 268435456) (hrs : t.rs.length ≤ 1048576) :
    Calls Try.prog 5 #[t.val] w fun e w' => e = .returned (.bool true) ∧ Below w.heap.size w w' := by
  obtain ⟨E, hE⟩ : ∃ E, checkE t = E := ⟨_, rfl⟩
  obtain ⟨BT, hBT⟩ : ∃ BT, blobT t = BT := ⟨_, rfl⟩
  have C0 := Lib.hid (fun w h => few_any t w h)
  have C1 := Lib.hid (fun w h => refcheck_any t w h E hE)
  have C2 := Lib.hid (fun w h => blob_any t w h (by omega) hrs)
  have C3 := Lib.hid (fun w h => (encode_any t w h hheft).mono fun e w' (h : EncOut t e w' ∧ _) => show ((E ≠ 0 → e = .returned (.tuple #[.slice none 0 0, .int .i64 E])) ∧ (E = 0 → 1048576 < BT.length → e = .returned (.tuple #[.slice none 0 0, .int .i64 7])) ∧ (E = 0 → BT.length ≤ 1048576 → ∃ A c, e = .returned (.tuple #[.slice A BT.length c, .int .i64 0]) ∧ Shows w' w'.heap.size A BT.length BT ∧ BT.length ≤ c ∧ c ≤ 9223372036854775807)) ∧ Below w.heap.size w w' from by
    rw [← hE, ← hBT]; exact h)
  have LP := Lib.hid (fun (h0 : E = 0) (hl : BT.length ≤ 1048576) => show LayP BT from ⟨t, by rw [← hBT]; exact read_own hin.boot hin.pos (hE.trans h0) (by rw [hBT]; exact hl), hBT.symm⟩)
  rw [hBT] at C2
  have HI := Lib.hid hin
  clear hE hin hheft hrs hBT
  obtain ⟨boot, ra, rc, rs, ⟨nm, pa, pc, ps, ka, kc, ks⟩⟩ := t
  simp only [Tr.val, Tr.rv, Nd.pv, Nd.kv, Nd.name, Nd.pa, Nd.pc, Nd.props, Nd.ka, Nd.kc, Nd.kids] at C0 C1 C2 C3 ⊢
  have HB := Lib.hid ((Below.refl w.heap.size w).alloc (Nat.le_refl _) (.cells #[.int .u32 boot, .slice ra rs.length rc, .string nm, .slice pa ps.length pc, .slice ka ks.length kc] 40))
  have BX := Lib.hid (box_cells w (.int .u32 boot) (.slice ra rs.length rc) (.string nm) (.slice pa ps.length pc) (.slice ka ks.length kc))
  go_enter Try.func5, Try.ntmps5
  go_wp2_with fail
  refine (awake5 _).mono ?_
  rintro e w1 ⟨rfl, hb⟩
  have HB1 := Lib.hid (HB.out.trans (hb.mono HB.out.size))
  have HX1 := Lib.hid (hb.mono (B' := w.heap.size + 1) (by simp))
  obtain ⟨b0, b1, b2, b3, b4⟩ := BX.out _ HX1.out
  clear hb
  go_wp2_with fail
  refine (C0.out _ (HI.out.on HB1.out)).mono ?_
  rintro e w2 ⟨⟨r, rfl⟩, hb⟩
  have HB2 := Lib.hid (HB1.out.trans (hb.mono HB1.out.size))
  have HX2 := Lib.hid (HX1.out.trans (hb.mono (by have := HX1.out.size; simpa using this)))
  clear hb b0 b1 b2 b3 b4
  cases r
  · go_wp2_with fail
    refine (awake5 _).mono ?_
    rintro e w3 ⟨rfl, hb⟩
    have HB3 := Lib.hid (HB2.out.trans (hb.mono HB2.out.size))
    clear hb
    go_wp2
    go_ret
    exact ⟨rfl, HB3.out⟩
  · obtain ⟨b0, b1, b2, b3, b4⟩ := BX.out _ HX2.out
    go_wp2_with fail
    refine (C3.out _ (HI.out.on HB2.out)).mono ?_
    rintro e w3 ⟨⟨o1, o2, o3⟩, hb⟩
    have HB3 := Lib.hid (HB2.out.trans (hb.mono HB2.out.size))
    have HX3 := Lib.hid (HX2.out.trans (hb.mono (by have := HX2.out.size; simpa using this)))
    clear hb b0 b1 b2 b3 b4
    by_cases hE0 : E = 0
    · subst hE0
      by_cases hbig : 1048576 < BT.length
      · obtain rfl := o2 rfl hbig
        obtain ⟨b0, b1, b2, b3, b4⟩ := BX.out _ HX3.out
        clear o1 o2 o3
        go_wp2_with fail
        refine (C1.out _ (HI.out.on HB3.out)).mono ?_
        rintro e w4 ⟨rfl, hb⟩
        have HB4 := Lib.hid (HB3.out.trans (hb.mono HB3.out.size))
        have HX4 := Lib.hid (HX3.out.trans (hb.mono (by have := HX3.out.size; simpa using this)))
        clear hb b0 b1 b2 b3 b4
        obtain ⟨b0, b1, b2, b3, b4⟩ := BX.out _ HX4.out
        go_wp2_with fail
        refine (C2.out _ (HI.out.on HB4.out)).mono ?_
        rintro e w5 ⟨A, c, rfl, _, _, _, hb⟩
        have HB5 := Lib.hid (HB4.out.trans (hb.mono HB4.out.size))
        have k1 : decide ((1048576 : Int) < (BT.length : Int)) = true := decide_eq_true (by omega)
        clear hb b0 b1 b2 b3 b4
        go_wp2
        go_ret
        exact ⟨rfl, HB5.out⟩
      · obtain ⟨A, c, rfl, hs, hc, hc'⟩ := o3 rfl (by omega)
        have HS := Lib.hid hs
        have HL := Lib.hid (LP.out rfl (by omega))
        obtain ⟨b0, b1, b2, b3, b4⟩ := BX.out _ HX3.out
        clear o1 o2 o3 hs
        go_wp2_with fail
        refine (C1.out _ (HI.out.on HB3.out)).mono ?_
        rintro e w4 ⟨rfl, hb⟩
        have HB4 := Lib.hid (HB3.out.trans (hb.mono HB3.out.size))
        have HX4 := Lib.hid (HX3.out.trans (hb.mono (by have := HX3.out.size; simpa using this)))
        have HS4 := Lib.hid ((HS.out.below hb).more hb.size)
        clear hb b0 b1 b2 b3 b4
        obtain ⟨b0, b1, b2, b3, b4⟩ := BX.out _ HX4.out
        go_wp2_with fail
        refine (C2.out _ (HI.out.on HB4.out)).mono ?_
        rintro e w5 ⟨A5, c5, rfl, hs5, _, _, hb⟩
        have HB5 := Lib.hid (HB4.out.trans (hb.mono HB4.out.size))
        have HS5 := Lib.hid ((HS4.out.below hb).more hb.size)
        have k1 : decide ((1048576 : Int) < (BT.length : Int)) = false := decide_eq_false (by omega)
        have e1 := run_string HS5.out c
        have e2 := run_string hs5 c5
        have CL := Lib.hid (layout_any A BT.length c BT w5 HS5.out hc hc')
        clear hb b0 b1 b2 b3 b4 hbig hs5
        go_wp2_with fail
        refine CL.out.mono ?_
        rintro e w6 ⟨⟨r, rfl, hr⟩, hb⟩
        obtain rfl := hr.2 HL.out
        have HB6 := Lib.hid (HB5.out.trans (hb.mono HB5.out.size))
        clear hb hr
        go_wp2
        go_ret
        exact ⟨rfl, HB6.out⟩
    · obtain rfl := o1 hE0
      have n1 : (E != 0) = true := by rw [bne_iff_ne]; exact hE0
      obtain ⟨b0, b1, b2, b3, b4⟩ := BX.out _ HX3.out
      clear o1 o2 o3 hE0
      go_wp2_with fail
      refine (C1.out _ (HI.out.on HB3.out)).mono ?_
      rintro e w4 ⟨rfl, hb⟩
      have HB4 := Lib.hid (HB3.out.trans (hb.mono HB3.out.size))
      clear hb
      go_wp2
      go_ret
      exact ⟨rfl, HB4.out⟩
end Go.Proofs.Ytnopcnbeklbfoaa

/-! Layer 3: the document's answer whether two nodes, and all below them, are the same. -/
namespace Go.Proofs.Ytnopcnbeklbfoaa
open Go.RowKit
set_option linter.unusedVariables false
set_option linter.unusedSimpArgs false
attribute [local go_sem ↓] Go.wp_at_zero Go.wp_at_succ

theorem below_drewN {B : Nat} {a w : World} (h : Below B a w) (n : Nat) : Below B a (w.drewN n) := ⟨h.os, h.tape, h.output, h.size, h.block⟩

set_option maxHeartbeats 4000000 in
theorem refsame_any : ∀ (n m : Nd) (w : World), n.In w w.heap.size → m.In w w.heap.size → ∀ r : Bool, sameB n m = r → Calls Try.prog 38 #[n.val, m.val] w fun e w' => e = .returned (.bool r) ∧ Below w.heap.size w w' := by
  refine Nd.ind ?_
  intro n ih m w hn hm r hr
  have HI := Lib.hid hn
  have HJ := Lib.hid hm
  have HR := Lib.hid ((sameB_mk n m).symm.trans hr)
  have IH := Lib.hid ih
  obtain ⟨hl1, hm1⟩ := hn.plen
  obtain ⟨hl2, hm2⟩ := hn.klen
  clear hn hm hr ih
  obtain ⟨nm, pa, pc, ps, ka, kc, ks⟩ := n
  obtain ⟨nm', pa', pc', ps', ka', kc', ks'⟩ := m
  replace hl1 : ps.length ≤ pc := hl1
  replace hm1 : pc ≤ 9223372036854775807 := hm1
  replace hl2 : ks.length ≤ kc := hl2
  replace hm2 : kc ≤ 9223372036854775807 := hm2
  replace HR : Hid ((decide (nm = nm') && all2 sameP ps ps' && all2 sameB ks ks') = r) := HR
  show Calls _ _ #[.agg #[.string nm, .slice pa ps.length pc, .slice ka ks.length kc], .agg #[.string nm', .slice pa' ps'.length pc', .slice ka' ks'.length kc']] _ _
  have HW := Lib.hid (((Below.refl w.heap.size w).alloc (Nat.le_refl _) (.cells #[Value.string nm, .slice pa ps.length pc, .slice ka ks.length kc] 38)).alloc (by simp) (.cells #[Value.string nm', .slice pa' ps'.length pc', .slice ka' ks'.length kc'] 38))
  by_cases hnm : nm = nm'
  · have hn1 : (nm.toList == nm'.toList) = true := by rw [str_eqb, decide_eq_true hnm]
    by_cases hlp : ps.length = ps'.length
    · have p1 : ((ps.length : Int) == (ps'.length : Int)) = true := by rw [hlp]; simp
      have p2 : ((ps.length : Int) != (ps'.length : Int)) = false := by rw [hlp]; simp
      have HLP := Lib.hid hlp
      clear hlp
      by_cases hlk : ks.length = ks'.length
      · have k1 : ((ks.length : Int) == (ks'.length : Int)) = true := by rw [hlk]; simp
        have k2 : ((ks.length : Int) != (ks'.length : Int)) = false := by rw [hlk]; simp
        have HR' : Hid ((all2 sameP ps ps' && all2 sameB ks ks') = r) := by
          have := HR.out
          rwa [decide_eq_true hnm, Bool.true_and] at this
        have HLK := Lib.hid hlk
        clear hnm hlk HR
        go_enter Try.func38, Try.ntmps38
        go_wp2_with fail
        go_loopw [33] (fun i wr => ∃ k : Nat, k ≤ ps.length ∧ i = .int .i64 k ∧ Even sameP ps ps' k ∧ Below (w.heap.size + 2) ((w.alloc (.cells #[Value.string nm, .slice pa ps.length pc, .slice ka ks.length kc] 38)).alloc (.cells #[Value.string nm', .slice pa' ps'.length pc', .slice ka' ks'.length kc'] 38)) wr) (fun i _ => ps.length - (intOf i).toNat)
        case atStart => exact ⟨0, Nat.zero_le _, rfl, Even.zero _ _ _, Below.refl _ _⟩
        case round =>
          obtain ⟨k, hk, rfl, hev, hb⟩ := hrel
          have HE := Lib.hid hev
          have HB0 := Lib.hid hb
          have HB := Lib.hid (HW.out.trans (hb.mono (by omega)))
          clear hev hb
          by_cases hlt : k < ps.length
          · have hlt' : k < ps'.length := by rw [← HLP.out]; exact hlt
            have HV := Lib.hid (((HI.out.prop (List.getElem_mem hlt)).keep (fun _ hp => HB.out.cell hp)).2.1)
            have HV' := Lib.hid (((HJ.out.prop (List.getElem_mem hlt')).keep (fun _ hp => HB.out.cell hp)).2.1)
            obtain ⟨b, o, e, hb, c0, c1⟩ := (HI.out.under HB.out).pcell (i := k) hlt
            obtain rfl : pa = _ := e
            replace c0 : _ = some (Value.string ps[k].name) := c0
            replace c1 : _ = some (Value.slice ps[k].addr ps[k].zs.length ps[k].cap) := c1
            obtain ⟨b', o', e', hb', d0, d1⟩ := (HJ.out.under HB.out).pcell (i := k) hlt'
            obtain rfl : pa' = _ := e'
            replace d0 : _ = some (Value.string ps'[k].name) := d0
            replace d1 : _ = some (Value.slice ps'[k].addr ps'[k].zs.length ps'[k].cap) := d1
            have x1 : wr.cell? ⟨w.heap.size, 1, none⟩ = some (.slice (some ⟨b, o, none⟩) ps.length pc) := (HB0.out.cell (by simp)).trans (World.cell?_alloc2_first _ _ _ _)
            have y1 : wr.cell? ⟨w.heap.size + 1, 1, none⟩ = some (.slice (some ⟨b', o', none⟩) ps'.length pc') := (HB0.out.cell (by simp)).trans (World.cell?_alloc2_new _ _ _ _)
            by_cases hpn : ps[k].name = ps'[k].name
            · have hpn1 : (ps[k].name.toList == ps'[k].name.toList) = true := by rw [str_eqb, decide_eq_true hpn]
              have f1 : ∀ j, (convert 26 9 (.slice ps[k].addr ps[k].zs.length ps[k].cap)).run Try.prog (wr.drewN j) = .ok (.string (strOfNums ps[k].zs)) (wr.drewN j) := fun j => run_string (HV.out.drewN j) _
              have f2 : ∀ j, (convert 26 9 (.slice ps'[k].addr ps'[k].zs.length ps'[k].cap)).run Try.prog (wr.drewN j) = .ok (.string (strOfNums ps'[k].zs)) (wr.drewN j) := fun j => run_string (HV'.out.drewN j) _
              obtain ⟨q, hq⟩ : ∃ q, ((strOfNums ps[k].zs).toList == (strOfNums ps'[k].zs).toList) = q := ⟨_, rfl⟩
              have HQ : Hid (sameP ps[k] ps'[k] = q) := by
                show sameP _ _ = _
                rw [← hq, sameP, decide_eq_true hpn, Bool.true_and, str_eqz HV.out.2.1 HV'.out.2.1]
              clear hpn
              cases q
              · obtain rfl : r = false := by rw [← HR'.out, all2_bad k hlt hlt' HQ.out]; rfl
                go_wp2_with fail
                go_quiet (fail)
                go_wp2
                go_ret
                exact ⟨rfl, below_drewN HB.out _⟩
              · go_wp2_with fail
                go_quiet (fail)
                go_wp2
                go_roundw
                case rel => exact ⟨k + 1, by omega, by go_num, HE.out.succ hlt hlt' HQ.out, below_drewN HB0.out _⟩
                case measure => simp [intOf]; omega
            · have hpn1 : (ps[k].name.toList == ps'[k].name.toList) = false := by rw [str_eqb, decide_eq_false hpn]
              obtain rfl : r = false := by rw [← HR'.out, all2_bad k hlt hlt' (by rw [sameP, decide_eq_false hpn]; rfl)]; rfl
              clear hpn
              go_wp2_with fail
              go_quiet (fail)
              go_wp2
              go_ret
              exact ⟨rfl, below_drewN HB.out _⟩
          · have HT : Hid (all2 sameB ks ks' = r) := by
              have := HR'.out
              rw [HE.out.all HLP.out hlt, Bool.true_and] at this
              exact this
            have x2 : wr.cell? ⟨w.heap.size, 2, none⟩ = some (.slice ka ks.length kc) := (HB0.out.cell (by simp)).trans (World.cell?_alloc2_first _ _ _ _)
            go_wp2_with fail
            clear x2
            go_loopw [70] (fun i wr => ∃ k : Nat, k ≤ ks.length ∧ i = .int .i64 k ∧ Even sameB ks ks' k ∧ Below (w.heap.size + 2) ((w.alloc (.cells #[Value.string nm, .slice pa ps.length pc, .slice ka ks.length kc] 38)).alloc (.cells #[Value.string nm', .slice pa' ps'.length pc', .slice ka' ks'.length kc'] 38)) wr) (fun i _ => ks.length - (intOf i).toNat)
            case atStart => exact ⟨0, Nat.zero_le _, rfl, Even.zero _ _ _, HB0.out⟩
            case round =>
              clear HE HB0 HB
              obtain ⟨k, hk, rfl, hev, hb⟩ := hrel
              have HE := Lib.hid hev
              have HB0 := Lib.hid hb
              have HB := Lib.hid (HW.out.trans (hb.mono (by omega)))
              clear hev hb
              by_cases hlt : k < ks.length
              · have hlt' : k < ks'.length := by rw [← HLK.out]; exact hlt
                obtain ⟨b, o, e, hb, c0, c1, c2⟩ := (HI.out.under HB.out).kcell (i := k) hlt
                obtain rfl : ka = _ := e
                replace c0 : _ = some (Value.string ks[k].name) := c0
                replace c1 : _ = some (Value.slice ks[k].pa ks[k].props.length ks[k].pc) := c1
                replace c2 : _ = some (Value.slice ks[k].ka ks[k].kids.length ks[k].kc) := c2
                obtain ⟨b', o', e', hb', d0, d1, d2⟩ := (HJ.out.under HB.out).kcell (i := k) hlt'
                obtain rfl : ka' = _ := e'
                replace d0 : _ = some (Value.string ks'[k].name) := d0
                replace d1 : _ = some (Value.slice ks'[k].pa ks'[k].props.length ks'[k].pc) := d1
                replace d2 : _ = some (Value.slice ks'[k].ka ks'[k].kids.length ks'[k].kc) := d2
                have x2 : wr.cell? ⟨w.heap.size, 2, none⟩ = some (.slice (some ⟨b, o, none⟩) ks.length kc) := (HB0.out.cell (by simp)).trans (World.cell?_alloc2_first _ _ _ _)
                have y2 : wr.cell? ⟨w.heap.size + 1, 2, none⟩ = some (.slice (some ⟨b', o', none⟩) ks'.length kc') := (HB0.out.cell (by simp)).trans (World.cell?_alloc2_new _ _ _ _)
                obtain ⟨q, hq⟩ : ∃ q, sameB ks[k] ks'[k] = q := ⟨_, rfl⟩
                have C := Lib.hid (IH.out ks[k] (List.getElem_mem hlt) ks'[k] wr.drew (((HI.out.kid (List.getElem_mem hlt)).under HB.out.drew).more HB.out.size) (((HJ.out.kid (List.getElem_mem hlt')).under HB.out.drew).more HB.out.size) q hq)
                have HQ := Lib.hid hq
                clear hq
                go_wp2_with fail
                refine wp_region_held_drew (S := fun W => W.cell? ⟨w.heap.size, 2, none⟩ = some (.slice (some ⟨b, o, none⟩) ks.length kc) ∧ W.cell? ⟨w.heap.size + 1, 2, none⟩ = some (.slice (some ⟨b', o', none⟩) ks'.length kc') ∧ W.cell? ⟨b, o + k * 3, none⟩ = some (.string ks[k].name) ∧ W.cell? ⟨b, o + k * 3 + 1, none⟩ = some (.slice ks[k].pa ks[k].props.length ks[k].pc) ∧ W.cell? ⟨b, o + k * 3 + 2, none⟩ = some (.slice ks[k].ka ks[k].kids.length ks[k].kc) ∧ W.cell? ⟨b', o' + k * 3, none⟩ = some (.string ks'[k].name) ∧ W.cell? ⟨b', o' + k * 3 + 1, none⟩ = some (.slice ks'[k].pa ks'[k].props.length ks'[k].pc) ∧ W.cell? ⟨b', o' + k * 3 + 2, none⟩ = some (.slice ks'[k].ka ks'[k].kids.length ks'[k].kc)) (by kernel_rfl) ⟨x2, y2, c0, c1, c2, d0, d1, d2⟩ (fun hHeld => ?_)
                refine held_take 0 rfl (by kernel_rfl) (by kernel_rfl) (by kernel_rfl) (fun _ _ _ h => h) (by rfl) hHeld (v := ?_) (fun w hSw => ?_) (fun _ => ?_)
                rotate_left
                · ((try dsimp only at hSw); go_simp; (try with_reducible rfl))
                simp only [Act.put, List.setIfInBounds_toArray, List.set_cons_zero, List.set_cons_succ]
                refine held_take 1 rfl (by kernel_rfl) (by kernel_rfl) (by kernel_rfl) (fun _ _ _ h => h) (by rfl) hHeld (v := ?_) (fun w hSw => ?_) (fun _ => ?_)
                rotate_left
                · ((try dsimp only at hSw); go_simp; (try with_reducible rfl))
                simp only [Act.put, List.setIfInBounds_toArray, List.set_cons_zero, List.set_cons_succ]
                refine held_take 2 rfl (by kernel_rfl) (by kernel_rfl) (by kernel_rfl) (fun _ _ _ h => h) (by rfl) hHeld (v := ?_) (fun w hSw => ?_) (fun _ => ?_)
                rotate_left
                · ((try dsimp only at hSw); go_simp; (try with_reducible rfl))
                simp only [Act.put, List.setIfInBounds_toArray, List.set_cons_zero, List.set_cons_succ]
                refine held_take 3 rfl (by kernel_rfl) (by kernel_rfl) (by kernel_rfl) (fun _ _ _ h => h) (by rfl) hHeld (v := ?_) (fun w hSw => ?_) (fun _ => ?_)
                rotate_left
                · ((try dsimp only at hSw); go_simp; (try with_reducible rfl))
                simp only [Act.put, List.setIfInBounds_toArray, List.set_cons_zero, List.set_cons_succ]
                refine held_take 4 rfl (by kernel_rfl) (by kernel_rfl) (by kernel_rfl) (fun _ _ _ h => h) (by rfl) hHeld (v := ?_) (fun w hSw => ?_) (fun _ => ?_)
                rotate_left
                · ((try dsimp only at hSw); go_simp; (try with_reducible rfl))
                simp only [Act.put, List.setIfInBounds_toArray, List.set_cons_zero, List.set_cons_succ]
                refine held_take 5 rfl (by kernel_rfl) (by kernel_rfl) (by kernel_rfl) (fun _ _ _ h => h) (by rfl) hHeld (v := ?_) (fun w hSw => ?_) (fun _ => ?_)
                rotate_left
                · ((try dsimp only at hSw); go_simp; (try with_reducible rfl))
                simp only [Act.put, List.setIfInBounds_toArray, List.set_cons_zero, List.set_cons_succ]
                refine held_take 6 rfl (by kernel_rfl) (by kernel_rfl) (by kernel_rfl) (fun _ _ _ h => h) (by rfl) hHeld (v := ?_) (fun w hSw => ?_) (fun _ => ?_)
                rotate_left
                · ((try dsimp only at hSw); go_simp; (try with_reducible rfl))
                simp only [Act.put, List.setIfInBounds_toArray, List.set_cons_zero, List.set_cons_succ]
                refine held_take 7 rfl (by kernel_rfl) (by kernel_rfl) (by kernel_rfl) (fun _ _ _ h => h) (by rfl) hHeld (v := ?_) (fun w hSw => ?_) (fun _ => ?_)
                rotate_left
                · ((try dsimp only at hSw); go_simp; (try with_reducible rfl))
                simp only [Act.put, List.setIfInBounds_toArray, List.set_cons_zero, List.set_cons_succ]
                refine held_take 8 rfl (by kernel_rfl) (by kernel_rfl) (by kernel_rfl) (fun _ _ _ h => h) (by rfl) hHeld (v := ?_) (fun w hSw => ?_) (fun _ => ?_)
                rotate_left
                · ((try dsimp only at hSw); go_simp; (try with_reducible rfl))
                simp only [Act.put, List.setIfInBounds_toArray, List.set_cons_zero, List.set_cons_succ]
                refine held_take 9 rfl (by kernel_rfl) (by kernel_rfl) (by kernel_rfl) (fun _ _ _ h => h) (by rfl) hHeld (v := ?_) (fun w hSw => ?_) (fun _ => ?_)
                rotate_left
                · ((try dsimp only at hSw); go_simp; (try with_reducible rfl))
                simp only [Act.put, List.setIfInBounds_toArray, List.set_cons_zero, List.set_cons_succ]
                refine held_call 10 (by kernel_rfl) rfl (by rfl) (fun K hK => ?_)
                go_simp
                refine C.out.mono ?_
                rintro e w4 ⟨rfl, hb4⟩
                have ko : ∀ {a : Addr} {v : Value}, wr.cell? a = some v → w4.cell? a = some v := fun {a v} h => (hb4.cell (p := a) (World.block_lt_of_cell? wr _ h)).trans h
                dsimp only
                refine hK.out _ _ ⟨ko x2, ko y2, ko c0, ko c1, ko c2, ko d0, ko d1, ko d2⟩ (fun hHeld => ?_)
                clear hK K
                refine held_take 11 rfl (by kernel_rfl) (by kernel_rfl) (by kernel_rfl) (fun _ _ _ h => h) (by rfl) hHeld (v := ?_) (fun w hSw => ?_) (fun _ => ?_)
                rotate_left
                · ((try dsimp only at hSw); go_simp; (try with_reducible rfl))
                simp only [Act.put, List.setIfInBounds_toArray, List.set_cons_zero, List.set_cons_succ]
                refine wpAnyH_done (by kernel_rfl) ?_ _
                clear hHeld x2 y2 c0 c1 c2 d0 d1 d2 ko
                have HB3 := Lib.hid (HB0.out.trans (Below.trans (Below.drew (Below.refl _ wr)) (hb4.mono (by have := HB0.out.size; simpa using this))))
                clear hb4
                cases q
                · obtain rfl : r = false := by rw [← HT.out]; exact all2_bad k hlt hlt' HQ.out
                  go_wp2
                  go_ret
                  exact ⟨rfl, HW.out.trans (HB3.out.mono (by omega))⟩
                · go_wp2
                  go_roundw
                  case rel => exact ⟨k + 1, by omega, by go_num, HE.out.succ hlt hlt' HQ.out, HB3.out⟩
                  case measure => simp [intOf]; omega
              · obtain rfl : r = true := by rw [← HT.out]; exact HE.out.all HLK.out hlt
                go_wp2
                go_ret
                exact ⟨rfl, HB.out⟩
      · obtain rfl : r = false := by rw [← HR.out, all2_lens hlk, Bool.and_false]
        have k1 : ((ks.length : Int) == (ks'.length : Int)) = false := by rw [beq_eq_false_iff_ne]; omega
        have k2 : ((ks.length : Int) != (ks'.length : Int)) = true := by rw [bne, k1]; rfl
        clear hnm
        go_enter Try.func38, Try.ntmps38
        go_wp2
        go_ret
        exact ⟨rfl, HW.out⟩
    · obtain rfl : r = false := by rw [← HR.out, all2_lens hlp, Bool.and_false]; rfl
      have k1 : ((ps.length : Int) == (ps'.length : Int)) = false := by rw [beq_eq_false_iff_ne]; omega
      have k2 : ((ps.length : Int) != (ps'.length : Int)) = true := by rw [bne, k1]; rfl
      clear hnm
      go_enter Try.func38, Try.ntmps38
      go_wp2
      go_ret
      exact ⟨rfl, HW.out⟩
  · have hn1 : (nm.toList == nm'.toList) = false := by rw [str_eqb, decide_eq_false hnm]
    obtain rfl : r = false := by rw [← HR.out, decide_eq_false hnm]; rfl
    clear hnm
    go_enter Try.func38, Try.ntmps38
    go_wp2
    go_ret
    exact ⟨rfl, HW.out⟩
end Go.Proofs.Ytnopcnbeklbfoaa

/-! Whether two trees are the same: the document's answer. -/
namespace Go.Proofs.Ytnopcnbeklbfoaa
open Go.RowKit
set_option linter.unusedVariables false
set_option linter.unusedSimpArgs false

set_option maxHeartbeats 4000000 in
theorem reftree_any (t u : Tr) (w : World) (hin : t.In w w.heap.size) (hjn : u.In w w.heap.size) (r : Bool) (hr : sameT t u = r) :
    Calls Try.prog 20 #[t.val, u.val] w fun e w' => e = .returned (.bool r) ∧ Below w.heap.size w w' := by
  obtain ⟨r2, h2⟩ : ∃ r2, sameB t.root u.root = r2 := ⟨_, rfl⟩
  have HR : Hid ((decide (t.boot = u.boot) && all2 sameR t.rs u.rs && r2) = r) := by rw [← h2]; exact hr
  have C2 := Lib.hid (fun w h1' h2' => refsame_any t.root u.root w h1' h2' r2 h2)
  have HI := Lib.hid hin
  have HJ := Lib.hid hjn
  obtain ⟨hl, hm, _⟩ := hin.len
  clear hin hjn hr h2
  obtain ⟨boot, ra, rc, rs, ⟨nm, pa, pc, ps, ka, kc, ks⟩⟩ := t
  obtain ⟨boot', ra', rc', rs', ⟨nm', pa', pc', ps', ka', kc', ks'⟩⟩ := u
  replace hl : rs.length ≤ rc := hl
  replace hm : rc ≤ 9223372036854775807 := hm
  replace HR : Hid ((decide (boot = boot') && all2 sameR rs rs' && r2) = r) := HR
  show Calls _ _ #[.agg #[.int .u32 boot, .slice ra rs.length rc, .string nm, .slice pa ps.length pc, .slice ka ks.length kc], .agg #[.int .u32 boot', .slice ra' rs'.length rc', .string nm', .slice pa' ps'.length pc', .slice ka' ks'.length kc']] _ _
  have HW := Lib.hid (((Below.refl w.heap.size w).alloc (Nat.le_refl _) (.cells #[Value.int .u32 boot, .slice ra rs.length rc, .string nm, .slice pa ps.length pc, .slice ka ks.length kc] 40)).alloc (by simp) (.cells #[Value.int .u32 boot', .slice ra' rs'.length rc', .string nm', .slice pa' ps'.length pc', .slice ka' ks'.length kc'] 40))
  by_cases hbo : boot = boot'
  · have b1 : (boot == boot') = true := by rw [hbo]; simp
    have b2 : (boot != boot') = false := by rw [hbo]; simp
    by_cases hle : rs.length = rs'.length
    · have HL := Lib.hid hle
      have hL1 : ((rs.length : Int) == (rs'.length : Int)) = true := by rw [hle]; simp
      have hL2 : ((rs.length : Int) != (rs'.length : Int)) = false := by rw [hle]; simp
      have HR' : Hid ((all2 sameR rs rs' && r2) = r) := by have := HR.out; rwa [decide_eq_true hbo, Bool.true_and] at this
      clear hle hbo
      go_enter Try.func20, Try.ntmps20
      go_wp2_with fail
      go_loopw [23] (fun i wr => ∃ k : Nat, k ≤ rs.length ∧ i = .int .i64 k ∧ Even sameR rs rs' k ∧ Below (w.heap.size + 2) ((w.alloc (.cells #[Value.int .u32 boot, .slice ra rs.length rc, .string nm, .slice pa ps.length pc, .slice ka ks.length kc] 40)).alloc (.cells #[Value.int .u32 boot', .slice ra' rs'.length rc', .string nm', .slice pa' ps'.length pc', .slice ka' ks'.length kc'] 40)) wr) (fun i _ => rs.length - (intOf i).toNat)
      case atStart => exact ⟨0, Nat.zero_le _, rfl, Even.zero _ _ _, Below.refl _ _⟩
      case round =>
        obtain ⟨k, hk, rfl, hev, hb⟩ := hrel
        have HE := Lib.hid hev
        have HB0 := Lib.hid hb
        have HB := Lib.hid (HW.out.trans (hb.mono (by omega)))
        have x1 : wr.cell? ⟨w.heap.size, 1, none⟩ = some (.slice ra rs.length rc) := (hb.cell (by simp)).trans (World.cell?_alloc2_first _ _ _ _)
        have y1 : wr.cell? ⟨w.heap.size + 1, 1, none⟩ = some (.slice ra' rs'.length rc') := (hb.cell (by simp)).trans (World.cell?_alloc2_new _ _ _ _)
        clear hev hb
        by_cases hlt : k < rs.length
        · have hlt' : k < rs'.length := by rw [← HL.out]; exact hlt
          obtain ⟨b, o, e, hb, c0, c1⟩ := (HI.out.under HB.out).rcell (i := k) hlt
          obtain rfl : ra = _ := e
          replace c0 : _ = some (Value.int .u64 rs[k].1) := c0
          replace c1 : _ = some (Value.int .u64 rs[k].2) := c1
          obtain ⟨b', o', e', hb', d0, d1⟩ := (HJ.out.under HB.out).rcell (i := k) hlt'
          obtain rfl : ra' = _ := e'
          replace d0 : _ = some (Value.int .u64 rs'[k].1) := d0
          replace d1 : _ = some (Value.int .u64 rs'[k].2) := d1
          obtain ⟨x, hx⟩ : ∃ x, x = rs[k].1 := ⟨_, rfl⟩
          obtain ⟨y, hy⟩ : ∃ y, y = rs[k].2 := ⟨_, rfl⟩
          obtain ⟨x', hx'⟩ : ∃ x, x = rs'[k].1 := ⟨_, rfl⟩
          obtain ⟨y', hy'⟩ : ∃ y, y = rs'[k].2 := ⟨_, rfl⟩
          have HZ : Hid (sameR rs[k] rs'[k] = (decide (x = x') && decide (y = y'))) := by show sameR _ _ = _; rw [hx, hy, hx', hy']; rfl
          rw [← hx] at c0
          rw [← hy] at c1
          rw [← hx'] at d0
          rw [← hy'] at d1
          clear hx hy hx' hy'
          by_cases hx0 : x = x'
          · subst hx0
            by_cases hy0 : y = y'
            · subst hy0
              have HG : Hid (sameR rs[k] rs'[k] = true) := by have := HZ.out; show sameR _ _ = true; rw [this]; simp
              go_wp2_with fail
              go_region
              go_wp2
              go_roundw
              case rel => exact ⟨k + 1, by omega, by go_num, HE.out.succ hlt hlt' HG.out, HB0.out.drew⟩
              case measure => simp [intOf]; omega
            · obtain rfl : r = false := by rw [← HR'.out, all2_bad k hlt hlt' (by rw [HZ.out, decide_eq_false hy0, Bool.and_false])]; rfl
              go_wp2_with fail
              go_region
              go_wp2
              go_ret
              exact ⟨rfl, HB.out.drew⟩
          · obtain rfl : r = false := by rw [← HR'.out, all2_bad k hlt hlt' (by rw [HZ.out, decide_eq_false hx0]; rfl)]; rfl
            go_wp2_with fail
            go_region
            go_wp2
            go_ret
            exact ⟨rfl, HB.out.drew⟩
        · obtain rfl : r = r2 := by rw [← HR'.out, HE.out.all HL.out hlt]; rfl
          have x2 : wr.cell? ⟨w.heap.size, 2, none⟩ = some (.string nm) := (HB0.out.cell (by simp)).trans (World.cell?_alloc2_first _ _ _ _)
          have y2 : wr.cell? ⟨w.heap.size + 1, 2, none⟩ = some (.string nm') := (HB0.out.cell (by simp)).trans (World.cell?_alloc2_new _ _ _ _)
          have x3 : wr.cell? ⟨w.heap.size, 3, none⟩ = some (.slice pa ps.length pc) := (HB0.out.cell (by simp)).trans (World.cell?_alloc2_first _ _ _ _)
          have y3 : wr.cell? ⟨w.heap.size + 1, 3, none⟩ = some (.slice pa' ps'.length pc') := (HB0.out.cell (by simp)).trans (World.cell?_alloc2_new _ _ _ _)
          have x4 : wr.cell? ⟨w.heap.size, 4, none⟩ = some (.slice ka ks.length kc) := (HB0.out.cell (by simp)).trans (World.cell?_alloc2_first _ _ _ _)
          have y4 : wr.cell? ⟨w.heap.size + 1, 4, none⟩ = some (.slice ka' ks'.length kc') := (HB0.out.cell (by simp)).trans (World.cell?_alloc2_new _ _ _ _)
          go_wp2_with fail
          refine (C2.out _ ((HI.out.on HB.out).root) ((HJ.out.on HB.out).root)).mono ?_
          rintro e w2 ⟨rfl, hb⟩
          have HB2 := Lib.hid (HB.out.trans (hb.mono HB.out.size))
          clear hb
          go_wp2
          go_ret
          exact ⟨rfl, HB2.out⟩
    · obtain rfl : r = false := by rw [← HR.out, all2_lens hle, Bool.and_false]; rfl
      have hL1 : ((rs.length : Int) == (rs'.length : Int)) = false := by rw [beq_eq_false_iff_ne]; omega
      have hL2 : ((rs.length : Int) != (rs'.length : Int)) = true := by rw [bne, hL1]; rfl
      clear hbo
      go_enter Try.func20, Try.ntmps20
      go_wp2
      go_ret
      exact ⟨rfl, HW.out⟩
  · obtain rfl : r = false := by rw [← HR.out, decide_eq_false hbo]; rfl
    have b1 : (boot == boot') = false := by rw [beq_eq_false_iff_ne]; exact hbo
    have b2 : (boot != boot') = true := by rw [bne, b1]; rfl
    clear hbo
    go_enter Try.func20, Try.ntmps20
    go_wp2
    go_ret
    exact ⟨rfl, HW.out⟩
end Go.Proofs.Ytnopcnbeklbfoaa

/-! Layer 5, EncodeBack: what is encoded is decoded as the same. -/
namespace Go.Proofs.Ytnopcnbeklbfoaa
open Go.RowKit
set_option linter.unusedVariables false
set_option linter.unusedSimpArgs false

set_option maxRecDepth 20000 in
set_option maxHeartbeats 8000000 in
theorem encodeBack_true (t : Tr) (w : World) (hin : t.In w w.heap.size) (hheft : heftN t.root ≤ 268435456) :
    Calls Try.prog 6 #[t.val] w fun e w' => e = .returned (.bool true) ∧ Below w.heap.size w w' := by
  obtain ⟨E, hE⟩ : ∃ E, checkE t = E := ⟨_, rfl⟩
  obtain ⟨BT, hBT⟩ : ∃ BT, blobT t = BT := ⟨_, rfl⟩
  have C0 := Lib.hid (fun w h => few_any t w h)
  have CS := Lib.hid (fun u w h k (hs : sameT t u = true) => reftree_any t u w h k true hs)
  have C3 := Lib.hid (fun w h => (encode_any t w h hheft).mono fun e w' (h : EncOut t e w' ∧ _) => show ((E ≠ 0 → e = .returned (.tuple #[.slice none 0 0, .int .i64 E])) ∧ (E = 0 → 1048576 < BT.length → e = .returned (.tuple #[.slice none 0 0, .int .i64 7])) ∧ (E = 0 → BT.length ≤ 1048576 → ∃ A c, e = .returned (.tuple #[.slice A BT.length c, .int .i64 0]) ∧ Shows w' w'.heap.size A BT.length BT ∧ BT.length ≤ c ∧ c ≤ 9223372036854775807)) ∧ Below w.heap.size w w' from by
    rw [← hE, ← hBT]; exact h)
  have LP := Lib.hid (fun (h0 : E = 0) (hl : BT.length ≤ 1048576) => show ReadT BT t from by rw [← hBT]; exact read_own hin.boot hin.pos (hE.trans h0) (by rw [hBT]; exact hl))
  have LS := Lib.hid (fun (u : Tr) (h : ReadT BT t) (k : ReadT BT u) => show sameT t u = true from by obtain ⟨a, b, c⟩ := h.one k; exact sameT_pure a b c)
  have HI := Lib.hid hin
  clear hE hin hheft hBT
  obtain ⟨boot, ra, rc, rs, ⟨nm, pa, pc, ps, ka, kc, ks⟩⟩ := t
  simp only [Tr.val, Tr.rv, Nd.pv, Nd.kv, Nd.name, Nd.pa, Nd.pc, Nd.props, Nd.ka, Nd.kc, Nd.kids] at C0 C3 ⊢
  have HB := Lib.hid ((Below.refl w.heap.size w).alloc (Nat.le_refl _) (.cells #[.int .u32 boot, .slice ra rs.length rc, .string nm, .slice pa ps.length pc, .slice ka ks.length kc] 40))
  have BX := Lib.hid (box_cells w (.int .u32 boot) (.slice ra rs.length rc) (.string nm) (.slice pa ps.length pc) (.slice ka ks.length kc))
  go_enter Try.func6, Try.ntmps6
  go_wp2_with fail
  refine (awake5 _).mono ?_
  rintro e w1 ⟨rfl, hb⟩
  have HB1 := Lib.hid (HB.out.trans (hb.mono HB.out.size))
  have HX1 := Lib.hid (hb.mono (B' := w.heap.size + 1) (by simp))
  obtain ⟨b0, b1, b2, b3, b4⟩ := BX.out _ HX1.out
  clear hb
  go_wp2_with fail
  refine (C0.out _ (HI.out.on HB1.out)).mono ?_
  rintro e w2 ⟨⟨r, rfl⟩, hb⟩
  have HB2 := Lib.hid (HB1.out.trans (hb.mono HB1.out.size))
  have HX2 := Lib.hid (HX1.out.trans (hb.mono (by have := HX1.out.size; simpa using this)))
  clear hb b0 b1 b2 b3 b4
  cases r
  · go_wp2_with fail
    refine (awake5 _).mono ?_
    rintro e w3 ⟨rfl, hb⟩
    have HB3 := Lib.hid (HB2.out.trans (hb.mono HB2.out.size))
    clear hb
    go_wp2
    go_ret
    exact ⟨rfl, HB3.out⟩
  · obtain ⟨b0, b1, b2, b3, b4⟩ := BX.out _ HX2.out
    go_wp2_with fail
    refine (C3.out _ (HI.out.on HB2.out)).mono ?_
    rintro e w3 ⟨⟨o1, o2, o3⟩, hb⟩
    have HB3 := Lib.hid (HB2.out.trans (hb.mono HB2.out.size))
    have HX3 := Lib.hid (HX2.out.trans (hb.mono (by have := HX2.out.size; simpa using this)))
    clear hb b0 b1 b2 b3 b4
    by_cases hE0 : E = 0
    · subst hE0
      by_cases hbig : 1048576 < BT.length
      · obtain rfl := o2 rfl hbig
        clear o1 o2 o3 hbig
        go_wp2
        go_ret
        exact ⟨rfl, HB3.out⟩
      · obtain ⟨A, c, rfl, hs, hc, hc'⟩ := o3 rfl (by omega)
        have HL := Lib.hid (LP.out rfl (by omega))
        have CD := Lib.hid (decode_any A BT.length c BT w3 hs hc hc')
        clear o1 o2 o3 hs hbig
        go_wp2_with fail
        refine CD.out.mono ?_
        rintro e w4 ⟨⟨E', _, _, hno⟩ | ⟨tr, hin4, hrd, rfl⟩, hb⟩
        · exact absurd HL.out (hno _)
        have HST := Lib.hid (LS.out tr HL.out hrd)
        have CS4 := Lib.hid (fun W h k => CS.out tr W h k HST.out)
        have HB4 := Lib.hid (HB3.out.trans (hb.mono HB3.out.size))
        have HX4 := Lib.hid (HX3.out.trans (hb.mono (by have := HX3.out.size; simpa using this)))
        have HI4 := Lib.hid hin4
        clear hb hin4 hrd
        obtain ⟨boot', ra', rc', rs', ⟨nm', pa', pc', ps', ka', kc', ks'⟩⟩ := tr
        simp only [Tr.val, Tr.rv, Nd.pv, Nd.kv, Nd.name, Nd.pa, Nd.pc, Nd.props, Nd.ka, Nd.kc, Nd.kids] at CS CS4 ⊢
        have HN := Lib.hid ((Below.refl w4.heap.size w4).alloc (Nat.le_refl _) (.cells #[.int .u32 boot', .slice ra' rs'.length rc', .string nm', .slice pa' ps'.length pc', .slice ka' ks'.length kc'] 40))
        have HB5 := Lib.hid (HB4.out.trans (HN.out.mono HB4.out.size))
        have HX5 := Lib.hid (HX4.out.trans (HN.out.mono (by have := HX4.out.size; simpa using this)))
        obtain ⟨b0, b1, b2, b3, b4⟩ := BX.out _ HX5.out
        obtain ⟨c0, c1, c2, c3, c4⟩ := box_cells w4 (.int .u32 boot') (.slice ra' rs'.length rc') (.string nm') (.slice pa' ps'.length pc') (.slice ka' ks'.length kc') _ (Below.refl _ _)
        go_wp2_with fail
        refine (CS4.out _ (HI.out.on HB5.out) (HI4.out.on HN.out)).mono ?_
        rintro e w6 ⟨rfl, hb⟩
        have HB6 := Lib.hid (HB5.out.trans (hb.mono HB5.out.size))
        clear hb b0 b1 b2 b3 b4 c0 c1 c2 c3 c4
        go_wp2
        go_ret
        exact ⟨rfl, HB6.out⟩
    · obtain rfl := o1 hE0
      have n1 : (E != 0) = true := by rw [bne_iff_ne]; exact hE0
      clear o1 o2 o3 hE0
      go_wp2
      go_ret
      exact ⟨rfl, HB3.out⟩
end Go.Proofs.Ytnopcnbeklbfoaa

/-! Layer 3, a tree that came in: how heavy it is, by the bulk of what it reads as. -/
namespace Go.Proofs.Ytnopcnbeklbfoaa
open Go.RowKit Go.ChangeShapes Go.WideShapes Go.Deep
set_option linter.unusedVariables false
set_option linter.unusedSimpArgs false

theorem bulk_one {H : Type} (d : DataW H) : 1 ≤ Rows.uptoBulk d := by
  cases d with
  | lit l => cases l <;> simp [Rows.uptoBulk]
  | nil => simp [Rows.uptoBulk]
  | ptr d => simp [Rows.uptoBulk]
  | slice elems spare => simp [Rows.uptoBulk]
  | agg parts => simp [Rows.uptoBulk]
  | iface t d => simp [Rows.uptoBulk]
  | map entries => simp [Rows.uptoBulk]
  | held h => simp [Rows.uptoBulk]
theorem bulk_length {H : Type} (l : List (DataW H)) : l.length ≤ Rows.uptoBulkAll l := by
  induction l with
  | nil => simp [Rows.uptoBulkAll]
  | cons x r ih => have := bulk_one x; simp only [Rows.uptoBulkAll, List.length_cons]; omega
theorem sixteen {α : Type} : ∀ l : List α, (l.map (fun _ => 16)).sum = 16 * l.length
  | [] => rfl
  | x :: l => by rw [List.map_cons, List.sum_cons, sixteen l, List.length_cons]; omega
theorem bulk_sum {H : Type} {α : Type} (g : α → Nat) (F : Nat → α) (D : Nat → DataW H) : ∀ l : List Nat, (∀ i ∈ l, g (F i) ≤ 16 * Rows.uptoBulk (D i)) → ((l.map F).map g).sum ≤ 16 * Rows.uptoBulkAll (l.map D)
  | [], _ => by simp
  | i :: l, h => by
    have h1 := h i (by simp)
    have h2 := bulk_sum g F D l (fun j hj => h j (by simp [hj]))
    simp only [List.map_cons, List.sum_cons, Rows.uptoBulkAll]
    omega

section
variable {H : Type} {enc : TypeId × Value → H} {w : World} {base : Nat} {spare : Nat → Bool} {held : Bool}

set_option maxRecDepth 100000 in
theorem bulk_pv {fuel : Nat} {cs : List Value} {x : DataW H × List MemPlace} (h : DataW.trod enc Try.prog w base spare held fuel 52 cs = some x) (hw : ∀ z ∈ DataW.weights Try.prog 52 x.1, z ≤ 140737488351232) :
    ∃ p : PV, cs = [.string p.name, p.val] ∧ p.In w w.heap.size ∧ heftP p ≤ 16 * Rows.uptoBulk x.1 := by
  obtain ⟨y0, y1, n, rfl, hl, h0, h1⟩ := trod_struct2 Try.underlying52 h
  rw [Try.cellsProp] at hl
  obtain ⟨c0, c1, rfl⟩ : ∃ c0 c1, cs = [c0, c1] := by
    exact two_of hl
  rw [Try.cellsStr] at h0
  rw [Try.cellsBytes] at h1
  obtain ⟨s, e0, rfl, hs⟩ := DataW.trod_string Try.underlying9 h0
  simp only [List.drop_zero, List.take_succ_cons, List.take_zero, List.cons.injEq, and_true] at e0
  subst e0
  have hs' : s.size ≤ 140737488351232 := hw s.size (by
    simp only [DataW.weights, DataW.weightsEach, Try.underlying52, List.map_cons, List.map_nil]
    exact List.mem_append_left _ (by simp))
  rcases open_ints Try.underlying26 Try.underlying5 Try.cellsByte h1 with ⟨e1, _⟩ | ⟨a, len, cap, zs, e1, hb, hlc, hm, hz, rfl, hcell, hwf⟩
  · simp only [List.drop_succ_cons, List.drop_zero, List.take_succ_cons, List.take_zero, List.cons.injEq, and_true] at e1
    subst e1
    exact ⟨⟨s, none, 0, []⟩, rfl, ⟨⟨hs', by simp⟩, Shows.nil _ _, Nat.le_refl _, by simp⟩, by (have e : s.data.size = s.size := rfl; simp only [heftP, Rows.uptoBulk, Rows.uptoBulkAll, List.length_nil, Array.length_toList]; omega)⟩
  · simp only [List.drop_succ_cons, List.drop_zero, List.take_succ_cons, List.take_zero, List.cons.injEq, and_true] at e1
    subst e1
    have hle : len ≤ zs.length := by rw [hz]; split <;> omega
    have hl' : (zs.take len).length = len := by rw [List.length_take]; omega
    have hb' : zs.length * Try.prog.bytesOf 5 ≤ 140737488351232 := hw _ (by
      simp only [DataW.weights, DataW.weightsEach, Try.underlying52, Try.underlying26, List.map_cons, List.map_nil]
      refine List.mem_append_right _ (List.mem_append_left _ (List.mem_cons.2 (.inl ?_)))
      simp only [lits, List.length_map, List.length_take, List.length_drop]
      congr 1
      omega)
    have e1 : Try.prog.bytesOf 5 = 1 := by kernel_rfl
    rw [e1] at hb'
    refine ⟨⟨s, some a, cap, zs.take len⟩, by rw [PV.val, hl'], ⟨⟨hs', by simp only [hl']; omega⟩, ?_, by rw [hl']; exact hlc, hm⟩, by (have h9 := bulk_length (lits (H := H) .u8 (zs.take len)); have h8 : (lits (H := H) .u8 (zs.take len)).length = len := (by simp only [lits, List.length_map]; exact hl'); have e : s.data.size = s.size := rfl; simp only [heftP, Rows.uptoBulk, Rows.uptoBulkAll, Array.length_toList, hl']; omega)⟩
    refine ⟨rfl, fun z hz' => ?_, fun hn => ?_⟩
    · have h2 := bounds_u8 (hwf z (List.mem_of_mem_take hz'))
      omega
    · rw [hl'] at hn
      obtain ⟨b, o, spot⟩ := a
      have hc := hcell 0 (by omega)
      have hspot : spot = none := by simpa [Addr.add] using World.cell?_spot hc
      subst hspot
      refine ⟨b, o, rfl, ?_, fun i hi => ?_⟩
      · rw [addr_add] at hc
        exact World.block_lt_of_cell? w _ hc
      · rw [hl'] at hi
        have hci := hcell i (by omega)
        rw [addr_add] at hci
        rw [hci]
        refine congrArg (fun z => some (Value.int .u8 z)) ?_
        simp [List.getD, List.getElem?_take_of_lt hi]

set_option maxRecDepth 100000 in
theorem bulk_row {α : Type} [Inhabited α] {t e : TypeId} {c : Nat} (f : α → List Value) (good : α → Prop) (g : α → Nat) {fuel : Nat} {cs : List Value} {x : DataW H × List MemPlace} (ht : Try.prog.underlying t = some (.slice e)) (hc : Try.prog.cellsOf e = c) (hc0 : 0 < c)
    (hlen : ∀ p, (f p).length = c) (each : ∀ (n : Nat) (cs : List Value) (y : DataW H × List MemPlace), SizeOf.sizeOf y.1 < SizeOf.sizeOf x.1 → DataW.trod enc Try.prog w base spare held n e cs = some y → (∀ z ∈ DataW.weights Try.prog e y.1, z ≤ 140737488351232) → ∃ p : α, cs = f p ∧ good p ∧ g p ≤ 16 * Rows.uptoBulk y.1)
    (h : DataW.trod enc Try.prog w base spare held fuel t cs = some x) (hw : ∀ z ∈ DataW.weights Try.prog t x.1, z ≤ 140737488351232) :
    ∃ (a : Option Addr) (cap : Nat) (l : List α), cs = [.slice a l.length cap] ∧ (l.map g).sum + 16 ≤ 16 * Rows.uptoBulk x.1 ∧ l.length ≤ cap ∧ cap ≤ 9223372036854775807 ∧ l.length * Try.prog.bytesOf e ≤ 140737488351232 ∧ (∀ p ∈ l, good p) ∧
      (0 < l.length → ∃ b o, a = some ⟨b, o, none⟩ ∧ b < w.heap.size ∧ ∀ i (h : i < l.length), ∀ j, j < c → w.cell? ⟨b, o + i * c + j, none⟩ = (f l[i])[j]?) := by
  rcases open_slice ht h with ⟨rfl, _⟩ | ⟨a, len, cap, m, n, D, Pl, rfl, hb, hl, hm, hmm, rfl, hi⟩
  · exact ⟨none, 0, [], rfl, by (have := bulk_one x.1; simp only [List.map_nil, List.sum_nil]; omega), Nat.le_refl _, by simp, by simp, by simp, fun h => absurd h (by simp)⟩
  · have hlm : len ≤ m := by rw [hmm]; split <;> omega
    have sz : ∀ i, i < len → SizeOf.sizeOf (D i) < SizeOf.sizeOf (DataW.slice ((List.range len).map D) ((List.range (m - len)).map fun j => D (len + j))) := fun i hi' => by
      have hmem : D i ∈ (List.range len).map D := List.mem_map.2 ⟨i, List.mem_range.2 hi', rfl⟩
      have := List.sizeOf_lt_of_mem hmem
      simp only [DataW.slice.sizeOf_spec]
      omega
    have hw1 : (len + (m - len)) * Try.prog.bytesOf e ≤ 140737488351232 := hw _ (by
      simp only [DataW.weights, ht]
      refine List.mem_cons.2 (.inl ?_)
      simp)
    have hw2 : len * Try.prog.bytesOf e ≤ 140737488351232 := Nat.le_trans (Nat.mul_le_mul_right _ (by omega)) hw1
    have hwi : ∀ i, i < len → ∀ z ∈ DataW.weights Try.prog e (D i), z ≤ 140737488351232 := fun i hi' z hz => hw z (by
      simp only [DataW.weights, ht]
      exact List.mem_cons.2 (.inr (List.mem_append_left _ (weights_mem (List.mem_map.2 ⟨i, List.mem_range.2 hi', rfl⟩) hz))))
    obtain ⟨F, hF⟩ := choose_lt (α := α) (n := len) (p := fun i p => w.cells? base (a.add (i * Try.prog.cellsOf e)) (Try.prog.cellsOf e) = some (f p) ∧ good p ∧ g p ≤ 16 * Rows.uptoBulk (D i)) (fun i hi' => by
      obtain ⟨cs', h1, h2⟩ := hi i (by omega)
      obtain ⟨p, rfl, hg, hg2⟩ := each n cs' _ (sz i hi') h2 (hwi i hi')
      exact ⟨p, h1, hg, hg2⟩)
    refine ⟨some a, cap, (List.range len).map F, by simp, by have h7 := bulk_sum g F D (List.range len) (fun i hi' => (hF i (List.mem_range.1 hi')).2.2); simp only [Rows.uptoBulk]; omega, by simpa using hl, hm, by simpa using hw2, ?_, fun h0 => ?_⟩
    · intro p hp
      obtain ⟨i, hi', rfl⟩ := List.mem_map.1 hp
      exact (hF i (List.mem_range.1 hi')).2.1
    · simp only [List.length_map, List.length_range] at h0 ⊢
      obtain ⟨b, o, spot⟩ := a
      have cell : ∀ i, i < len → ∀ j, j < c → w.cell? ((⟨b, o, spot⟩ : Addr).add (i * c + j)) = (f (F i))[j]? := fun i hi' j hj => by
        obtain ⟨_, _, h3⟩ := World.cells?_some (hF i hi').1
        rw [hc] at h3
        rw [← Go.Deep.add_add]
        exact h3 j hj
      have c0 := cell 0 h0 0 hc0
      rw [List.getElem?_eq_getElem (by rw [hlen]; exact hc0)] at c0
      have hspot : spot = none := by simpa [Addr.add] using World.cell?_spot c0
      subst hspot
      refine ⟨b, o, rfl, World.block_lt_of_cell? w _ (by rw [addr_add] at c0; exact c0), fun i hi' j hj => ?_⟩
      have := cell i hi' j hj
      rw [addr_add, ← Nat.add_assoc] at this
      simpa using this

theorem heftL_sum : ∀ ks : List Nd, heftL ks = (ks.map heftN).sum
  | [] => rfl
  | k :: r => by simp only [heftL, List.map_cons, List.sum_cons, heftL_sum r]

set_option maxRecDepth 100000 in
theorem bulk_nd : ∀ (m fuel : Nat) (cs : List Value) (x : DataW H × List MemPlace), SizeOf.sizeOf x.1 ≤ m → DataW.trod enc Try.prog w base spare held fuel 38 cs = some x →
    (∀ z ∈ DataW.weights Try.prog 38 x.1, z ≤ 140737488351232) → ∃ n : Nd, cs = [.string n.name, n.pv, n.kv] ∧ n.In w w.heap.size ∧ heftN n ≤ 16 * Rows.uptoBulk x.1 := by
  intro m
  induction m with
  | zero => intro fuel cs x hx; exfalso; obtain ⟨d, pl⟩ := x; cases d <;> simp at hx
  | succ m ih =>
    intro fuel cs x hx h hw
    obtain ⟨y0, y1, y2, n, rfl, hl, h0, h1, h2⟩ := trod_struct3 Try.underlying38 h
    rw [Try.cellsNode] at hl
    obtain ⟨c0, c1, c2, rfl⟩ : ∃ c0 c1 c2, cs = [c0, c1, c2] := by
      exact three_of hl
    rw [Try.cellsStr] at h0
    rw [Try.cellsProps] at h1
    rw [Try.cellsNodes] at h2
    simp only [List.drop_zero, List.drop_succ_cons, List.take_succ_cons, List.take_zero] at h0 h1 h2
    simp only [DataW.weights, DataW.weightsEach, Try.underlying38, List.map_cons, List.map_nil] at hw
    have hw0 := fun z hz => hw z (List.mem_append_left _ hz)
    have hw1 := fun z hz => hw z (List.mem_append_right _ (List.mem_append_left _ hz))
    have hw2 := fun z hz => hw z (List.mem_append_right _ (List.mem_append_right _ (List.mem_append_left _ hz)))
    obtain ⟨s, e0, rfl, hs⟩ := DataW.trod_string Try.underlying9 h0
    simp only [List.cons.injEq, and_true] at e0
    subst e0
    have hs' : s.size ≤ 140737488351232 := hw0 s.size (by simp [DataW.weights])
    obtain ⟨pa, pc, props, e1, hph, hp1, hp2, hp3, hpg, hprow⟩ := bulk_row (c := 2) (fun p : PV => [.string p.name, p.val]) (fun p => p.In w w.heap.size) heftP Try.underlying35 Try.cellsProp (by omega) (fun _ => rfl) (fun n cs y _ hy hwy => bulk_pv hy hwy) h1 hw1
    obtain ⟨ka, kc, kids, e2, hkh, hk1, hk2, hk3, hkg, hkrow⟩ := bulk_row (c := 3) (fun k : Nd => [.string k.name, k.pv, k.kv]) (fun k => k.In w w.heap.size) heftN Try.underlying36 Try.cellsNode (by omega) (fun _ => rfl)
      (fun n cs y hy hy' hwy => ih n cs y (by simp only [DataW.agg.sizeOf_spec, List.cons.sizeOf_spec] at hx; omega) hy' hwy) h2 hw2
    simp only [List.cons.injEq, and_true] at e1 e2
    subst e1 e2
    rw [Try.bytesProp] at hp3
    rw [Try.bytesNode] at hk3
    refine ⟨.mk s pa pc props ka kc kids, rfl, .mk _ ⟨hs', hp3, hk3⟩ hp1 hp2 hk1 hk2 (fun h0 => ?_) hpg (fun h0 => ?_) hkg, by have e : s.data.size = s.size := rfl; simp only [heftN, heftL_sum, Rows.uptoBulk, Rows.uptoBulkAll, Array.length_toList]; omega⟩
    · obtain ⟨b, o, e, hb, hc⟩ := hprow h0
      exact ⟨b, o, e, hb, fun i hi => ⟨hc i hi 0 (by omega), hc i hi 1 (by omega)⟩⟩
    · obtain ⟨b, o, e, hb, hc⟩ := hkrow h0
      exact ⟨b, o, e, hb, fun i hi => ⟨hc i hi 0 (by omega), hc i hi 1 (by omega), hc i hi 2 (by omega)⟩⟩
set_option maxRecDepth 100000 in
theorem bulk_tr {fuel : Nat} {cs : List Value} {x : DataW H × List MemPlace} (h : DataW.trod enc Try.prog w base spare held fuel 40 cs = some x) (hw : ∀ z ∈ DataW.weights Try.prog 40 x.1, z ≤ 140737488351232) :
    ∃ t : Tr, cs = [.int .u32 t.boot, t.rv, .string t.root.name, t.root.pv, t.root.kv] ∧ t.In w w.heap.size ∧ heftN t.root ≤ 16 * Rows.uptoBulk x.1 ∧ t.rs.length ≤ Rows.uptoBulk x.1 := by
  obtain ⟨y0, y1, y2, n, rfl, hl, h0, h1, h2⟩ := trod_struct3 Try.underlying40 h
  rw [Try.cellsTree] at hl
  obtain ⟨c0, c1, c2, c3, c4, rfl⟩ : ∃ c0 c1 c2 c3 c4, cs = [c0, c1, c2, c3, c4] := by
    exact five_of hl
  rw [Try.cellsU32] at h0
  rw [Try.cellsRess] at h1
  rw [Try.cellsNode] at h2
  simp only [List.drop_zero, List.drop_succ_cons, List.take_succ_cons, List.take_zero] at h0 h1 h2
  simp only [DataW.weights, DataW.weightsEach, Try.underlying40, List.map_cons, List.map_nil] at hw
  have hw1 := fun z hz => hw z (List.mem_append_right _ (List.mem_append_left _ hz))
  have hw2 := fun z hz => hw z (List.mem_append_right _ (List.mem_append_right _ (List.mem_append_left _ hz)))
  obtain ⟨boot, e0, _, wb⟩ := DataW.trod_int Try.underlying22 h0
  obtain ⟨ra, rc, rs, e1, hrh, hr1, hr2, hr3, hrg, hrow⟩ := bulk_row (c := 2) (fun r : Int × Int => [.int .u64 r.1, .int .u64 r.2]) (fun r => (0 ≤ r.1 ∧ r.1 ≤ 18446744073709551615) ∧ (0 ≤ r.2 ∧ r.2 ≤ 18446744073709551615)) (fun _ => 16) Try.underlying34 Try.cellsRes (by omega) (fun _ => rfl) (fun n cs y _ hy _ => by obtain ⟨r, h1, h2⟩ := open_res hy; exact ⟨r, h1, h2, by have := bulk_one y.1; omega⟩) h1 hw1
  obtain ⟨root, e2, hin, hroot⟩ := bulk_nd _ n _ _ (Nat.le_refl _) h2 hw2
  simp only [List.cons.injEq, and_true] at e0 e1 e2
  obtain ⟨rfl, rfl, rfl⟩ := e2
  subst e0 e1
  rw [Try.bytesRes] at hr3
  refine ⟨⟨boot, ra, rc, rs, root⟩, rfl, ⟨bounds_u32 wb, ⟨hr1, hr2, hr3⟩, fun h0 => by
    obtain ⟨b, o, e, hb, hc⟩ := hrow h0
    exact ⟨b, o, e, hb, fun i hi => ⟨hc i hi 0 (by omega), hc i hi 1 (by omega)⟩⟩, hrg, hin⟩, ?_, ?_⟩
  · simp only [Rows.uptoBulk, Rows.uptoBulkAll]; omega
  · have e : (rs.map (fun _ => 16)).sum = 16 * rs.length := sixteen rs
    simp only [Rows.uptoBulk, Rows.uptoBulkAll]; omega
end
end Go.Proofs.Ytnopcnbeklbfoaa
