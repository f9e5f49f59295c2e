/-
  Layer 16, CtrlPlays: out of what the program's controller answers.
-/
import Derived.Test.YtgmnilmeliconaaDoorVCtrlS
import Derived.Test.YtgmnilmeliconaaDoorVPlay
import Derived.Test.YtgmnilmeliconaaDoorVRef7
import Derived.Laws.BitsAllLaws
namespace Go.Proofs.YtgmnilmeliconaaDoor
open Go.RowKit
set_option linter.unusedVariables false
set_option linter.unusedSimpArgs false

theorem wrong16_any (x : OpS) (w : World) (hx : U64v x.off) : Calls Tryd.prog 8 #[.agg x.cells] w fun e w' => e = .returned (.int .i64 (accE 16 x.off x.width)) ∧ Below w.heap.size w w' := by
  obtain ⟨kind, off, width, v, n, yes⟩ := x
  obtain ⟨o0, o1⟩ : 0 ≤ off ∧ off ≤ 18446744073709551615 := hx
  have HB := Lib.hid ((Below.refl w.heap.size w).alloc (Nat.le_refl _) (.cells #[.int .u8 kind, .int .u64 off, .int .i64 width, .int .u64 v, .int .i64 n, .bool yes] 35))
  simp only [OpS.cells]
  rcases accE_cases 16 off width with ⟨e, h1⟩ | ⟨e, h1, h2⟩ | ⟨e, h1, h2, h3⟩
  · rw [e]
    have q : decide ((16 : Int) ≤ off) = true := decide_eq_true h1
    clear e h1
    go_enter Tryd.func8, Tryd.ntmps8
    go_wp2
    go_ret
    exact ⟨rfl, HB.out⟩
  · rw [e]
    have q : decide ((16 : Int) ≤ off) = false := decide_eq_false h1
    by_cases hw : width = 4
    · have hm : (off % 4 != 0) = true := by rw [bne_iff_ne]; exact fun h => h2 ⟨hw, h⟩
      clear e h1 h2
      subst hw
      go_enter Tryd.func8, Tryd.ntmps8
      go_wp2
      go_ret
      exact ⟨rfl, HB.out⟩
    · have hw' : (width != 4) = true := by rw [bne_iff_ne]; exact hw
      clear e h1 h2 hw
      go_enter Tryd.func8, Tryd.ntmps8
      go_wp2
      go_ret
      exact ⟨rfl, HB.out⟩
  · rw [e]
    have q : decide ((16 : Int) ≤ off) = false := decide_eq_false h1
    have hm : (off % 4 != 0) = false := by rw [bne_eq_false_iff_eq]; exact h3
    clear e h1 h3
    subst h2
    go_enter Tryd.func8, Tryd.ntmps8
    go_wp2
    go_ret
    exact ⟨rfl, HB.out⟩

/-- The document's controller is the program's. -/
def R7 (s : CtrlS) (d : DevR) : Prop := d.kind = 7 ∧ d.r0 = (s.lines : Int) ∧ d.r1 = (s.mask : Int)
theorem off16c {off : Int} (h0 : 0 ≤ off) (h1 : ¬ 16 ≤ off) (h2 : off % 4 = 0) : off = 0 ∨ off = 4 ∨ off = 8 ∨ off = 12 := by omega
theorem R7.store {s : CtrlS} {d : DevR} (h : R7 s d) (off v : Int) (h0 : 0 ≤ v) : R7 (ctrlStore s off v) (if off = 4 then { d with r1 := v % 4294967296 } else d) := by
  obtain ⟨e, e0, e1⟩ := h
  unfold ctrlStore
  by_cases h1 : off = 4
  · rw [if_pos h1, if_pos h1]
    exact ⟨e, e0, (show v % 4294967296 = (((v % 4294967296).toNat : Nat) : Int) by omega)⟩
  · rw [if_neg h1, if_neg h1]; exact ⟨e, e0, e1⟩


set_option maxRecDepth 20000 in
set_option maxHeartbeats 16000000 in
theorem ctrlPlays_true (hK : Awake16) (hL : CtrlLoadOK) (hS : CtrlStoreOK) (hT : CtrlSetOK) (hH : CtrlHighOK) (A : Option Addr) (n c : Nat) (xs : List OpS) (w : World) (htab : Tab32 w) (hs : Scr w w.heap.size A n xs) (hx : ∀ x ∈ xs, x.ok) (hnc : n ≤ c) (hc : c ≤ 9223372036854775807) :
    Calls Tryd.prog 3 #[.slice A n c] w fun e w' => e = .returned (.bool true) ∧ Below w.heap.size w w' := by
  have HK := Lib.hid hK
  have HL := Lib.hid hL
  have HS := Lib.hid hS
  have HT := Lib.hid hT
  have HH := Lib.hid hH
  have HSC := Lib.hid (fun (W : World) (h : Below w.heap.size w W) => hs.keep h)
  have HX := Lib.hid hx
  have HLN := Lib.hid hs.1
  clear hK hL hS hT hH hs hx
  go_enter Tryd.func3, Tryd.ntmps3
  go_wp2_with fail
  refine (HK.out _).mono ?_
  rintro e w1 ⟨rfl, hb⟩
  have HB1 := Lib.hid hb
  have HT1 := Lib.hid (htab.below hb)
  clear hb htab
  by_cases hbig : 200 < n
  · have q : decide ((200 : Int) < (n : Int)) = true := decide_eq_true (by omega)
    go_wp2_with fail
    refine (HK.out _).mono ?_
    rintro e w2 ⟨rfl, hb⟩
    have HB2 := Lib.hid (HB1.out.trans (hb.mono HB1.out.size))
    clear hb
    go_wp2
    go_ret
    exact ⟨rfl, HB2.out⟩
  have q : decide ((200 : Int) < (n : Int)) = false := decide_eq_false (by omega)
  obtain ⟨b1, hb1⟩ : ∃ b1, w1.heap.size = b1 := ⟨_, rfl⟩
  obtain ⟨W2, hW2⟩ : ∃ W2, (w1.alloc (.cells #[.int .u32 0, .int .u32 0] 27)).alloc (.cells #[.int .i64 7, .slice none 0 0, .slice none 0 0, .slice none 0 0, .bool false, .bool false, .int .u32 0, .int .u32 0, .int .u32 0, .int .u32 0, .int .u32 0, .int .u32 0, .int .u32 0, .int .u32 0] 32) = W2 := ⟨_, rfl⟩
  have HD1 : Hid (CtrlAt W2 b1 ⟨0, 0⟩) := Lib.hid (by rw [← hW2, ← hb1]; exact (CtrlAt.zero w1 HT1.out).on ((Below.refl _ _).alloc (Nat.le_refl _) _))
  have HD2 : Hid (RefAt W2 (b1 + 1) ⟨7, .slice none 0 0, .slice none 0 0, .slice none 0 0, false, false, 0, 0, 0, 0, 0, 0, 0, 0⟩) := Lib.hid (by
    rw [← hW2, ← hb1]
    have := heap_alloc_new (w1.alloc (.cells #[.int .u32 0, .int .u32 0] 27)) (.cells #[.int .i64 7, .slice none 0 0, .slice none 0 0, .slice none 0 0, .bool false, .bool false, .int .u32 0, .int .u32 0, .int .u32 0, .int .u32 0, .int .u32 0, .int .u32 0, .int .u32 0, .int .u32 0] 32)
    rw [World.size_alloc] at this
    exact this)
  have HB2 : Hid (Below w.heap.size w W2) := Lib.hid (by rw [← hW2]; exact (HB1.out.alloc HB1.out.size _).alloc (by have := HB1.out.size; simp; omega) _)
  have HLO : Hid (w.heap.size ≤ b1) := Lib.hid (by rw [← hb1]; exact HB1.out.size)
  go_wp2_with fail
  clear hW2 hb1 q
  go_loopw [26] (fun i wr => ∃ (k : Nat) (s : CtrlS) (d : DevR), k ≤ n ∧ i = .int .i64 k ∧ CtrlAt wr b1 s ∧ RefAt wr (b1 + 1) d ∧ R7 s d ∧ Below w.heap.size w wr) (fun i _ => n - (intOf i).toNat)
  case atStart => exact ⟨0, _, _, Nat.zero_le _, rfl, HD1.out, HD2.out, ⟨rfl, rfl, rfl⟩, HB2.out⟩
  case round =>
    obtain ⟨k, s, d, hk, rfl, ha1, ha2, hr, hb⟩ := hrel
    have HR := Lib.hid hr
    have HBW := Lib.hid hb
    by_cases hlt : k < n
    · have hkl : k < xs.length := by rw [HLN.out]; exact hlt
      obtain ⟨sb, so, e, hsb, hcc⟩ := (HSC.out _ hb).2 (by omega)
      obtain rfl : A = _ := e
      obtain ⟨c0, c1, c2, c3, c4, c5⟩ := hcc k hkl
      have hok := HX.out _ (List.getElem_mem hkl)
      generalize xs[k] = x at *
      obtain ⟨kind, off, width, v, nn, yes⟩ := x
      obtain ⟨⟨k0, k1⟩, hoff, hv, _, _⟩ := hok
      simp only at c0 c1 c2 c3 c4 c5 k0 k1 hoff hv
      have HOFF := Lib.hid hoff
      have HV := Lib.hid hv
      obtain ⟨v0, v1⟩ := hv
      have HP : Hid (PlSt w b1 (b1 + 1) wr.heap.size (.cells #[.int .u8 kind, .int .u64 off, .int .i64 width, .int .u64 v, .int .i64 nn, .bool yes] 35) d (fun W => CtrlAt W b1 s) (wr.alloc (.cells #[.int .u8 kind, .int .u64 off, .int .i64 width, .int .u64 v, .int .i64 nn, .bool yes] 35))) := Lib.hid (by
        have hbb : Below wr.heap.size wr (wr.alloc (.cells #[.int .u8 kind, .int .u64 off, .int .i64 width, .int .u64 v, .int .i64 nn, .bool yes] 35)) := (Below.refl _ _).alloc (Nat.le_refl _) _
        have hl1 := ha1.lt
        have hl2 := ha2.lt
        exact ⟨ha1.on hbb, ha2.on hbb, heap_alloc_new _ _, hb.trans (hbb.mono hb.size), HLO.out, Nat.le_succ_of_le HLO.out, by omega, by omega, by omega⟩)
      clear hcc hsb hb ha1 ha2 hr hoff hkl
      by_cases h4 : kind < 4
      · have q4 : decide (kind < 4) = true := decide_eq_true h4
        clear h4
        go_wp2_with fail
        refine (HL.out b1 s off width _ HP.out.at1 HOFF.out).mono ?_
        rintro e w5 ⟨rfl, hs, hc⟩
        have HP5 := Lib.hid (HP.out.chg1 (D' := fun W => CtrlAt W b1 s) hc hs)
        clear hs hc HP c0 c1 c2 c3 c4 c5
        obtain ⟨c0, c1, c2, c3, c4, c5⟩ := op_cells (x := ⟨kind, off, width, v, nn, yes⟩) HP5.out.op
        simp only at c0 c1 c2 c3 c4 c5
        go_wp2_with fail
        refine (wrong16_any ⟨kind, off, width, v, nn, yes⟩ _ HOFF.out).mono ?_
        rintro e w6 ⟨rfl, hb⟩
        have HP6 := Lib.hid (HP5.out.on hb (HP5.out.at1.on hb))
        clear hb HP5 c0 c1 c2 c3 c4 c5
        obtain ⟨V, hV⟩ : ∃ V, ctrlLoadE s off width = V := ⟨_, rfl⟩
        obtain ⟨E, hE⟩ : ∃ E, accE 16 off width = E := ⟨_, rfl⟩
        have hcs := accE_cases 16 off width
        rw [hE] at hcs
        rw [ctrlLoadE, hE] at hV
        simp only [hE]
        rw [show ctrlLoadE s off width = V by rw [ctrlLoadE, hE]; exact hV]
        by_cases hE0 : E = 0
        · subst hE0
          have h16 : off = 0 ∨ off = 4 ∨ off = 8 ∨ off = 12 := by
            rcases hcs with ⟨h, _⟩ | ⟨h, _⟩ | ⟨_, g1, _, g3⟩
            · cases h
            · cases h
            · exact off16c HOFF.out.1 (by omega) g3
          rw [if_pos rfl] at hV
          have HVV := Lib.hid hV
          have HCL := Lib.hid (fun W (h : RefAt W (b1 + 1) d) => refload7 (b1 + 1) d s.lines s.mask off W h HR.out.1 h16 HR.out.2.1 HR.out.2.2)
          have HU := Lib.hid HP6.out.at1.2
          obtain ⟨c0, c1, c2, c3, c4, c5⟩ := op_cells (x := ⟨kind, off, width, v, nn, yes⟩) HP6.out.op
          simp only at c0 c1 c2 c3 c4 c5
          have qv : (V != V) = false := by rw [bne_eq_false_iff_eq]
          clear hcs hE hV h16
          go_wp2_with fail
          refine (HCL.out _ HP6.out.at2 HU.out.1 HU.out.2).mono ?_
          rintro e w7 ⟨rfl, hb⟩
          have HP7 := Lib.hid (HP6.out.on hb (HP6.out.at1.on hb))
          rw [HVV.out]
          clear hb HP6 c0 c1 c2 c3 c4 c5
          go_wp2_with fail
          refine (HH.out _ _ _ HP7.out.at1).mono ?_
          rintro e wa ⟨rfl, hs, hc⟩
          have HPQ := Lib.hid (HP7.out.chg1 (D' := fun W => CtrlAt W b1 s) hc hs)
          clear hs hc HP7
          go_wp2_with fail
          refine (refhigh7 _ _ _ _ _ HPQ.out.at2 HR.out.1 HR.out.2.1 HR.out.2.2 HPQ.out.at1.2.1 HPQ.out.at1.2.2).mono ?_
          rintro e wb ⟨rfl, hb⟩
          have HPR := Lib.hid (HPQ.out.on hb (HPQ.out.at1.on hb))
          have qh : ((decide (0 < nextN s.lines s.mask)) != (decide (0 < nextN s.lines s.mask))) = false := by rw [bne_eq_false_iff_eq]
          clear hb HPQ
          go_wp2_with fail
          go_roundw
          case rel => exact ⟨k + 1, _, _, by omega, by go_num, HPR.out.at1, HPR.out.at2, HR.out, HPR.out.bel⟩
          case measure => simp [intOf]; omega
        · have q0 : (E != 0) = true := by rw [bne_iff_ne]; exact hE0
          have q1 : (E == 0) = false := by rw [beq_eq_false_iff_ne]; exact hE0
          have q2 : (E != E) = false := by rw [bne_eq_false_iff_eq]
          rw [if_neg hE0] at hV
          subst hV
          clear hcs hE hE0
          go_wp2_with fail
          refine (HH.out _ _ _ HP6.out.at1).mono ?_
          rintro e wa ⟨rfl, hs, hc⟩
          have HPQ := Lib.hid (HP6.out.chg1 (D' := fun W => CtrlAt W b1 s) hc hs)
          clear hs hc HP6
          go_wp2_with fail
          refine (refhigh7 _ _ _ _ _ HPQ.out.at2 HR.out.1 HR.out.2.1 HR.out.2.2 HPQ.out.at1.2.1 HPQ.out.at1.2.2).mono ?_
          rintro e wb ⟨rfl, hb⟩
          have HPR := Lib.hid (HPQ.out.on hb (HPQ.out.at1.on hb))
          have qh : ((decide (0 < nextN s.lines s.mask)) != (decide (0 < nextN s.lines s.mask))) = false := by rw [bne_eq_false_iff_eq]
          clear hb HPQ
          go_wp2_with fail
          go_roundw
          case rel => exact ⟨k + 1, _, _, by omega, by go_num, HPR.out.at1, HPR.out.at2, HR.out, HPR.out.bel⟩
          case measure => simp [intOf]; omega
      · have q4 : decide (kind < 4) = false := decide_eq_false h4
        by_cases h8 : kind < 8
        · have q8 : decide (kind < 8) = true := decide_eq_true h8
          have hm : bits .and .u64 v 4294967295 = v % 4294967296 := by
            obtain ⟨m, rfl⟩ := Int.eq_ofNat_of_zero_le v0
            rw [show (4294967295 : Int) = ((4294967295 : Nat) : Int) from rfl, u64_and_nat m 4294967295 (by omega) (by omega)]
            rw [show (4294967295 : Nat) = 2 ^ 32 - 1 from rfl, Nat.and_two_pow_sub_one_eq_mod]
            omega
          have hm2 : IntKind.u32.wrap (v % 4294967296) = v % 4294967296 := IntWalk.u32_in _ (by omega)
          obtain ⟨VM, hVM⟩ : ∃ VM, v % 4294967296 = VM := ⟨_, rfl⟩
          rw [hVM] at hm hm2
          have HVM := Lib.hid hVM
          obtain ⟨c0, c1, c2, c3, c4, c5⟩ := op_cells (x := ⟨kind, off, width, v, nn, yes⟩) HP.out.op
          simp only at c0 c1 c2 c3 c4 c5
          clear h4 h8 hVM
          go_wp2_with fail
          refine (wrong16_any ⟨kind, off, width, v, nn, yes⟩ _ HOFF.out).mono ?_
          rintro e w5 ⟨rfl, hb⟩
          have HP5 := Lib.hid (HP.out.on hb (HP.out.at1.on hb))
          clear hb HP c0 c1 c2 c3 c4 c5
          obtain ⟨c0, c1, c2, c3, c4, c5⟩ := op_cells (x := ⟨kind, off, width, v, nn, yes⟩) HP5.out.op
          simp only at c0 c1 c2 c3 c4 c5
          obtain ⟨E, hE⟩ : ∃ E, accE 16 off width = E := ⟨_, rfl⟩
          have hcs := accE_cases 16 off width
          rw [hE] at hcs
          simp only [hE]
          have HCS := Lib.hid (fun (W : World) (h : CtrlAt W b1 s) => HS.out b1 s off width v W h HOFF.out HV.out)
          rw [hE] at HCS
          have HSE : Hid (ctrlStoreE s off width v = if E = 0 then ctrlStore s off v else s) := Lib.hid (by rw [ctrlStoreE, hE])
          have q2 : (E != E) = false := by rw [bne_eq_false_iff_eq]
          have HHC := Lib.hid hcs
          clear hE hcs
          go_wp2_with fail
          refine (HCS.out _ HP5.out.at1).mono ?_
          rintro e w6 ⟨rfl, hs, hc⟩
          rw [HSE.out] at hs
          by_cases hE0 : E = 0
          · subst hE0
            rw [if_pos rfl] at hs
            have h16 : off = 0 ∨ off = 4 ∨ off = 8 ∨ off = 12 := by
              rcases HHC.out with ⟨h, _⟩ | ⟨h, _⟩ | ⟨_, g1, _, g3⟩
              · cases h
              · cases h
              · exact off16c HOFF.out.1 (by omega) g3
            have HP6 := Lib.hid (HP5.out.chg1 (D' := fun W => CtrlAt W b1 (ctrlStore s off v)) hc hs)
            have HCL := Lib.hid (fun W (h : RefAt W (b1 + 1) d) => refstore7 (b1 + 1) d off VM W h HR.out.1 h16)
            have HR6 : Hid (R7 (ctrlStore s off v) (if off = 4 then { d with r1 := VM } else d)) := Lib.hid (by rw [← HVM.out]; exact HR.out.store off v HV.out.1)
            clear hs hc HP5 c0 c1 c2 c3 c4 c5 h16
            obtain ⟨c0, c1, c2, c3, c4, c5⟩ := op_cells (x := ⟨kind, off, width, v, nn, yes⟩) HP6.out.op
            simp only at c0 c1 c2 c3 c4 c5
            go_wp2_with fail
            refine (HCL.out _ HP6.out.at2).mono ?_
            rintro e w7 ⟨rfl, hs, hc⟩
            have HP7 := Lib.hid (HP6.out.chg2 hc (HP6.out.at1.chg hc (by omega)) hs)
            clear hs hc HP6 c0 c1 c2 c3 c4 c5
            go_wp2_with fail
            refine (HH.out _ _ _ HP7.out.at1).mono ?_
            rintro e wa ⟨rfl, hs, hc⟩
            have HPQ := Lib.hid (HP7.out.chg1 (D' := fun W => CtrlAt W b1 (ctrlStore s off v)) hc hs)
            clear hs hc HP7
            go_wp2_with fail
            refine (refhigh7 _ _ _ _ _ HPQ.out.at2 HR6.out.1 HR6.out.2.1 HR6.out.2.2 HPQ.out.at1.2.1 HPQ.out.at1.2.2).mono ?_
            rintro e wb ⟨rfl, hb⟩
            have HPR := Lib.hid (HPQ.out.on hb (HPQ.out.at1.on hb))
            have qh : ((decide (0 < nextN (ctrlStore s off v).lines (ctrlStore s off v).mask)) != (decide (0 < nextN (ctrlStore s off v).lines (ctrlStore s off v).mask))) = false := by rw [bne_eq_false_iff_eq]
            clear hb HPQ
            go_wp2_with fail
            go_roundw
            case rel => exact ⟨k + 1, _, _, by omega, by go_num, HPR.out.at1, HPR.out.at2, HR6.out, HPR.out.bel⟩
            case measure => simp [intOf]; omega
          · rw [if_neg hE0] at hs
            have q1 : (E == 0) = false := by rw [beq_eq_false_iff_ne]; exact hE0
            have HP6 := Lib.hid (HP5.out.chg1 (D' := fun W => CtrlAt W b1 s) hc hs)
            clear hs hc HP5 c0 c1 c2 c3 c4 c5 hE0
            go_wp2_with fail
            refine (HH.out _ _ _ HP6.out.at1).mono ?_
            rintro e wa ⟨rfl, hs, hc⟩
            have HPQ := Lib.hid (HP6.out.chg1 (D' := fun W => CtrlAt W b1 s) hc hs)
            clear hs hc HP6
            go_wp2_with fail
            refine (refhigh7 _ _ _ _ _ HPQ.out.at2 HR.out.1 HR.out.2.1 HR.out.2.2 HPQ.out.at1.2.1 HPQ.out.at1.2.2).mono ?_
            rintro e wb ⟨rfl, hb⟩
            have HPR := Lib.hid (HPQ.out.on hb (HPQ.out.at1.on hb))
            have qh : ((decide (0 < nextN s.lines s.mask)) != (decide (0 < nextN s.lines s.mask))) = false := by rw [bne_eq_false_iff_eq]
            clear hb HPQ
            go_wp2_with fail
            go_roundw
            case rel => exact ⟨k + 1, _, _, by omega, by go_num, HPR.out.at1, HPR.out.at2, HR.out, HPR.out.bel⟩
            case measure => simp [intOf]; omega
        · have q8 : decide (kind < 8) = false := decide_eq_false h8
          have HTT := Lib.hid (fun W h => HT.out b1 s nn yes W h)
          clear h4 h8
          obtain ⟨ok, hok⟩ : ∃ ok, ctrlSetOk nn = ok := ⟨_, rfl⟩
          rw [hok] at HTT
          have HOK := Lib.hid hok
          cases ok
          · have HSE : Hid (ctrlSet s nn yes = s) := Lib.hid (by rw [ctrlSet, HOK.out]; rfl)
            simp only [Bool.false_eq_true, ↓reduceIte] at HTT
            have hrange : ¬ (0 ≤ nn ∧ nn < 32) := by
              intro ⟨g1, g2⟩
              rw [ctrlSetOk, decide_eq_true g1, decide_eq_true g2] at hok
              cases hok
            clear hok
            go_wp2_with fail
            refine (HTT.out _ HP.out.at1).mono ?_
            rintro e w5 ⟨rfl, hs, hc⟩
            rw [HSE.out] at hs
            have HP5 := Lib.hid (HP.out.chg1 (D' := fun W => CtrlAt W b1 s) hc hs)
            clear hs hc HP c0 c1 c2 c3 c4 c5
            obtain ⟨c0, c1, c2, c3, c4, c5⟩ := op_cells (x := ⟨kind, off, width, v, nn, yes⟩) HP5.out.op
            simp only at c0 c1 c2 c3 c4 c5
            by_cases hn0 : 0 ≤ nn
            · have r0 : decide ((0 : Int) ≤ nn) = true := decide_eq_true hn0
              have r1 : decide (nn < (32 : Int)) = false := decide_eq_false (by omega)
              clear hn0 hrange
              go_wp2_with fail
              refine (HH.out _ _ _ HP5.out.at1).mono ?_
              rintro e wa ⟨rfl, hs, hc⟩
              have HPQ := Lib.hid (HP5.out.chg1 (D' := fun W => CtrlAt W b1 s) hc hs)
              clear hs hc HP5
              go_wp2_with fail
              refine (refhigh7 _ _ _ _ _ HPQ.out.at2 HR.out.1 HR.out.2.1 HR.out.2.2 HPQ.out.at1.2.1 HPQ.out.at1.2.2).mono ?_
              rintro e wb ⟨rfl, hb⟩
              have HPR := Lib.hid (HPQ.out.on hb (HPQ.out.at1.on hb))
              have qh : ((decide (0 < nextN s.lines s.mask)) != (decide (0 < nextN s.lines s.mask))) = false := by rw [bne_eq_false_iff_eq]
              clear hb HPQ
              go_wp2_with fail
              go_roundw
              case rel => exact ⟨k + 1, _, _, by omega, by go_num, HPR.out.at1, HPR.out.at2, HR.out, HPR.out.bel⟩
              case measure => simp [intOf]; omega
            · have r0 : decide ((0 : Int) ≤ nn) = false := decide_eq_false hn0
              clear hn0 hrange
              go_wp2_with fail
              refine (HH.out _ _ _ HP5.out.at1).mono ?_
              rintro e wa ⟨rfl, hs, hc⟩
              have HPQ := Lib.hid (HP5.out.chg1 (D' := fun W => CtrlAt W b1 s) hc hs)
              clear hs hc HP5
              go_wp2_with fail
              refine (refhigh7 _ _ _ _ _ HPQ.out.at2 HR.out.1 HR.out.2.1 HR.out.2.2 HPQ.out.at1.2.1 HPQ.out.at1.2.2).mono ?_
              rintro e wb ⟨rfl, hb⟩
              have HPR := Lib.hid (HPQ.out.on hb (HPQ.out.at1.on hb))
              have qh : ((decide (0 < nextN s.lines s.mask)) != (decide (0 < nextN s.lines s.mask))) = false := by rw [bne_eq_false_iff_eq]
              clear hb HPQ
              go_wp2_with fail
              go_roundw
              case rel => exact ⟨k + 1, _, _, by omega, by go_num, HPR.out.at1, HPR.out.at2, HR.out, HPR.out.bel⟩
              case measure => simp [intOf]; omega
          · have hr2 : 0 ≤ nn ∧ nn < 32 := by
              rw [ctrlSetOk, Bool.and_eq_true, decide_eq_true_eq, decide_eq_true_eq] at hok
              exact hok
            obtain ⟨N, rfl⟩ := Int.eq_ofNat_of_zero_le hr2.1
            have hN32 : N < 32 := by omega
            have HSE : Hid (ctrlSet s (N : Int) yes = { s with lines := setN s.lines N yes }) := Lib.hid (by rw [ctrlSet, HOK.out]; rfl)
            simp only [↓reduceIte] at HTT
            clear hok hr2
            go_wp2_with fail
            refine (HTT.out _ HP.out.at1).mono ?_
            rintro e w5 ⟨rfl, hs, hc⟩
            rw [HSE.out] at hs
            have HP5 := Lib.hid (HP.out.chg1 (D' := fun W => CtrlAt W b1 { s with lines := setN s.lines N yes }) hc hs)
            have HS5 := Lib.hid HP.out.at1.2
            clear hs hc HP c0 c1 c2 c3 c4 c5
            obtain ⟨c0, c1, c2, c3, c4, c5⟩ := op_cells (x := ⟨kind, off, width, v, (N : Int), yes⟩) HP5.out.op
            simp only at c0 c1 c2 c3 c4 c5
            have r0 : decide ((0 : Int) ≤ (N : Int)) = true := decide_eq_true (by omega)
            have r1 : decide ((N : Int) < (32 : Int)) = true := decide_eq_true (by omega)
            obtain ⟨XM, hXM⟩ : ∃ XM, 4294967295 ^^^ 2 ^ N = XM := ⟨_, rfl⟩
            obtain ⟨C, hC⟩ : ∃ C, s.lines &&& XM = C := ⟨_, rfl⟩
            have hp32 : 2 ^ N < 4294967296 := Nat.lt_of_lt_of_le (Nat.pow_lt_pow_right (by decide) hN32) (by decide)
            have hXM32 : XM < 4294967296 := by rw [← hXM]; exact Nat.xor_lt_two_pow (n := 32) (by decide) hp32
            obtain ⟨P, hP⟩ : ∃ P, 2 ^ N = P := ⟨_, rfl⟩
            have hD := clear_set HS5.out.1 hN32
            rw [hXM, hC, hP] at hD
            rw [hP] at hp32 hXM
            have es : IntKind.u32.wrap (2 ^ min (IntKind.u64.wrap (N : Int)).toNat 32) = (P : Int) := by
              rw [IntWalk.u64_in _ (by omega), Int.toNat_natCast, Nat.min_eq_left (by omega), IntKind.wrap_u32', show (2 : Int) ^ N = ((2 ^ N : Nat) : Int) by rw [Int.natCast_pow]; rfl, hP]
              omega
            have ex : bits .xor .u32 4294967295 (P : Int) = (XM : Int) := by
              rw [show (4294967295 : Int) = ((4294967295 : Nat) : Int) from rfl, u32_xor_nat _ _ (by decide) hp32, hXM]
            have ea : bits .and .u32 (s.lines : Int) (XM : Int) = (C : Int) := by rw [u32_and_nat _ _ HS5.out.1 hXM32, hC]
            have eo : IntKind.u32.wrap ((C : Int) + (P : Int)) = ((s.lines ||| P : Nat) : Int) := by
              rw [IntKind.wrap_u32', ← hD]
              omega
            have HCl : Hid (setN s.lines N false = C) := Lib.hid (by rw [setN, hP, hXM, hC]; rfl)
            have HDl : Hid (setN s.lines N true = s.lines ||| P) := Lib.hid (by rw [← hP]; rfl)
            obtain ⟨D, hDD⟩ : ∃ D, s.lines ||| P = D := ⟨_, rfl⟩
            rw [hDD] at eo HDl
            have hr := HR.out
            have d6 : w5.drew.cell? ⟨b1 + 1, 6, none⟩ = some (.int .u32 (s.lines : Int)) := by rw [← hr.2.1]; exact dev_cell (W := w5) HP5.out.at2 rfl
            have hset := dev_set (W := w5.drew) HP5.out.at2 6 (.int .u32 (C : Int))
            replace hset : RefAt (w5.drew.setCell ⟨b1 + 1, 6, none⟩ (.int .u32 (C : Int))) (b1 + 1) { d with r0 := (C : Int) } := hset
            have hchg : ChgB (b1 + 1) w5 (w5.drew.setCell ⟨b1 + 1, 6, none⟩ (.int .u32 (C : Int))) := ((ChgB.refl (b1 + 1) w5).drew).set _ _
            have HP6 := Lib.hid (HP5.out.chg2 hchg (HP5.out.at1.chg hchg (by omega)) hset)
            have HF1 : Hid (w5.drew.frozen? ⟨b1 + 1, 6, none⟩ = false ∧ w5.drew.cell? ⟨wr.heap.size, 4, none⟩ = some (.int .i64 (N : Int))) := Lib.hid ⟨dev_frozen (W := w5) 6 HP5.out.at2, c4⟩
            have g5 := (op_cells (x := ⟨kind, off, width, v, (N : Int), yes⟩) HP6.out.op).2.2.2.2.2
            have g4 := (op_cells (x := ⟨kind, off, width, v, (N : Int), yes⟩) HP6.out.op).2.2.2.2.1
            simp only at g5 g4
            replace g5 : (w5.setCell ⟨b1 + 1, 6, none⟩ (.int .u32 (C : Int))).cell? ⟨wr.heap.size, 5, none⟩ = some (.bool yes) := g5
            have HF2 : Hid ((w5.drew.setCell ⟨b1 + 1, 6, none⟩ (.int .u32 (C : Int))).frozen? ⟨b1 + 1, 6, none⟩ = false ∧ (w5.drew.setCell ⟨b1 + 1, 6, none⟩ (.int .u32 (C : Int))).cell? ⟨wr.heap.size, 4, none⟩ = some (.int .i64 (N : Int))) := Lib.hid ⟨dev_frozen 6 HP6.out.at2, g4⟩
            have HRC : Hid (R7 { s with lines := C } { d with r0 := (C : Int) }) := Lib.hid ⟨hr.1, rfl, hr.2.2⟩
            have HRD : Hid (R7 { s with lines := D } { d with r0 := (D : Int) }) := Lib.hid ⟨hr.1, rfl, hr.2.2⟩
            clear hset hchg hr hXM hC hD hDD hp32 hXM32 hP hN32 HSE HTT
            go_wp2_with fail
            refine wp_region_held_drew (S := fun W => W.frozen? ⟨b1 + 1, 6, none⟩ = false ∧ W.cell? ⟨wr.heap.size, 4, none⟩ = some (.int .i64 (N : Int))) (by kernel_rfl) HF1.out (fun hHeld => ?_)
            refine held_take 0 rfl (by kernel_rfl) (by kernel_rfl) (by kernel_rfl) (fun _ _ _ h => h) (by rfl) hHeld (v := ?_) (fun w hSw => ?_) (fun _ => ?_)
            rotate_left
            · ((try dsimp only at hSw); go_simp; (try with_reducible rfl))
            simp only [Act.put, List.setIfInBounds_toArray, List.set_cons_zero, List.set_cons_succ]
            refine held_take 1 rfl (by kernel_rfl) (by kernel_rfl) (by kernel_rfl) (fun _ _ _ h => h) (by rfl) hHeld (v := ?_) (fun w hSw => ?_) (fun _ => ?_)
            rotate_left
            · ((try dsimp only at hSw); go_simp; (try with_reducible rfl))
            simp only [Act.put, List.setIfInBounds_toArray, List.set_cons_zero, List.set_cons_succ]
            refine held_take 2 rfl (by kernel_rfl) (by kernel_rfl) (by kernel_rfl) (fun _ _ _ h => h) (by rfl) hHeld (v := ?_) (fun w hSw => ?_) (fun _ => ?_)
            rotate_left
            · ((try dsimp only at hSw); go_simp; (try with_reducible rfl))
            simp only [Act.put, List.setIfInBounds_toArray, List.set_cons_zero, List.set_cons_succ]
            refine held_take 3 rfl (by kernel_rfl) (by kernel_rfl) (by kernel_rfl) (fun _ _ _ h => h) (by rfl) hHeld (v := ?_) (fun w hSw => ?_) (fun _ => ?_)
            rotate_left
            · ((try dsimp only at hSw); go_simp; (try with_reducible rfl))
            simp only [Act.put, List.setIfInBounds_toArray, List.set_cons_zero, List.set_cons_succ]
            refine held_take 4 rfl (by kernel_rfl) (by kernel_rfl) (by kernel_rfl) (fun _ _ _ h => h) (by rfl) hHeld (v := ?_) (fun w hSw => ?_) (fun _ => ?_)
            rotate_left
            · ((try dsimp only at hSw); go_simp; (try with_reducible rfl))
            simp only [Act.put, List.setIfInBounds_toArray, List.set_cons_zero, List.set_cons_succ]
            refine held_take 6 rfl (by kernel_rfl) (by kernel_rfl) (by kernel_rfl) (fun _ _ _ h => h) (by rfl) hHeld (v := ?_) (fun w hSw => ?_) (fun _ => ?_)
            rotate_left
            · ((try dsimp only at hSw); go_simp; (try with_reducible rfl))
            simp only [Act.put, List.setIfInBounds_toArray, List.set_cons_zero, List.set_cons_succ]
            refine held_take 7 rfl (by kernel_rfl) (by kernel_rfl) (by kernel_rfl) (fun _ _ _ h => h) (by rfl) hHeld (v := ?_) (fun w hSw => ?_) (fun _ => ?_)
            rotate_left
            · ((try dsimp only at hSw); go_simp; (try with_reducible rfl))
            simp only [Act.put, List.setIfInBounds_toArray, List.set_cons_zero, List.set_cons_succ]
            refine held_take 8 rfl (by kernel_rfl) (by kernel_rfl) (by kernel_rfl) (fun _ _ _ h => h) (by rfl) hHeld (v := ?_) (fun w hSw => ?_) (fun _ => ?_)
            rotate_left
            · ((try dsimp only at hSw); go_simp; (try with_reducible rfl))
            simp only [Act.put, List.setIfInBounds_toArray, List.set_cons_zero, List.set_cons_succ]
            refine held_take 9 rfl (by kernel_rfl) (by kernel_rfl) (by kernel_rfl) (fun _ _ _ h => h) (by rfl) hHeld (v := ?_) (fun w hSw => ?_) (fun _ => ?_)
            rotate_left
            · ((try dsimp only at hSw); go_simp; (try with_reducible rfl))
            simp only [Act.put, List.setIfInBounds_toArray, List.set_cons_zero, List.set_cons_succ]
            refine held_take 10 rfl (by kernel_rfl) (by kernel_rfl) (by kernel_rfl) (fun _ _ _ h => h) (by rfl) hHeld (v := ?_) (fun w hSw => ?_) (fun _ => ?_)
            rotate_left
            · ((try dsimp only at hSw); go_simp; (try with_reducible rfl))
            simp only [Act.put, List.setIfInBounds_toArray, List.set_cons_zero, List.set_cons_succ]
            refine held_take 12 rfl (by kernel_rfl) (by kernel_rfl) (by kernel_rfl) (fun _ _ _ h => h) (by rfl) hHeld (v := ?_) (fun w hSw => ?_) (fun _ => ?_)
            rotate_left
            · ((try dsimp only at hSw); go_simp; (try with_reducible rfl))
            simp only [Act.put, List.setIfInBounds_toArray, List.set_cons_zero, List.set_cons_succ]
            refine held_take 13 rfl (by kernel_rfl) (by kernel_rfl) (by kernel_rfl) (fun _ _ _ h => h) (by rfl) hHeld (v := ?_) (fun w hSw => ?_) (fun _ => ?_)
            rotate_left
            · ((try dsimp only at hSw); go_simp; (try with_reducible rfl))
            simp only [Act.put, List.setIfInBounds_toArray, List.set_cons_zero, List.set_cons_succ]
            refine held_call 5 (by kernel_rfl) rfl (by rfl) (fun K hK => ?_)
            go_simp
            refine hK.out _ _ HF1.out (fun hHeld => ?_)
            clear hK K
            refine held_take 11 rfl (by kernel_rfl) (by kernel_rfl) (by kernel_rfl) (fun _ _ _ h => h) (by rfl) hHeld (v := ?_) (fun w hSw => ?_) (fun _ => ?_)
            rotate_left
            · ((try dsimp only at hSw); go_simp; (try with_reducible rfl))
            simp only [Act.put, List.setIfInBounds_toArray, List.set_cons_zero, List.set_cons_succ]
            refine held_take 14 rfl (by kernel_rfl) (by kernel_rfl) (by kernel_rfl) (fun _ _ _ h => h) (by rfl) hHeld (v := ?_) (fun w hSw => ?_) (fun _ => ?_)
            rotate_left
            · ((try dsimp only at hSw); go_simp; (try with_reducible rfl))
            simp only [Act.put, List.setIfInBounds_toArray, List.set_cons_zero, List.set_cons_succ]
            refine held_call 15 (by kernel_rfl) rfl (by rfl) (fun K hK => ?_)
            go_simp
            refine hK.out _ _ HF2.out (fun hHeld => ?_)
            clear hK K
            refine wpAnyH_done (by kernel_rfl) ?_ _
            clear hHeld
            clear c0 c1 c2 c3 c4 c5 d6 ex ea g4
            cases yes
            · have HP7 := Lib.hid (show PlSt w b1 (b1 + 1) wr.heap.size _ { d with r0 := (C : Int) } (fun W => CtrlAt W b1 { s with lines := C }) (w5.drew.setCell ⟨b1 + 1, 6, none⟩ (.int .u32 (C : Int))) by have h := HP6.out; rw [HCl.out] at h; exact h)
              clear es eo
              go_wp2_with fail
              refine (HH.out _ _ _ HP7.out.at1).mono ?_
              rintro e wa ⟨rfl, hs, hc⟩
              have HPQ := Lib.hid (HP7.out.chg1 (D' := fun W => CtrlAt W b1 ({ s with lines := C }:CtrlS)) hc hs)
              clear hs hc HP7
              go_wp2_with fail
              refine (refhigh7 _ _ _ _ _ HPQ.out.at2 HRC.out.1 HRC.out.2.1 HRC.out.2.2 HPQ.out.at1.2.1 HPQ.out.at1.2.2).mono ?_
              rintro e wb ⟨rfl, hb⟩
              have HPR := Lib.hid (HPQ.out.on hb (HPQ.out.at1.on hb))
              have qh : ((decide (0 < nextN ({ s with lines := C }:CtrlS).lines ({ s with lines := C }:CtrlS).mask)) != (decide (0 < nextN ({ s with lines := C }:CtrlS).lines ({ s with lines := C }:CtrlS).mask))) = false := by rw [bne_eq_false_iff_eq]
              clear hb HPQ
              go_wp2_with fail
              go_roundw
              case rel => exact ⟨k + 1, _, _, by omega, by go_num, HPR.out.at1, HPR.out.at2, HRC.out, HPR.out.bel⟩
              case measure => simp [intOf]; omega
            · have HP7 := Lib.hid (show PlSt w b1 (b1 + 1) wr.heap.size _ { d with r0 := (C : Int) } (fun W => CtrlAt W b1 { s with lines := D }) ((w5.setCell ⟨b1 + 1, 6, none⟩ (.int .u32 (C : Int))).drew) by have h := HP6.out; rw [HDl.out] at h; exact h)
              have hset := dev_set (W := (w5.setCell ⟨b1 + 1, 6, none⟩ (.int .u32 (C : Int))).drew.drew) HP7.out.at2 6 (.int .u32 (D : Int))
              replace hset : RefAt ((w5.setCell ⟨b1 + 1, 6, none⟩ (.int .u32 (C : Int))).drew.drew.setCell ⟨b1 + 1, 6, none⟩ (.int .u32 (D : Int))) (b1 + 1) { d with r0 := (D : Int) } := hset
              have hchg : ChgB (b1 + 1) (w5.setCell ⟨b1 + 1, 6, none⟩ (.int .u32 (C : Int))).drew ((w5.setCell ⟨b1 + 1, 6, none⟩ (.int .u32 (C : Int))).drew.drew.setCell ⟨b1 + 1, 6, none⟩ (.int .u32 (D : Int))) := ((ChgB.refl (b1 + 1) _).drew).set _ _
              have HP8 := Lib.hid (HP7.out.chg2 hchg (HP7.out.at1.chg hchg (by omega)) hset)
              have g4 := (op_cells (x := ⟨kind, off, width, v, (N : Int), true⟩) HP7.out.op).2.2.2.2.1
              have e4 := (op_cells (x := ⟨kind, off, width, v, (N : Int), true⟩) HP8.out.op).2.2.2.2.1
              simp only at g4 e4
              have HF3 : Hid ((w5.setCell ⟨b1 + 1, 6, none⟩ (.int .u32 (C : Int))).drew.drew.frozen? ⟨b1 + 1, 6, none⟩ = false ∧ (w5.setCell ⟨b1 + 1, 6, none⟩ (.int .u32 (C : Int))).drew.drew.cell? ⟨wr.heap.size, 4, none⟩ = some (.int .i64 (N : Int))) := Lib.hid ⟨dev_frozen (W := (w5.setCell ⟨b1 + 1, 6, none⟩ (.int .u32 (C : Int))).drew) 6 HP7.out.at2, g4⟩
              have HF4 : Hid (((w5.setCell ⟨b1 + 1, 6, none⟩ (.int .u32 (C : Int))).drew.drew.setCell ⟨b1 + 1, 6, none⟩ (.int .u32 (D : Int))).frozen? ⟨b1 + 1, 6, none⟩ = false ∧ ((w5.setCell ⟨b1 + 1, 6, none⟩ (.int .u32 (C : Int))).drew.drew.setCell ⟨b1 + 1, 6, none⟩ (.int .u32 (D : Int))).cell? ⟨wr.heap.size, 4, none⟩ = some (.int .i64 (N : Int))) := Lib.hid ⟨dev_frozen 6 HP8.out.at2, e4⟩
              have d6 : (w5.setCell ⟨b1 + 1, 6, none⟩ (.int .u32 (C : Int))).cell? ⟨b1 + 1, 6, none⟩ = some (.int .u32 (C : Int)) := dev_cell (W := (w5.setCell ⟨b1 + 1, 6, none⟩ (.int .u32 (C : Int))).drew) HP7.out.at2 rfl
              clear hset hchg g4 e4
              go_wp2_with fail
              refine wp_region_held_drew (S := fun W => W.frozen? ⟨b1 + 1, 6, none⟩ = false ∧ W.cell? ⟨wr.heap.size, 4, none⟩ = some (.int .i64 (N : Int))) (by kernel_rfl) HF3.out (fun hHeld => ?_)
              refine held_take 0 rfl (by kernel_rfl) (by kernel_rfl) (by kernel_rfl) (fun _ _ _ h => h) (by rfl) hHeld (v := ?_) (fun w hSw => ?_) (fun _ => ?_)
              rotate_left
              · ((try dsimp only at hSw); go_simp; (try with_reducible rfl))
              simp only [Act.put, List.setIfInBounds_toArray, List.set_cons_zero, List.set_cons_succ]
              refine held_take 1 rfl (by kernel_rfl) (by kernel_rfl) (by kernel_rfl) (fun _ _ _ h => h) (by rfl) hHeld (v := ?_) (fun w hSw => ?_) (fun _ => ?_)
              rotate_left
              · ((try dsimp only at hSw); go_simp; (try with_reducible rfl))
              simp only [Act.put, List.setIfInBounds_toArray, List.set_cons_zero, List.set_cons_succ]
              refine held_take 2 rfl (by kernel_rfl) (by kernel_rfl) (by kernel_rfl) (fun _ _ _ h => h) (by rfl) hHeld (v := ?_) (fun w hSw => ?_) (fun _ => ?_)
              rotate_left
              · ((try dsimp only at hSw); go_simp; (try with_reducible rfl))
              simp only [Act.put, List.setIfInBounds_toArray, List.set_cons_zero, List.set_cons_succ]
              refine held_take 3 rfl (by kernel_rfl) (by kernel_rfl) (by kernel_rfl) (fun _ _ _ h => h) (by rfl) hHeld (v := ?_) (fun w hSw => ?_) (fun _ => ?_)
              rotate_left
              · ((try dsimp only at hSw); go_simp; (try with_reducible rfl))
              simp only [Act.put, List.setIfInBounds_toArray, List.set_cons_zero, List.set_cons_succ]
              refine held_take 4 rfl (by kernel_rfl) (by kernel_rfl) (by kernel_rfl) (fun _ _ _ h => h) (by rfl) hHeld (v := ?_) (fun w hSw => ?_) (fun _ => ?_)
              rotate_left
              · ((try dsimp only at hSw); go_simp; (try with_reducible rfl))
              simp only [Act.put, List.setIfInBounds_toArray, List.set_cons_zero, List.set_cons_succ]
              refine held_take 6 rfl (by kernel_rfl) (by kernel_rfl) (by kernel_rfl) (fun _ _ _ h => h) (by rfl) hHeld (v := ?_) (fun w hSw => ?_) (fun _ => ?_)
              rotate_left
              · ((try dsimp only at hSw); go_simp; (try with_reducible rfl))
              simp only [Act.put, List.setIfInBounds_toArray, List.set_cons_zero, List.set_cons_succ]
              refine held_take 7 rfl (by kernel_rfl) (by kernel_rfl) (by kernel_rfl) (fun _ _ _ h => h) (by rfl) hHeld (v := ?_) (fun w hSw => ?_) (fun _ => ?_)
              rotate_left
              · ((try dsimp only at hSw); go_simp; (try with_reducible rfl))
              simp only [Act.put, List.setIfInBounds_toArray, List.set_cons_zero, List.set_cons_succ]
              refine held_take 8 rfl (by kernel_rfl) (by kernel_rfl) (by kernel_rfl) (fun _ _ _ h => h) (by rfl) hHeld (v := ?_) (fun w hSw => ?_) (fun _ => ?_)
              rotate_left
              · ((try dsimp only at hSw); go_simp; (try with_reducible rfl))
              simp only [Act.put, List.setIfInBounds_toArray, List.set_cons_zero, List.set_cons_succ]
              refine held_take 9 rfl (by kernel_rfl) (by kernel_rfl) (by kernel_rfl) (fun _ _ _ h => h) (by rfl) hHeld (v := ?_) (fun w hSw => ?_) (fun _ => ?_)
              rotate_left
              · ((try dsimp only at hSw); go_simp; (try with_reducible rfl))
              simp only [Act.put, List.setIfInBounds_toArray, List.set_cons_zero, List.set_cons_succ]
              refine held_take 11 rfl (by kernel_rfl) (by kernel_rfl) (by kernel_rfl) (fun _ _ _ h => h) (by rfl) hHeld (v := ?_) (fun w hSw => ?_) (fun _ => ?_)
              rotate_left
              · ((try dsimp only at hSw); go_simp; (try with_reducible rfl))
              simp only [Act.put, List.setIfInBounds_toArray, List.set_cons_zero, List.set_cons_succ]
              refine held_take 12 rfl (by kernel_rfl) (by kernel_rfl) (by kernel_rfl) (fun _ _ _ h => h) (by rfl) hHeld (v := ?_) (fun w hSw => ?_) (fun _ => ?_)
              rotate_left
              · ((try dsimp only at hSw); go_simp; (try with_reducible rfl))
              simp only [Act.put, List.setIfInBounds_toArray, List.set_cons_zero, List.set_cons_succ]
              refine held_call 5 (by kernel_rfl) rfl (by rfl) (fun K hK => ?_)
              go_simp
              refine hK.out _ _ HF3.out (fun hHeld => ?_)
              clear hK K
              refine held_take 10 rfl (by kernel_rfl) (by kernel_rfl) (by kernel_rfl) (fun _ _ _ h => h) (by rfl) hHeld (v := ?_) (fun w hSw => ?_) (fun _ => ?_)
              rotate_left
              · ((try dsimp only at hSw); go_simp; (try with_reducible rfl))
              simp only [Act.put, List.setIfInBounds_toArray, List.set_cons_zero, List.set_cons_succ]
              refine held_take 13 rfl (by kernel_rfl) (by kernel_rfl) (by kernel_rfl) (fun _ _ _ h => h) (by rfl) hHeld (v := ?_) (fun w hSw => ?_) (fun _ => ?_)
              rotate_left
              · ((try dsimp only at hSw); go_simp; (try with_reducible rfl))
              simp only [Act.put, List.setIfInBounds_toArray, List.set_cons_zero, List.set_cons_succ]
              refine held_call 14 (by kernel_rfl) rfl (by rfl) (fun K hK => ?_)
              go_simp
              refine hK.out _ _ HF4.out (fun hHeld => ?_)
              clear hK K
              refine wpAnyH_done (by kernel_rfl) ?_ _
              clear hHeld
              clear d6 es eo
              go_wp2_with fail
              refine (HH.out _ _ _ HP8.out.at1).mono ?_
              rintro e wa ⟨rfl, hs, hc⟩
              have HPQ := Lib.hid (HP8.out.chg1 (D' := fun W => CtrlAt W b1 ({ s with lines := D }:CtrlS)) hc hs)
              clear hs hc HP8
              go_wp2_with fail
              refine (refhigh7 _ _ _ _ _ HPQ.out.at2 HRD.out.1 HRD.out.2.1 HRD.out.2.2 HPQ.out.at1.2.1 HPQ.out.at1.2.2).mono ?_
              rintro e wb ⟨rfl, hb⟩
              have HPR := Lib.hid (HPQ.out.on hb (HPQ.out.at1.on hb))
              have qh : ((decide (0 < nextN ({ s with lines := D }:CtrlS).lines ({ s with lines := D }:CtrlS).mask)) != (decide (0 < nextN ({ s with lines := D }:CtrlS).lines ({ s with lines := D }:CtrlS).mask))) = false := by rw [bne_eq_false_iff_eq]
              clear hb HPQ
              go_wp2_with fail
              go_roundw
              case rel => exact ⟨k + 1, _, _, by omega, by go_num, HPR.out.at1, HPR.out.at2, HRD.out, HPR.out.bel⟩
              case measure => simp [intOf]; omega
    · go_wp2
      go_ret
      exact ⟨rfl, HBW.out⟩
end Go.Proofs.YtgmnilmeliconaaDoor
