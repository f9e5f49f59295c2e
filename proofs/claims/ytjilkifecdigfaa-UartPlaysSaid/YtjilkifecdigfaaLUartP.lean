/-
  Layer 17, UartPlays: out of what the program's UART answers.
-/
import Derived.Test.YtjilkifecdigfaaVPlayU
import Derived.Laws.BitsAllLaws
namespace Go.Proofs.Ytjilkifecdigfaa
open Go.RowKit
set_option linter.unusedVariables false
set_option linter.unusedSimpArgs false

theorem wrong17_any (x : OpS) (w : World) (hx : U64v x.off) : Calls Try.prog 8 #[.agg x.cells] w fun e w' => e = .returned (.int .i64 (accE 16 x.off x.width)) ∧ Below w.heap.size w w' := by
  obtain ⟨kind, off, width, v, n, yes⟩ := x
  obtain ⟨o0, o1⟩ : 0 ≤ off ∧ off ≤ 18446744073709551615 := hx
  have HB := Lib.hid ((Below.refl w.heap.size w).alloc (Nat.le_refl _) (.cells #[.int .u8 kind, .int .u64 off, .int .i64 width, .int .u64 v, .int .i64 n, .bool yes] 40))
  simp only [OpS.cells]
  rcases accE_cases 16 off width with ⟨e, h1⟩ | ⟨e, h1, h2⟩ | ⟨e, h1, h2, h3⟩
  · rw [e]
    have q : decide ((16 : Int) ≤ off) = true := decide_eq_true h1
    clear e h1
    go_enter Try.func8, Try.ntmps8
    go_wp2
    go_ret
    exact ⟨rfl, HB.out⟩
  · rw [e]
    have q : decide ((16 : Int) ≤ off) = false := decide_eq_false h1
    by_cases hw : width = 4
    · have hm : (off % 4 != 0) = true := by rw [bne_iff_ne]; exact fun h => h2 ⟨hw, h⟩
      clear e h1 h2
      subst hw
      go_enter Try.func8, Try.ntmps8
      go_wp2
      go_ret
      exact ⟨rfl, HB.out⟩
    · have hw' : (width != 4) = true := by rw [bne_iff_ne]; exact hw
      clear e h1 h2 hw
      go_enter Try.func8, Try.ntmps8
      go_wp2
      go_ret
      exact ⟨rfl, HB.out⟩
  · rw [e]
    have q : decide ((16 : Int) ≤ off) = false := decide_eq_false h1
    have hm : (off % 4 != 0) = false := by rw [bne_eq_false_iff_eq]; exact h3
    clear e h1 h3
    subst h2
    go_enter Try.func8, Try.ntmps8
    go_wp2
    go_ret
    exact ⟨rfl, HB.out⟩

theorem off16u {off : Int} (h0 : 0 ≤ off) (h1 : ¬ 16 ≤ off) (h2 : off % 4 = 0) : off = 0 ∨ off = 4 ∨ off = 8 ∨ off = 12 := by omega


set_option maxRecDepth 20000 in
set_option maxHeartbeats 16000000 in
theorem uartPlays_true (hK : Awake17) (hL : UartLoadOK) (hS : UartStoreOK) (hC : UartComeOK) (hH : UartHighOK) (hT : UartSentOK) (A : Option Addr) (n c : Nat) (xs : List OpS) (w : World) (hs : Scr w w.heap.size A n xs) (hx : ∀ x ∈ xs, x.ok) (hnc : n ≤ c) (hc : c ≤ 9223372036854775807) :
    Calls Try.prog 3 #[.slice A n c] w fun e w' => e = .returned (.bool true) ∧ Below w.heap.size w w' := by
  have HK := Lib.hid hK
  have HL := Lib.hid hL
  have HSS := Lib.hid hS
  have HC := Lib.hid hC
  have HH := Lib.hid hH
  have HT := Lib.hid hT
  have HSC := Lib.hid (fun (W : World) (h : Below w.heap.size w W) => hs.keep h)
  have HX := Lib.hid hx
  have HLN := Lib.hid hs.1
  clear hK hL hS hC hH hT hs hx
  go_enter Try.func3, Try.ntmps3
  go_wp2_with fail
  refine (HK.out _).mono ?_
  rintro e w1 ⟨rfl, hb⟩
  have HB1 := Lib.hid hb
  clear hb
  by_cases hbig : 200 < n
  · have q : decide ((200 : Int) < (n : Int)) = true := decide_eq_true (by omega)
    go_wp2_with fail
    refine (HK.out _).mono ?_
    rintro e w2 ⟨rfl, hb⟩
    have HB2 := Lib.hid (HB1.out.trans (hb.mono HB1.out.size))
    clear hb
    go_wp2
    go_ret
    exact ⟨rfl, HB2.out⟩
  have q : decide ((200 : Int) < (n : Int)) = false := decide_eq_false (by omega)
  obtain ⟨b1, hb1⟩ : ∃ b1, w1.heap.size = b1 := ⟨_, rfl⟩
  have HP0 := PlU.zero w w1 HB1.out
  obtain ⟨Z, hZ, hz1⟩ := uart_zero
  rw [hZ] at HP0
  obtain ⟨W2, hW2⟩ : ∃ W2, (w1.alloc (.cells Z 31)).alloc ref3Z = W2 := ⟨_, rfl⟩
  rw [hW2, hb1] at HP0
  have HP0 := Lib.hid HP0
  go_wp2_with fail
  clear hW2 hb1 q
  go_loopw [26] (fun i wr => ∃ (k : Nat) (s : UartS), k ≤ n ∧ i = .int .i64 k ∧ PlU w b1 (b1 + 1) none s s wr ∧ s.out.length ≤ k) (fun i _ => n - (intOf i).toNat)
  case atStart => exact ⟨0, _, Nat.zero_le _, rfl, HP0.out, Nat.le_refl _⟩
  case round =>
    obtain ⟨k, s, hk, rfl, hp, hou⟩ := hrel
    have HPR := Lib.hid hp
    have HOUT := Lib.hid hou
    by_cases hlt : k < n
    · have hkl : k < xs.length := by rw [HLN.out]; exact hlt
      obtain ⟨sb, so, e, hsb, hcc⟩ := (HSC.out _ hp.below).2 (by omega)
      obtain rfl : A = _ := e
      obtain ⟨c0, c1, c2, c3, c4, c5⟩ := hcc k hkl
      have hok := HX.out _ (List.getElem_mem hkl)
      generalize xs[k] = x at *
      obtain ⟨kind, off, width, v, nn, yes⟩ := x
      obtain ⟨⟨k0, k1⟩, hoff, hv, _, _⟩ := hok
      simp only at c0 c1 c2 c3 c4 c5 k0 k1 hoff hv
      have HOFF := Lib.hid hoff
      have HV := Lib.hid hv
      obtain ⟨v0, v1⟩ := hv
      have HP := Lib.hid (hp.start (.cells #[.int .u8 kind, .int .u64 off, .int .i64 width, .int .u64 v, .int .i64 nn, .bool yes] 40))
      clear hcc hsb hp hou hoff hkl
      by_cases h4 : kind < 4
      · have q4 : decide (kind < 4) = true := decide_eq_true h4
        clear h4
        go_wp2_with fail
        refine (PlU.load HL.out HP.out off width HOFF.out).mono ?_
        rintro e w5 ⟨rfl, hp⟩
        have HP5 := Lib.hid hp
        clear hp HP c0 c1 c2 c3 c4 c5
        obtain ⟨c0, c1, c2, c3, c4, c5⟩ := op_cells (x := ⟨kind, off, width, v, nn, yes⟩) HP5.out.op
        simp only at c0 c1 c2 c3 c4 c5
        go_wp2_with fail
        refine (wrong17_any ⟨kind, off, width, v, nn, yes⟩ _ HOFF.out).mono ?_
        rintro e w6 ⟨rfl, hb⟩
        have HP6 := Lib.hid (HP5.out.on hb)
        clear hb HP5 c0 c1 c2 c3 c4 c5
        obtain ⟨V, hV⟩ : ∃ V, uartLoadE s off width = V := ⟨_, rfl⟩
        obtain ⟨S1, hS1⟩ : ∃ S1, uartReadE s off width = S1 := ⟨_, rfl⟩
        obtain ⟨E, hE⟩ : ∃ E, accE 16 off width = E := ⟨_, rfl⟩
        have hcs := accE_cases 16 off width
        rw [hE] at hcs
        rw [hV]
        rw [hS1] at HP6
        rw [uartLoadE, hE] at hV
        rw [uartReadE, hE] at hS1
        simp only [hE]
        by_cases hE0 : E = 0
        · subst hE0
          have h16 : off = 0 ∨ off = 4 ∨ off = 8 ∨ off = 12 := by
            rcases hcs with ⟨h, _⟩ | ⟨h, _⟩ | ⟨_, g1, _, g3⟩
            · cases h
            · cases h
            · exact off16u HOFF.out.1 (by omega) g3
          rw [if_pos rfl] at hV hS1
          have HVV := Lib.hid hV
          have HS1 := Lib.hid hS1
          have H16 := Lib.hid h16
          have HOU : Hid (S1.out.length ≤ k + 1) := Lib.hid (by
            have : S1.out = s.out := by rw [← hS1]; unfold uartRead; split <;> rfl
            rw [this]; have := HOUT.out; omega)
          obtain ⟨c0, c1, c2, c3, c4, c5⟩ := op_cells (x := ⟨kind, off, width, v, nn, yes⟩) HP6.out.op
          simp only at c0 c1 c2 c3 c4 c5
          have qv : (V != V) = false := by rw [bne_eq_false_iff_eq]
          clear hcs hE hV hS1 h16
          go_wp2_with fail
          refine (HP6.out.refload off H16.out).mono ?_
          rintro e w7 ⟨rfl, hp⟩
          rw [HS1.out] at hp
          have HP7 := Lib.hid hp
          rw [HVV.out]
          clear hp HP6 c0 c1 c2 c3 c4 c5
          have HPD := Lib.hid (HP7.out.on (Below.refl _ _).drew)
          obtain ⟨Ao, co, x3, hsh⟩ := HPD.out.outs
          have hb2 := HPD.out.lt2
          obtain ⟨r, hr⟩ : ∃ r, ((S1).raises && decide (0 < (S1).inn.length)) = r := ⟨_, rfl⟩
          obtain ⟨str, hstr⟩ : ∃ str, strOfNums (S1).out = str := ⟨_, rfl⟩
          obtain ⟨no, hno⟩ : ∃ no, (S1).out.length = no := ⟨_, rfl⟩
          have HS := Lib.hid (fun (W' : World) (hb : Below (w7.drew).heap.size w7.drew W') => And.intro ((hb.cell (p := ⟨b1 + 1, 3, none⟩) hb2).trans x3) (run_string (hsh.below hb) co))
          have H1 := Lib.hid (PlU.high HH.out HPD.out)
          have H2 := Lib.hid (fun W' (hb : Below (w7.drew).heap.size w7.drew W') => PlU.refhigh (HPD.out.on hb))
          have H3 := Lib.hid (fun W' (hb : Below (w7.drew).heap.size w7.drew W') => PlU.sent HT.out (HPD.out.on hb) (by have := HOU.out; omega))
          rw [hr] at H1 H2
          have HSTR := Lib.hid hstr
          rw [hstr, hno] at HS
          rw [hno] at H3
          have qh : (r != r) = false := by rw [bne_eq_false_iff_eq]
          have qs : (str.toList != str.toList) = false := by rw [bne_eq_false_iff_eq]
          have qs' : (str.toList == str.toList) = true := by simp
          clear x3 hsh hb2 hr hstr hno HP7
          go_wp2_with fail
          refine wp_region_held_drew (S := fun W => W.cell? ⟨b1 + 1, 3, none⟩ = some (.slice Ao no co) ∧ (convert 33 9 (.slice Ao no co)).run Try.prog W = .ok (.string str) W) (by kernel_rfl) (HS.out _ (Below.refl _ _)) (fun hHeld => ?_)
          refine tk 0 hHeld fun _ => ?_
          refine tk 2 hHeld fun _ => ?_
          refine held_call 1 (by kernel_rfl) rfl (by rfl) (fun K hK => ?_)
          go_simp
          refine H1.out.mono ?_
          rintro e wa ⟨rfl, hba⟩
          have HBA := Lib.hid hba
          clear hba
          dsimp only
          refine hK.out _ _ (HS.out _ HBA.out) (fun hHeld => ?_)
          clear hK K
          refine held_call 3 (by kernel_rfl) rfl (by rfl) (fun K hK => ?_)
          go_simp
          refine (H2.out _ HBA.out).mono ?_
          rintro e wb ⟨rfl, rfl⟩
          dsimp only
          refine hK.out _ _ (HS.out _ HBA.out) (fun hHeld => ?_)
          clear hK K
          refine tk 4 hHeld fun _ => ?_
          refine tk 5 hHeld fun _ => ?_
          refine tk 6 hHeld fun _ => ?_
          refine tk 9 hHeld fun _ => ?_
          refine tk 10 hHeld fun _ => ?_
          refine tk 11 hHeld fun _ => ?_
          refine tk 12 hHeld fun _ => ?_
          refine tk 13 hHeld fun _ => ?_
          refine held_call 7 (by kernel_rfl) rfl (by rfl) (fun K hK => ?_)
          go_simp
          refine (H3.out _ HBA.out).mono ?_
          rintro e wc ⟨⟨As, cs, rfl, hsh2⟩, hbc⟩
          have HBC := Lib.hid (HBA.out.trans (hbc.mono HBA.out.size))
          have hcv := run_string hsh2 cs
          rw [HSTR.out] at hcv
          clear hbc hsh2
          dsimp only
          refine hK.out _ _ (HS.out _ HBC.out) (fun hHeld => ?_)
          clear hK K
          refine held_call 8 (by kernel_rfl) rfl (by rfl) (fun K hK => ?_)
          go_simp
          refine hK.out _ _ (HS.out _ HBC.out) (fun hHeld => ?_)
          clear hK K
          refine tk 14 hHeld fun _ => ?_
          refine tk 15 hHeld fun _ => ?_
          refine wpAnyH_done (by kernel_rfl) ?_ _
          clear hHeld
          have HPE := Lib.hid (HPD.out.on HBC.out).stop
          clear hcv qs qs' qh
          go_wp2_with fail
          go_roundw
          case rel => exact ⟨k + 1, _, by omega, by go_num, HPE.out, HOU.out⟩
          case measure => simp [intOf]; omega
        · have q0 : (E != 0) = true := by rw [bne_iff_ne]; exact hE0
          have q1 : (E == 0) = false := by rw [beq_eq_false_iff_ne]; exact hE0
          have q2 : (E != E) = false := by rw [bne_eq_false_iff_eq]
          rw [if_neg hE0] at hV hS1
          subst hV hS1
          have HOU : Hid (s.out.length ≤ k + 1) := Lib.hid (Nat.le_succ_of_le HOUT.out)
          clear hcs hE hE0
          have HPD := Lib.hid (HP6.out.on (Below.refl _ _).drew)
          obtain ⟨Ao, co, x3, hsh⟩ := HPD.out.outs
          have hb2 := HPD.out.lt2
          obtain ⟨r, hr⟩ : ∃ r, ((s).raises && decide (0 < (s).inn.length)) = r := ⟨_, rfl⟩
          obtain ⟨str, hstr⟩ : ∃ str, strOfNums (s).out = str := ⟨_, rfl⟩
          obtain ⟨no, hno⟩ : ∃ no, (s).out.length = no := ⟨_, rfl⟩
          have HS := Lib.hid (fun (W' : World) (hb : Below (w6.drew).heap.size w6.drew W') => And.intro ((hb.cell (p := ⟨b1 + 1, 3, none⟩) hb2).trans x3) (run_string (hsh.below hb) co))
          have H1 := Lib.hid (PlU.high HH.out HPD.out)
          have H2 := Lib.hid (fun W' (hb : Below (w6.drew).heap.size w6.drew W') => PlU.refhigh (HPD.out.on hb))
          have H3 := Lib.hid (fun W' (hb : Below (w6.drew).heap.size w6.drew W') => PlU.sent HT.out (HPD.out.on hb) (by have := HOU.out; omega))
          rw [hr] at H1 H2
          have HSTR := Lib.hid hstr
          rw [hstr, hno] at HS
          rw [hno] at H3
          have qh : (r != r) = false := by rw [bne_eq_false_iff_eq]
          have qs : (str.toList != str.toList) = false := by rw [bne_eq_false_iff_eq]
          have qs' : (str.toList == str.toList) = true := by simp
          clear x3 hsh hb2 hr hstr hno HP6
          go_wp2_with fail
          refine wp_region_held_drew (S := fun W => W.cell? ⟨b1 + 1, 3, none⟩ = some (.slice Ao no co) ∧ (convert 33 9 (.slice Ao no co)).run Try.prog W = .ok (.string str) W) (by kernel_rfl) (HS.out _ (Below.refl _ _)) (fun hHeld => ?_)
          refine tk 0 hHeld fun _ => ?_
          refine tk 2 hHeld fun _ => ?_
          refine held_call 1 (by kernel_rfl) rfl (by rfl) (fun K hK => ?_)
          go_simp
          refine H1.out.mono ?_
          rintro e wa ⟨rfl, hba⟩
          have HBA := Lib.hid hba
          clear hba
          dsimp only
          refine hK.out _ _ (HS.out _ HBA.out) (fun hHeld => ?_)
          clear hK K
          refine held_call 3 (by kernel_rfl) rfl (by rfl) (fun K hK => ?_)
          go_simp
          refine (H2.out _ HBA.out).mono ?_
          rintro e wb ⟨rfl, rfl⟩
          dsimp only
          refine hK.out _ _ (HS.out _ HBA.out) (fun hHeld => ?_)
          clear hK K
          refine tk 4 hHeld fun _ => ?_
          refine tk 5 hHeld fun _ => ?_
          refine tk 6 hHeld fun _ => ?_
          refine tk 9 hHeld fun _ => ?_
          refine tk 10 hHeld fun _ => ?_
          refine tk 11 hHeld fun _ => ?_
          refine tk 12 hHeld fun _ => ?_
          refine tk 13 hHeld fun _ => ?_
          refine held_call 7 (by kernel_rfl) rfl (by rfl) (fun K hK => ?_)
          go_simp
          refine (H3.out _ HBA.out).mono ?_
          rintro e wc ⟨⟨As, cs, rfl, hsh2⟩, hbc⟩
          have HBC := Lib.hid (HBA.out.trans (hbc.mono HBA.out.size))
          have hcv := run_string hsh2 cs
          rw [HSTR.out] at hcv
          clear hbc hsh2
          dsimp only
          refine hK.out _ _ (HS.out _ HBC.out) (fun hHeld => ?_)
          clear hK K
          refine held_call 8 (by kernel_rfl) rfl (by rfl) (fun K hK => ?_)
          go_simp
          refine hK.out _ _ (HS.out _ HBC.out) (fun hHeld => ?_)
          clear hK K
          refine tk 14 hHeld fun _ => ?_
          refine tk 15 hHeld fun _ => ?_
          refine wpAnyH_done (by kernel_rfl) ?_ _
          clear hHeld
          have HPE := Lib.hid (HPD.out.on HBC.out).stop
          clear hcv qs qs' qh
          go_wp2_with fail
          go_roundw
          case rel => exact ⟨k + 1, _, by omega, by go_num, HPE.out, HOU.out⟩
          case measure => simp [intOf]; omega
      · have q4 : decide (kind < 4) = false := decide_eq_false h4
        by_cases h8 : kind < 8
        · have q8 : decide (kind < 8) = true := decide_eq_true h8
          have hm : bits .and .u64 v 4294967295 = v % 4294967296 := by
            obtain ⟨m, rfl⟩ := Int.eq_ofNat_of_zero_le v0
            rw [show (4294967295 : Int) = ((4294967295 : Nat) : Int) from rfl, u64_and_nat m 4294967295 (by omega) (by omega)]
            rw [show (4294967295 : Nat) = 2 ^ 32 - 1 from rfl, Nat.and_two_pow_sub_one_eq_mod]
            omega
          have hm2 : IntKind.u32.wrap (v % 4294967296) = v % 4294967296 := IntWalk.u32_in _ (by omega)
          obtain ⟨VM, hVM⟩ : ∃ VM, v % 4294967296 = VM := ⟨_, rfl⟩
          have HVM32 : Hid (U32v VM) := Lib.hid (by rw [← hVM]; exact ⟨by omega, by omega⟩)
          have HSM : Hid (uartStore s off VM = uartStore s off v) := Lib.hid (by rw [← hVM]; exact uartStore_mod s off v v0)
          rw [hVM] at hm hm2
          obtain ⟨c0, c1, c2, c3, c4, c5⟩ := op_cells (x := ⟨kind, off, width, v, nn, yes⟩) HP.out.op
          simp only at c0 c1 c2 c3 c4 c5
          clear h4 h8 hVM
          go_wp2_with fail
          refine (wrong17_any ⟨kind, off, width, v, nn, yes⟩ _ HOFF.out).mono ?_
          rintro e w5 ⟨rfl, hb⟩
          have HP5 := Lib.hid (HP.out.on hb)
          clear hb HP c0 c1 c2 c3 c4 c5
          obtain ⟨c0, c1, c2, c3, c4, c5⟩ := op_cells (x := ⟨kind, off, width, v, nn, yes⟩) HP5.out.op
          simp only at c0 c1 c2 c3 c4 c5
          have HCS := Lib.hid (PlU.store HSS.out HP5.out off width v HOFF.out HV.out (by have := HOUT.out; omega))
          obtain ⟨E, hE⟩ : ∃ E, accE 16 off width = E := ⟨_, rfl⟩
          have hcs := accE_cases 16 off width
          rw [hE] at hcs HCS
          simp only [hE]
          have HSE : Hid (uartStoreE s off width v = if E = 0 then uartStore s off v else s) := Lib.hid (by rw [uartStoreE, hE])
          have q2 : (E != E) = false := by rw [bne_eq_false_iff_eq]
          have HHC := Lib.hid hcs
          clear hE hcs HP5
          go_wp2_with fail
          refine HCS.out.mono ?_
          rintro e w6 ⟨rfl, hp⟩
          rw [HSE.out] at hp
          by_cases hE0 : E = 0
          · subst hE0
            rw [if_pos rfl] at hp
            have h16 : off = 0 ∨ off = 4 ∨ off = 8 ∨ off = 12 := by
              rcases HHC.out with ⟨h, _⟩ | ⟨h, _⟩ | ⟨_, g1, _, g3⟩
              · cases h
              · cases h
              · exact off16u HOFF.out.1 (by omega) g3
            have HP6 := Lib.hid hp
            have H16 := Lib.hid h16
            obtain ⟨S1, hS1⟩ : ∃ S1, uartStore s off v = S1 := ⟨_, rfl⟩
            have HOU : Hid (S1.out.length ≤ k + 1) := Lib.hid (by have := uartStore_out s off v; rw [hS1] at this; have := HOUT.out; omega)
            rw [hS1] at HP6 HSM
            clear hp HCS c0 c1 c2 c3 c4 c5 h16 hS1 HSE
            obtain ⟨c0, c1, c2, c3, c4, c5⟩ := op_cells (x := ⟨kind, off, width, v, nn, yes⟩) HP6.out.op
            simp only at c0 c1 c2 c3 c4 c5
            go_wp2_with fail
            refine (HP6.out.refstore off VM H16.out (by have := HOUT.out; omega) HVM32.out).mono ?_
            rintro e w7 ⟨rfl, hp⟩
            rw [HSM.out] at hp
            have HP7 := Lib.hid hp
            clear hp HP6 c0 c1 c2 c3 c4 c5
            have HPD := Lib.hid (HP7.out.on (Below.refl _ _).drew)
            obtain ⟨Ao, co, x3, hsh⟩ := HPD.out.outs
            have hb2 := HPD.out.lt2
            obtain ⟨r, hr⟩ : ∃ r, ((S1).raises && decide (0 < (S1).inn.length)) = r := ⟨_, rfl⟩
            obtain ⟨str, hstr⟩ : ∃ str, strOfNums (S1).out = str := ⟨_, rfl⟩
            obtain ⟨no, hno⟩ : ∃ no, (S1).out.length = no := ⟨_, rfl⟩
            have HS := Lib.hid (fun (W' : World) (hb : Below (w7.drew).heap.size w7.drew W') => And.intro ((hb.cell (p := ⟨b1 + 1, 3, none⟩) hb2).trans x3) (run_string (hsh.below hb) co))
            have H1 := Lib.hid (PlU.high HH.out HPD.out)
            have H2 := Lib.hid (fun W' (hb : Below (w7.drew).heap.size w7.drew W') => PlU.refhigh (HPD.out.on hb))
            have H3 := Lib.hid (fun W' (hb : Below (w7.drew).heap.size w7.drew W') => PlU.sent HT.out (HPD.out.on hb) (by have := HOU.out; omega))
            rw [hr] at H1 H2
            have HSTR := Lib.hid hstr
            rw [hstr, hno] at HS
            rw [hno] at H3
            have qh : (r != r) = false := by rw [bne_eq_false_iff_eq]
            have qs : (str.toList != str.toList) = false := by rw [bne_eq_false_iff_eq]
            have qs' : (str.toList == str.toList) = true := by simp
            clear x3 hsh hb2 hr hstr hno HP7
            go_wp2_with fail
            refine wp_region_held_drew (S := fun W => W.cell? ⟨b1 + 1, 3, none⟩ = some (.slice Ao no co) ∧ (convert 33 9 (.slice Ao no co)).run Try.prog W = .ok (.string str) W) (by kernel_rfl) (HS.out _ (Below.refl _ _)) (fun hHeld => ?_)
            refine tk 0 hHeld fun _ => ?_
            refine tk 2 hHeld fun _ => ?_
            refine held_call 1 (by kernel_rfl) rfl (by rfl) (fun K hK => ?_)
            go_simp
            refine H1.out.mono ?_
            rintro e wa ⟨rfl, hba⟩
            have HBA := Lib.hid hba
            clear hba
            dsimp only
            refine hK.out _ _ (HS.out _ HBA.out) (fun hHeld => ?_)
            clear hK K
            refine held_call 3 (by kernel_rfl) rfl (by rfl) (fun K hK => ?_)
            go_simp
            refine (H2.out _ HBA.out).mono ?_
            rintro e wb ⟨rfl, rfl⟩
            dsimp only
            refine hK.out _ _ (HS.out _ HBA.out) (fun hHeld => ?_)
            clear hK K
            refine tk 4 hHeld fun _ => ?_
            refine tk 5 hHeld fun _ => ?_
            refine tk 6 hHeld fun _ => ?_
            refine tk 9 hHeld fun _ => ?_
            refine tk 10 hHeld fun _ => ?_
            refine tk 11 hHeld fun _ => ?_
            refine tk 12 hHeld fun _ => ?_
            refine tk 13 hHeld fun _ => ?_
            refine held_call 7 (by kernel_rfl) rfl (by rfl) (fun K hK => ?_)
            go_simp
            refine (H3.out _ HBA.out).mono ?_
            rintro e wc ⟨⟨As, cs, rfl, hsh2⟩, hbc⟩
            have HBC := Lib.hid (HBA.out.trans (hbc.mono HBA.out.size))
            have hcv := run_string hsh2 cs
            rw [HSTR.out] at hcv
            clear hbc hsh2
            dsimp only
            refine hK.out _ _ (HS.out _ HBC.out) (fun hHeld => ?_)
            clear hK K
            refine held_call 8 (by kernel_rfl) rfl (by rfl) (fun K hK => ?_)
            go_simp
            refine hK.out _ _ (HS.out _ HBC.out) (fun hHeld => ?_)
            clear hK K
            refine tk 14 hHeld fun _ => ?_
            refine tk 15 hHeld fun _ => ?_
            refine wpAnyH_done (by kernel_rfl) ?_ _
            clear hHeld
            have HPE := Lib.hid (HPD.out.on HBC.out).stop
            clear hcv qs qs' qh
            go_wp2_with fail
            go_roundw
            case rel => exact ⟨k + 1, _, by omega, by go_num, HPE.out, HOU.out⟩
            case measure => simp [intOf]; omega
          · rw [if_neg hE0] at hp
            have q1 : (E == 0) = false := by rw [beq_eq_false_iff_ne]; exact hE0
            have HP6 := Lib.hid hp
            have HOU : Hid (s.out.length ≤ k + 1) := Lib.hid (Nat.le_succ_of_le HOUT.out)
            clear hp HCS c0 c1 c2 c3 c4 c5 hE0 HSE
            have HPD := Lib.hid (HP6.out.on (Below.refl _ _).drew)
            obtain ⟨Ao, co, x3, hsh⟩ := HPD.out.outs
            have hb2 := HPD.out.lt2
            obtain ⟨r, hr⟩ : ∃ r, ((s).raises && decide (0 < (s).inn.length)) = r := ⟨_, rfl⟩
            obtain ⟨str, hstr⟩ : ∃ str, strOfNums (s).out = str := ⟨_, rfl⟩
            obtain ⟨no, hno⟩ : ∃ no, (s).out.length = no := ⟨_, rfl⟩
            have HS := Lib.hid (fun (W' : World) (hb : Below (w6.drew).heap.size w6.drew W') => And.intro ((hb.cell (p := ⟨b1 + 1, 3, none⟩) hb2).trans x3) (run_string (hsh.below hb) co))
            have H1 := Lib.hid (PlU.high HH.out HPD.out)
            have H2 := Lib.hid (fun W' (hb : Below (w6.drew).heap.size w6.drew W') => PlU.refhigh (HPD.out.on hb))
            have H3 := Lib.hid (fun W' (hb : Below (w6.drew).heap.size w6.drew W') => PlU.sent HT.out (HPD.out.on hb) (by have := HOU.out; omega))
            rw [hr] at H1 H2
            have HSTR := Lib.hid hstr
            rw [hstr, hno] at HS
            rw [hno] at H3
            have qh : (r != r) = false := by rw [bne_eq_false_iff_eq]
            have qs : (str.toList != str.toList) = false := by rw [bne_eq_false_iff_eq]
            have qs' : (str.toList == str.toList) = true := by simp
            clear x3 hsh hb2 hr hstr hno HP6
            go_wp2_with fail
            refine wp_region_held_drew (S := fun W => W.cell? ⟨b1 + 1, 3, none⟩ = some (.slice Ao no co) ∧ (convert 33 9 (.slice Ao no co)).run Try.prog W = .ok (.string str) W) (by kernel_rfl) (HS.out _ (Below.refl _ _)) (fun hHeld => ?_)
            refine tk 0 hHeld fun _ => ?_
            refine tk 2 hHeld fun _ => ?_
            refine held_call 1 (by kernel_rfl) rfl (by rfl) (fun K hK => ?_)
            go_simp
            refine H1.out.mono ?_
            rintro e wa ⟨rfl, hba⟩
            have HBA := Lib.hid hba
            clear hba
            dsimp only
            refine hK.out _ _ (HS.out _ HBA.out) (fun hHeld => ?_)
            clear hK K
            refine held_call 3 (by kernel_rfl) rfl (by rfl) (fun K hK => ?_)
            go_simp
            refine (H2.out _ HBA.out).mono ?_
            rintro e wb ⟨rfl, rfl⟩
            dsimp only
            refine hK.out _ _ (HS.out _ HBA.out) (fun hHeld => ?_)
            clear hK K
            refine tk 4 hHeld fun _ => ?_
            refine tk 5 hHeld fun _ => ?_
            refine tk 6 hHeld fun _ => ?_
            refine tk 9 hHeld fun _ => ?_
            refine tk 10 hHeld fun _ => ?_
            refine tk 11 hHeld fun _ => ?_
            refine tk 12 hHeld fun _ => ?_
            refine tk 13 hHeld fun _ => ?_
            refine held_call 7 (by kernel_rfl) rfl (by rfl) (fun K hK => ?_)
            go_simp
            refine (H3.out _ HBA.out).mono ?_
            rintro e wc ⟨⟨As, cs, rfl, hsh2⟩, hbc⟩
            have HBC := Lib.hid (HBA.out.trans (hbc.mono HBA.out.size))
            have hcv := run_string hsh2 cs
            rw [HSTR.out] at hcv
            clear hbc hsh2
            dsimp only
            refine hK.out _ _ (HS.out _ HBC.out) (fun hHeld => ?_)
            clear hK K
            refine held_call 8 (by kernel_rfl) rfl (by rfl) (fun K hK => ?_)
            go_simp
            refine hK.out _ _ (HS.out _ HBC.out) (fun hHeld => ?_)
            clear hK K
            refine tk 14 hHeld fun _ => ?_
            refine tk 15 hHeld fun _ => ?_
            refine wpAnyH_done (by kernel_rfl) ?_ _
            clear hHeld
            have HPE := Lib.hid (HPD.out.on HBC.out).stop
            clear hcv qs qs' qh
            go_wp2_with fail
            go_roundw
            case rel => exact ⟨k + 1, _, by omega, by go_num, HPE.out, HOU.out⟩
            case measure => simp [intOf]; omega
        · have q8 : decide (kind < 8) = false := decide_eq_false h8
          obtain ⟨z, hz⟩ : ∃ z, nn % 256 = z := ⟨_, rfl⟩
          have hz2 : 0 ≤ z ∧ z ≤ 255 := by omega
          have hm : bits .and .i64 nn 255 = z := by rw [i64_and_255, hz]
          have hm2 : IntKind.u8.wrap z = z := IntWalk.u8_in _ (by omega)
          have HZ := Lib.hid hz2
          obtain ⟨S1, hS1⟩ : ∃ S1, uartCome s z = S1 := ⟨_, rfl⟩
          have HOU : Hid (S1.out.length ≤ k + 1) := Lib.hid (by
            have : S1.out = s.out := by rw [← hS1]; unfold uartCome; split <;> rfl
            rw [this]; have := HOUT.out; omega)
          have H1C := Lib.hid (PlU.come HC.out HP.out z HZ.out)
          rw [hS1] at H1C
          have HS1 := Lib.hid hS1
          obtain ⟨q, hq⟩ : ∃ q, decide (s.inn.length < 16) = q := ⟨_, rfl⟩
          have HQ := Lib.hid hq
          obtain ⟨E, hE⟩ : ∃ E : Int, (if s.inn.length < 16 then (0 : Int) else 20) = E := ⟨_, rfl⟩
          rw [hE] at H1C
          have hEq : (q = true ∧ E = 0) ∨ (q = false ∧ E = 20) := by
            by_cases h : s.inn.length < 16
            · rw [if_pos h] at hE; rw [decide_eq_true h] at hq; exact .inl ⟨hq.symm, hE.symm⟩
            · rw [if_neg h] at hE; rw [decide_eq_false h] at hq; exact .inr ⟨hq.symm, hE.symm⟩
          clear h4 h8 hz hz2 hS1 hq hE HP
          go_wp2_with fail
          refine H1C.out.mono ?_
          rintro e w5 ⟨rfl, hp⟩
          have HP5 := Lib.hid hp
          clear hp c0 c1 c2 c3 c4 c5 H1C
          obtain ⟨c0, c1, c2, c3, c4, c5⟩ := op_cells (x := ⟨kind, off, width, v, nn, yes⟩) HP5.out.op
          simp only at c0 c1 c2 c3 c4 c5
          rcases hEq with ⟨rfl, rfl⟩ | ⟨rfl, rfl⟩
          · go_wp2_with fail
            refine (HP5.out.refcome z HZ.out).mono ?_
            rw [HQ.out, HS1.out]
            rintro e w6 ⟨rfl, hp⟩
            have HP6 := Lib.hid hp
            clear hp HP5 c0 c1 c2 c3 c4 c5
            have HPD := Lib.hid (HP6.out.on (Below.refl _ _).drew)
            obtain ⟨Ao, co, x3, hsh⟩ := HPD.out.outs
            have hb2 := HPD.out.lt2
            obtain ⟨r, hr⟩ : ∃ r, ((S1).raises && decide (0 < (S1).inn.length)) = r := ⟨_, rfl⟩
            obtain ⟨str, hstr⟩ : ∃ str, strOfNums (S1).out = str := ⟨_, rfl⟩
            obtain ⟨no, hno⟩ : ∃ no, (S1).out.length = no := ⟨_, rfl⟩
            have HS := Lib.hid (fun (W' : World) (hb : Below (w6.drew).heap.size w6.drew W') => And.intro ((hb.cell (p := ⟨b1 + 1, 3, none⟩) hb2).trans x3) (run_string (hsh.below hb) co))
            have H1 := Lib.hid (PlU.high HH.out HPD.out)
            have H2 := Lib.hid (fun W' (hb : Below (w6.drew).heap.size w6.drew W') => PlU.refhigh (HPD.out.on hb))
            have H3 := Lib.hid (fun W' (hb : Below (w6.drew).heap.size w6.drew W') => PlU.sent HT.out (HPD.out.on hb) (by have := HOU.out; omega))
            rw [hr] at H1 H2
            have HSTR := Lib.hid hstr
            rw [hstr, hno] at HS
            rw [hno] at H3
            have qh : (r != r) = false := by rw [bne_eq_false_iff_eq]
            have qs : (str.toList != str.toList) = false := by rw [bne_eq_false_iff_eq]
            have qs' : (str.toList == str.toList) = true := by simp
            clear x3 hsh hb2 hr hstr hno HP6
            go_wp2_with fail
            refine wp_region_held_drew (S := fun W => W.cell? ⟨b1 + 1, 3, none⟩ = some (.slice Ao no co) ∧ (convert 33 9 (.slice Ao no co)).run Try.prog W = .ok (.string str) W) (by kernel_rfl) (HS.out _ (Below.refl _ _)) (fun hHeld => ?_)
            refine tk 0 hHeld fun _ => ?_
            refine tk 2 hHeld fun _ => ?_
            refine held_call 1 (by kernel_rfl) rfl (by rfl) (fun K hK => ?_)
            go_simp
            refine H1.out.mono ?_
            rintro e wa ⟨rfl, hba⟩
            have HBA := Lib.hid hba
            clear hba
            dsimp only
            refine hK.out _ _ (HS.out _ HBA.out) (fun hHeld => ?_)
            clear hK K
            refine held_call 3 (by kernel_rfl) rfl (by rfl) (fun K hK => ?_)
            go_simp
            refine (H2.out _ HBA.out).mono ?_
            rintro e wb ⟨rfl, rfl⟩
            dsimp only
            refine hK.out _ _ (HS.out _ HBA.out) (fun hHeld => ?_)
            clear hK K
            refine tk 4 hHeld fun _ => ?_
            refine tk 5 hHeld fun _ => ?_
            refine tk 6 hHeld fun _ => ?_
            refine tk 9 hHeld fun _ => ?_
            refine tk 10 hHeld fun _ => ?_
            refine tk 11 hHeld fun _ => ?_
            refine tk 12 hHeld fun _ => ?_
            refine tk 13 hHeld fun _ => ?_
            refine held_call 7 (by kernel_rfl) rfl (by rfl) (fun K hK => ?_)
            go_simp
            refine (H3.out _ HBA.out).mono ?_
            rintro e wc ⟨⟨As, cs, rfl, hsh2⟩, hbc⟩
            have HBC := Lib.hid (HBA.out.trans (hbc.mono HBA.out.size))
            have hcv := run_string hsh2 cs
            rw [HSTR.out] at hcv
            clear hbc hsh2
            dsimp only
            refine hK.out _ _ (HS.out _ HBC.out) (fun hHeld => ?_)
            clear hK K
            refine held_call 8 (by kernel_rfl) rfl (by rfl) (fun K hK => ?_)
            go_simp
            refine hK.out _ _ (HS.out _ HBC.out) (fun hHeld => ?_)
            clear hK K
            refine tk 14 hHeld fun _ => ?_
            refine tk 15 hHeld fun _ => ?_
            refine wpAnyH_done (by kernel_rfl) ?_ _
            clear hHeld
            have HPE := Lib.hid (HPD.out.on HBC.out).stop
            clear hcv qs qs' qh
            go_wp2_with fail
            go_roundw
            case rel => exact ⟨k + 1, _, by omega, by go_num, HPE.out, HOU.out⟩
            case measure => simp [intOf]; omega
          · go_wp2_with fail
            refine (HP5.out.refcome z HZ.out).mono ?_
            rw [HQ.out, HS1.out]
            rintro e w6 ⟨rfl, hp⟩
            have HP6 := Lib.hid hp
            clear hp HP5 c0 c1 c2 c3 c4 c5
            have HPD := Lib.hid (HP6.out.on (Below.refl _ _).drew)
            obtain ⟨Ao, co, x3, hsh⟩ := HPD.out.outs
            have hb2 := HPD.out.lt2
            obtain ⟨r, hr⟩ : ∃ r, ((S1).raises && decide (0 < (S1).inn.length)) = r := ⟨_, rfl⟩
            obtain ⟨str, hstr⟩ : ∃ str, strOfNums (S1).out = str := ⟨_, rfl⟩
            obtain ⟨no, hno⟩ : ∃ no, (S1).out.length = no := ⟨_, rfl⟩
            have HS := Lib.hid (fun (W' : World) (hb : Below (w6.drew).heap.size w6.drew W') => And.intro ((hb.cell (p := ⟨b1 + 1, 3, none⟩) hb2).trans x3) (run_string (hsh.below hb) co))
            have H1 := Lib.hid (PlU.high HH.out HPD.out)
            have H2 := Lib.hid (fun W' (hb : Below (w6.drew).heap.size w6.drew W') => PlU.refhigh (HPD.out.on hb))
            have H3 := Lib.hid (fun W' (hb : Below (w6.drew).heap.size w6.drew W') => PlU.sent HT.out (HPD.out.on hb) (by have := HOU.out; omega))
            rw [hr] at H1 H2
            have HSTR := Lib.hid hstr
            rw [hstr, hno] at HS
            rw [hno] at H3
            have qh : (r != r) = false := by rw [bne_eq_false_iff_eq]
            have qs : (str.toList != str.toList) = false := by rw [bne_eq_false_iff_eq]
            have qs' : (str.toList == str.toList) = true := by simp
            clear x3 hsh hb2 hr hstr hno HP6
            go_wp2_with fail
            refine wp_region_held_drew (S := fun W => W.cell? ⟨b1 + 1, 3, none⟩ = some (.slice Ao no co) ∧ (convert 33 9 (.slice Ao no co)).run Try.prog W = .ok (.string str) W) (by kernel_rfl) (HS.out _ (Below.refl _ _)) (fun hHeld => ?_)
            refine tk 0 hHeld fun _ => ?_
            refine tk 2 hHeld fun _ => ?_
            refine held_call 1 (by kernel_rfl) rfl (by rfl) (fun K hK => ?_)
            go_simp
            refine H1.out.mono ?_
            rintro e wa ⟨rfl, hba⟩
            have HBA := Lib.hid hba
            clear hba
            dsimp only
            refine hK.out _ _ (HS.out _ HBA.out) (fun hHeld => ?_)
            clear hK K
            refine held_call 3 (by kernel_rfl) rfl (by rfl) (fun K hK => ?_)
            go_simp
            refine (H2.out _ HBA.out).mono ?_
            rintro e wb ⟨rfl, rfl⟩
            dsimp only
            refine hK.out _ _ (HS.out _ HBA.out) (fun hHeld => ?_)
            clear hK K
            refine tk 4 hHeld fun _ => ?_
            refine tk 5 hHeld fun _ => ?_
            refine tk 6 hHeld fun _ => ?_
            refine tk 9 hHeld fun _ => ?_
            refine tk 10 hHeld fun _ => ?_
            refine tk 11 hHeld fun _ => ?_
            refine tk 12 hHeld fun _ => ?_
            refine tk 13 hHeld fun _ => ?_
            refine held_call 7 (by kernel_rfl) rfl (by rfl) (fun K hK => ?_)
            go_simp
            refine (H3.out _ HBA.out).mono ?_
            rintro e wc ⟨⟨As, cs, rfl, hsh2⟩, hbc⟩
            have HBC := Lib.hid (HBA.out.trans (hbc.mono HBA.out.size))
            have hcv := run_string hsh2 cs
            rw [HSTR.out] at hcv
            clear hbc hsh2
            dsimp only
            refine hK.out _ _ (HS.out _ HBC.out) (fun hHeld => ?_)
            clear hK K
            refine held_call 8 (by kernel_rfl) rfl (by rfl) (fun K hK => ?_)
            go_simp
            refine hK.out _ _ (HS.out _ HBC.out) (fun hHeld => ?_)
            clear hK K
            refine tk 14 hHeld fun _ => ?_
            refine tk 15 hHeld fun _ => ?_
            refine wpAnyH_done (by kernel_rfl) ?_ _
            clear hHeld
            have HPE := Lib.hid (HPD.out.on HBC.out).stop
            clear hcv qs qs' qh
            go_wp2_with fail
            go_roundw
            case rel => exact ⟨k + 1, _, by omega, by go_num, HPE.out, HOU.out⟩
            case measure => simp [intOf]; omega
    · have HBE := Lib.hid hp.below
      clear hp
      go_wp2
      go_ret
      exact ⟨rfl, HBE.out⟩
end Go.Proofs.Ytjilkifecdigfaa
