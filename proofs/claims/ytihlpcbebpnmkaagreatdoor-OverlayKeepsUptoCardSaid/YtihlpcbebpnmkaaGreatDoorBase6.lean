/-
  Base, part 6: what the proofs of this claim lean on.
-/
import Derived.Test.YtihlpcbebpnmkaaGreatDoorBase5
import Derived.Test.YtihlpcbebpnmkaaGreatDoorBase4

/-! layProps: properties laid over a node's, at its place. -/
namespace Go.Proofs.YtihlpcbebpnmkaaGreatDoor
open Go.RowKit Go.Maps Go.WideMaps
set_option linter.unusedVariables false
set_option linter.unusedSimpArgs false
attribute [local go_sem ↓] Go.wp_at_zero Go.wp_at_succ

theorem cutO {P Q : Prop} (h : P → Q) (k : P) : Q := h k
theorem pure_namesO (P : List PV) : (P.map PV.pure).map Prod.fst = P.map PV.name := by rw [List.map_map]; rfl
theorem idxOf_at : ∀ (l : List ByteArray) (s : ByteArray) (k : Nat), idxOf l s = (k : Int) → ∃ h : k < l.length, l[k] = s
  | [], s, k, h => by rw [idxOf] at h; omega
  | x :: l, s, k, h => by
    rw [idxOf] at h
    by_cases hx : x = s
    · rw [if_pos hx] at h
      obtain rfl : k = 0 := by omega
      exact ⟨by simp, hx⟩
    · rw [if_neg hx] at h
      by_cases h0 : idxOf l s < 0
      · rw [if_pos h0] at h; omega
      · rw [if_neg h0] at h
        obtain ⟨i, rfl⟩ : ∃ i, k = i + 1 := ⟨k - 1, by omega⟩
        obtain ⟨h1, h2⟩ := idxOf_at l s i (by omega)
        exact ⟨by simpa using h1, by simpa using h2⟩
theorem set_names {P : List PV} {j : Nat} (hj : j < P.length) {q : PV} (hn : q.name = P[j].name) : (P.set j q).map PV.name = P.map PV.name := by
  rw [List.map_set]
  apply List.ext_getElem?
  intro i
  by_cases hi : j = i
  · subst hi
    rw [List.getElem?_set_self (by simpa using hj), List.getElem?_map, List.getElem?_eq_getElem hj, hn]; rfl
  · rw [List.getElem?_set_ne hi]
/-- 'i, ok := first[name]' where the name is there, and where it isn't. -/
theorem look_hit (w : World) {ops : Array Oper} {rest : List Oper} {o : Oper} {a : Act} {Q : Exit → Act → World → Prop} (hg : o.guard = none) (m x : Operand) (hop : o.op = Op.lookup 164 m x true) (b n : Nat) (D : DataW Unit)
    (hm : a.eval m = .map (some b)) (hown : w.ownsMap Tryz.prog 9 (plainElem Tryz.prog 3) b n D) (key : Value) (kl : Lit) (hx : a.eval x = key) (hkey : keyOf Tryz.prog 9 key = some kl) (c : Int) (hh : Maps.has D kl = true) (hat : D.atKey kl (.lit (.int .i64 0)) = .lit (.int .i64 c))
    (hK : wpList Tryz.prog ops Q rest (a.put o.dst (.tuple #[.int .i64 c, .bool true])) w) : wpList Tryz.prog ops Q (o :: rest) a w :=
  wpList_lookup_own_ok_int w hg m x 164 hop 9 3 .i64 lawS Tryz.underlying164 Tryz.underlying3 (zeroI _) b n D hm hown key kl hx hkey (fun c' hat' _ => by
    have h1 := hat'.symm.trans hat
    injection h1 with h1
    injection h1 with _ h1
    subst h1
    rw [hh]
    exact hK)
theorem look_miss (w : World) {ops : Array Oper} {rest : List Oper} {o : Oper} {a : Act} {Q : Exit → Act → World → Prop} (hg : o.guard = none) (m x : Operand) (hop : o.op = Op.lookup 164 m x true) (b n : Nat) (D : DataW Unit)
    (hm : a.eval m = .map (some b)) (hown : w.ownsMap Tryz.prog 9 (plainElem Tryz.prog 3) b n D) (key : Value) (kl : Lit) (hx : a.eval x = key) (hkey : keyOf Tryz.prog 9 key = some kl) (hh : Maps.has D kl = false)
    (hK : wpList Tryz.prog ops Q rest (a.put o.dst (.tuple #[.int .i64 0, .bool false])) w) : wpList Tryz.prog ops Q (o :: rest) a w :=
  wpList_lookup_own_ok_int w hg m x 164 hop 9 3 .i64 lawS Tryz.underlying164 Tryz.underlying3 (zeroI _) b n D hm hown key kl hx hkey (fun c' hat' _ => by
    have h1 := hat'.symm.trans (atKey_of_not_has hh _)
    injection h1 with h1
    injection h1 with _ h1
    subst h1
    rw [hh]
    exact hK)

set_option maxRecDepth 20000 in
set_option maxHeartbeats 16000000 in
theorem layProps_any (pb o : Nat) (t : TypeId) (cur : Array Value) (n : Nd) (F D : Nat → Prop) (A : Option Addr) (c : Nat) (l : List PV) (w : World) (h : Lay1 w pb o t cur n F D w n.pa n.pc n.props F D)
    (hl : PRow w w.heap.size A l) (hli : ∀ p ∈ l, p.In w w.heap.size ∧ p.At (fun g => ¬ F g ∧ g ≠ pb)) (hA : 0 < l.length → ∀ b o, A = some ⟨b, o, none⟩ → ¬ F b ∧ b ≠ pb)
    (hh : szPs (n.props.map PV.pure) + szPs (l.map PV.pure) ≤ 1099511627776) :
    Calls Tryz.prog 73 #[.pointer (some ⟨pb, o, none⟩), .slice A l.length c] w fun e w' => e = .returned (.tuple #[]) ∧ ∃ A' c' P' F' D', Lay1 w pb o t cur n F D w' A' c' P' F' D' ∧ P'.map PV.pure = (l.map PV.pure).foldl putP (n.props.map PV.pure) := by
  have HL0 := Lib.hid h
  have HLR := Lib.hid hl
  have HLI := Lib.hid hli
  have HAB := Lib.hid hA
  have HH := Lib.hid hh
  have HP0 : Hid (PRow w w.heap.size n.pa n.props ∧ (∀ p ∈ n.props, p.name.size ≤ 140737488351232) ∧ n.props.length ≤ 1099511627776) := by
    obtain ⟨_, h2, _, _, _, h6, _⟩ := h.own.parts
    refine ⟨(prow_own h2).2.2.2, fun p hp => (h6 p hp).1.1.1, ?_⟩
    have := szPs_len (n.props.map PV.pure)
    rw [List.length_map] at this
    omega
  have HC0 := Lib.hid h.cell.1
  have HPW := Lib.hid h.pbw
  have hlb : l.length ≤ 68719476736 := by
    have := szPs_len (l.map PV.pure)
    rw [List.length_map] at this
    omega
  clear h hl hli hA hh
  have HSZ : Hid (∀ k, szPs (((l.take k).map PV.pure).foldl putP (n.props.map PV.pure)) ≤ 1099511627776) := fun k => by
    have h1 := szPs_puts ((l.take k).map PV.pure) (n.props.map PV.pure)
    have h2 : szPs ((l.take k).map PV.pure) ≤ szPs (l.map PV.pure) := by
      have e : l.map PV.pure = (l.take k).map PV.pure ++ (l.drop k).map PV.pure := by rw [← List.map_append, List.take_append_drop]
      rw [e]
      simp only [szPs, List.map_append, List.sum_append]
      omega
    have h3 := HH.out
    omega
  obtain ⟨npa, hnpa⟩ : ∃ x, n.pa = x := ⟨_, rfl⟩
  obtain ⟨npc, hnpc⟩ : ∃ x, n.pc = x := ⟨_, rfl⟩
  obtain ⟨nps, hnps⟩ : ∃ x, n.props = x := ⟨_, rfl⟩
  rw [hnpa, hnpc, hnps] at HL0
  rw [hnpa, hnps] at HP0
  rw [hnps] at HSZ ⊢
  rw [hnpa, hnpc, hnps] at HC0
  clear hnpa hnpc hnps HH
  have b1 := HC0.out
  have hn1 := HL0.out.caps
  go_enter Tryz.func73, Tryz.ntmps73
  go_wp2_with fail
  refine (firstsP_any npa npc nps w HP0.out.1 HP0.out.2.1 HP0.out.2.2).mono ?_
  rintro e w1 ⟨⟨Dm, rfl, hsz, hfm, hom⟩, hb1⟩
  have HW1 := Lib.hid hb1
  have HS1 := Lib.hid hsz
  have HF1 := Lib.hid hfm
  have HO1 := Lib.hid hom
  clear hsz hfm hom hb1 b1
  go_wp2_with fail
  go_loopw [16] (fun i wr => ∃ k : Nat, k ≤ l.length ∧ i = .int .i64 k ∧ ∃ A1 c1 P1 F1 D1 Dm, Lay1 w pb o t cur n F D wr A1 c1 P1 F1 D1 ∧ P1.map PV.pure = ((l.take k).map PV.pure).foldl putP (nps.map PV.pure) ∧ FirstsM (P1.map PV.name) Dm ∧ wr.ownsMap Tryz.prog 9 (plainElem Tryz.prog 3) w.heap.size P1.length Dm ∧ ¬ F1 w.heap.size ∧ ¬ D1 w.heap.size) (fun i _ => l.length - (intOf i).toNat)
  case atStart =>
    exact ⟨0, Nat.zero_le _, rfl, npa, npc, nps, F, D, Dm, HL0.out.on HW1.out, by simp, HF1.out, HO1.out, fun e => by have := (HL0.out.hF' _ e).2; omega, fun e => by have := (HL0.out.hD' _ e).2.1; omega⟩
  case round =>
    obtain ⟨k, hk, rfl, A0, c0, P0, F0, D0, Dm0, hl0, hpp, hfm, hom, hmf, hmd⟩ := hrel
    have H0 := Lib.hid hl0
    have HPP := Lib.hid hpp
    have HFM0 := Lib.hid hfm
    have HOM0 := Lib.hid hom
    have HMF0 := Lib.hid hmf
    have HMD0 := Lib.hid hmd
    clear hl0 hpp hfm hom hmf hmd
    have HSP : Hid (P0.length ≤ 68719476736) := by
      have h1 := HSZ.out k
      rw [← HPP.out] at h1
      have h2 := szPs_len (P0.map PV.pure)
      rw [List.length_map] at h2
      show P0.length ≤ _
      omega
    have HCP := Lib.hid H0.out.caps
    by_cases hlt : k < l.length
    · obtain ⟨b, oo, e, hbw, hcc⟩ := HLR.out (by omega)
      obtain rfl : A = _ := e
      have hbF := HAB.out (by omega) b oo rfl
      obtain ⟨r0, r1⟩ := hcc k hlt
      replace r0 := (H0.out.chg.cell (a := ⟨b, oo + k * 2, none⟩) hbw (fun e => e.elim hbF.1 hbF.2)).trans r0
      replace r1 := (H0.out.chg.cell (a := ⟨b, oo + k * 2 + 1, none⟩) hbw (fun e => e.elim hbF.1 hbF.2)).trans r1
      replace r0 : _ = some (Value.string l[k].name) := r0
      replace r1 : _ = some (Value.slice l[k].addr l[k].zs.length l[k].cap) := r1
      clear hcc hbw hbF
      have HV := Lib.hid ((HLI.out _ (List.getElem_mem hlt)).1.chg (HLI.out _ (List.getElem_mem hlt)).2 H0.out.chg (fun g hg e => e.elim hg.1 hg.2))
      have HK := Lib.hid (key_ok HV.out.1.1)
      have HA := Lib.hid (Below.alloc (Below.refl wr.heap.size wr) (Nat.le_refl _) (.cells #[Value.string l[k].name, .slice l[k].addr l[k].zs.length l[k].cap] 61))
      have HWL : Hid (w.heap.size < wr.heap.size) := HOM0.out.lt
      have HOA := Lib.hid (HOM0.out.alloc (.cells #[Value.string l[k].name, .slice l[k].addr l[k].zs.length l[k].cap] 61))
      by_cases hmem : 0 ≤ idxOf (P0.map PV.name) l[k].name
      · obtain ⟨j, hje⟩ : ∃ j : Nat, idxOf (P0.map PV.name) l[k].name = (j : Int) := ⟨(idxOf (P0.map PV.name) l[k].name).toNat, by omega⟩
        have hhas : Maps.has Dm0 (keyL l[k].name) = true := by rw [(HFM0.out _).1]; simpa using hmem
        have HATK := Lib.hid ((HFM0.out _).2 hmem)
        obtain ⟨hj1, hj2⟩ := idxOf_at _ _ _ hje
        have HJ : Hid (j < P0.length) := by
          show j < P0.length
          simpa using hj1
        have HNM : Hid ((⟨l[k].name, none, 0, l[k].zs⟩ : PV).name = P0[j].name) := by
          exact hj2.symm.trans (List.getElem_map _)
        have HPS : Hid ((P0.set j (⟨l[k].name, none, 0, l[k].zs⟩ : PV)).map PV.pure = putP (P0.map PV.pure) l[k].pure) := by
          show (P0.set j _).map PV.pure = _
          obtain ⟨_, hput⟩ := putP_at (P0.map PV.pure) l[k].pure j (by rw [pure_namesO]; exact hje)
          rw [hput, List.map_set]; rfl
        have HL9 := Lib.hid (H0.out.on HA.out)
        have HBX : Hid ((wr.alloc (.cells #[Value.string l[k].name, .slice l[k].addr l[k].zs.length l[k].cap] 61)).cell? ⟨wr.heap.size, 0, none⟩ = some (.string l[k].name) ∧ (wr.alloc (.cells #[Value.string l[k].name, .slice l[k].addr l[k].zs.length l[k].cap] 61)).cell? ⟨wr.heap.size, 1, none⟩ = some (.slice l[k].addr l[k].zs.length l[k].cap)) := ⟨World.cell?_alloc_new _ _ _ _, World.cell?_alloc_new _ _ _ _⟩
        have HXL : Hid (wr.heap.size < (wr.alloc (.cells #[Value.string l[k].name, .slice l[k].addr l[k].zs.length l[k].cap] 61)).heap.size) := Lib.hid (by simp)
        have HXF : Hid (¬ F0 wr.heap.size) := fun e => by have := (H0.out.hF' _ e).2; omega
        have HV9 := Lib.hid ((HV.out.keep (fun _ hp => HA.out.cell hp)).more HA.out.size)
        have HOM := Lib.hid HOA.out
        have HFM := Lib.hid HFM0.out
        have HMF := Lib.hid HMF0.out
        have HMD := Lib.hid HMD0.out
        have HML : Hid (w.heap.size < (wr.alloc (.cells #[Value.string l[k].name, .slice l[k].addr l[k].zs.length l[k].cap] 61)).heap.size) := Lib.hid (by have := HWL.out; simp; omega)
        clear hmem hj1 hj2
        have HHS := Lib.hid hhas
        clear hhas
        rw [hje] at HATK
        go_wp2_with (first | (at_lookup; refine look_hit _ rfl _ _ rfl w.heap.size _ _ rfl HOA.out _ _ rfl HK.out (j : Int) HHS.out HATK.out ?_) | fail)
        clear hje
        have hAt := (HL9.out.at_ HJ.out)
        obtain ⟨gp, eA, hFg, hgpb, hgW, hfz, x0, x1⟩ := hAt
        have HGP := Lib.hid (And.intro eA (And.intro hFg (And.intro hgpb hgW)))
        have HFZ := Lib.hid hfz
        have HX1 := Lib.hid x1
        have zb := HL9.out.cell.1
        rw [eA] at zb
        clear hfz x0 x1 eA
        have hjl := HJ.out
        have hcl := HL9.out.caps
        refine wp_region_held_drew (S := fun V => V.cell? ⟨pb, o + 1, none⟩ = some (.slice (some ⟨gp, 0, none⟩) P0.length c0) ∧ V.cell? ⟨wr.heap.size, 1, none⟩ = some (.slice l[k].addr l[k].zs.length l[k].cap)) (by kernel_rfl) (by exact ⟨zb, HBX.out.2⟩) (fun hHeld => ?_)
        refine held_take 0 rfl (by kernel_rfl) (by kernel_rfl) (by kernel_rfl) (fun _ _ _ h => h) (by rfl) hHeld (v := ?_) (fun w hSw => ?_) (fun _ => ?_)
        rotate_left
        · ((try dsimp only at hSw); go_simp; (try with_reducible rfl))
        simp only [Act.put, List.setIfInBounds_toArray, List.set_cons_zero, List.set_cons_succ]
        refine held_take 1 rfl (by kernel_rfl) (by kernel_rfl) (by kernel_rfl) (fun _ _ _ h => h) (by rfl) hHeld (v := ?_) (fun w hSw => ?_) (fun _ => ?_)
        rotate_left
        · ((try dsimp only at hSw); go_simp; (try with_reducible rfl))
        simp only [Act.put, List.setIfInBounds_toArray, List.set_cons_zero, List.set_cons_succ]
        refine held_take 2 rfl (by kernel_rfl) (by kernel_rfl) (by kernel_rfl) (fun _ _ _ h => h) (by rfl) hHeld (v := ?_) (fun w hSw => ?_) (fun _ => ?_)
        rotate_left
        · ((try dsimp only at hSw); go_simp; (try with_reducible rfl))
        simp only [Act.put, List.setIfInBounds_toArray, List.set_cons_zero, List.set_cons_succ]
        refine held_take 3 rfl (by kernel_rfl) (by kernel_rfl) (by kernel_rfl) (fun _ _ _ h => h) (by rfl) hHeld (v := ?_) (fun w hSw => ?_) (fun _ => ?_)
        rotate_left
        · ((try dsimp only at hSw); go_simp; (try with_reducible rfl))
        simp only [Act.put, List.setIfInBounds_toArray, List.set_cons_zero, List.set_cons_succ]
        refine held_take 4 rfl (by kernel_rfl) (by kernel_rfl) (by kernel_rfl) (fun _ _ _ h => h) (by rfl) hHeld (v := ?_) (fun w hSw => ?_) (fun _ => ?_)
        rotate_left
        · ((try dsimp only at hSw); go_simp; (try with_reducible rfl))
        simp only [Act.put, List.setIfInBounds_toArray, List.set_cons_zero, List.set_cons_succ]
        refine held_take 5 rfl (by kernel_rfl) (by kernel_rfl) (by kernel_rfl) (fun _ _ _ h => h) (by rfl) hHeld (v := ?_) (fun w hSw => ?_) (fun _ => ?_)
        rotate_left
        · ((try dsimp only at hSw); go_simp; (try with_reducible rfl))
        simp only [Act.put, List.setIfInBounds_toArray, List.set_cons_zero, List.set_cons_succ]
        refine held_take 6 rfl (by kernel_rfl) (by kernel_rfl) (by kernel_rfl) (fun _ _ _ h => h) (by rfl) hHeld (v := ?_) (fun w hSw => ?_) (fun _ => ?_)
        rotate_left
        · ((try dsimp only at hSw); go_simp; (try with_reducible rfl))
        simp only [Act.put, List.setIfInBounds_toArray, List.set_cons_zero, List.set_cons_succ]
        refine held_call 7 (by kernel_rfl) rfl (by rfl) (fun K hK => ?_)
        go_simp
        refine (obclone_any l[k].addr l[k].zs.length l[k].cap l[k].zs _ (by exact (HV9.out.2.1.below (Below.refl _ _).drew)) HV9.out.1.2).mono ?_
        rintro e w5 ⟨v', rfl, hown5, hb5⟩
        have HB5 := Lib.hid ((Below.refl _ _).drew.trans hb5)
        obtain ⟨A5, c5, rfl, q1, q2, q3, q4⟩ := own_val hown5 HV9.out.2.1.2.1
        have HQ := Lib.hid (And.intro q1 (And.intro q2 (And.intro q3 q4)))
        have fz5 := (HB5.out.frozen (p := ⟨gp, j * 2 + 1, none⟩) HGP.out.2.2.2).trans (HFZ.out _)
        have y5 := (HB5.out.cell (p := ⟨gp, j * 2 + 1, none⟩) HGP.out.2.2.2).trans HX1.out
        have z1 := (HB5.out.cell (p := ⟨pb, o + 1, none⟩) (Nat.lt_of_lt_of_le HL9.out.pbw HL9.out.chg.size)).trans zb
        have z2 := (HB5.out.cell (p := ⟨wr.heap.size, 1, none⟩) HXL.out).trans HBX.out.2
        have HPUT := Lib.hid (HL9.out.put HB5.out HJ.out HGP.out.1 (q := ⟨l[k].name, A5, c5, l[k].zs⟩) ⟨HV9.out.1, HQ.out.1, HQ.out.2.1, HQ.out.2.2.1⟩ (fun h0 b o e => by
          have h1 := (HQ.out.2.2.2 b o h0 e).1
          simpa using h1) HNM.out)
        have HNX : Hid (gp ≠ wr.heap.size) := fun e => HXF.out (e ▸ HGP.out.2.1)
        clear hown5 q1 q2 q3 q4 hb5 zb
        dsimp only
        refine hK.out _ _ ⟨z1, z2⟩ (fun hHeld => ?_)
        clear hK K
        refine held_take 8 rfl (by kernel_rfl) (by kernel_rfl) (by kernel_rfl) (fun _ _ _ h => h) (by rfl) hHeld (v := ?_) (fun w hSw => ?_) (fun _ => ?_)
        rotate_left
        · ((try dsimp only at hSw); go_simp; (try with_reducible rfl))
        simp only [Act.put, List.setIfInBounds_toArray, List.set_cons_zero, List.set_cons_succ]
        refine held_take 9 rfl (by kernel_rfl) (by kernel_rfl) (by kernel_rfl) (fun _ _ _ h => h) (by rfl) hHeld (v := ?_) (fun w hSw => ?_) (fun _ => ?_)
        rotate_left
        · ((try dsimp only at hSw); go_simp; (try with_reducible rfl))
        simp only [Act.put, List.setIfInBounds_toArray, List.set_cons_zero, List.set_cons_succ]
        generalize P0[j].val = pjv at y5
        refine held_call 10 (by kernel_rfl) rfl (by rfl) (fun K hK => ?_)
        go_simp
        have nb : ∀ {b i i' : Nat}, gp ≠ b → (⟨gp, i, none⟩ : Addr) ≠ ⟨b, i', none⟩ := fun h e => h (by simpa using congrArg Addr.block e)
        refine hK.out _ _ ⟨(World.cell?_setCell_other _ _ _ _ (nb HGP.out.2.2.1)).trans z1, (World.cell?_setCell_other _ _ _ _ (nb HNX.out)).trans z2⟩ (fun hHeld => ?_)
        clear hK K z1 z2 nb y5 fz5
        refine wpAnyH_done (by kernel_rfl) ?_ _
        clear hHeld hjl hcl
        go_wp2
        go_roundw
        case rel =>
          refine ⟨k + 1, by omega, by go_num, A0, c0, P0.set j ⟨l[k].name, A5, c5, l[k].zs⟩, F0, _, Dm0, HPUT.out, ?_, ?_, ?_, HMF.out, fun e => ?_⟩
          · rw [take_snoc hlt, List.map_append, List.foldl_append, ← HPP.out]
            have h := HPS.out
            rw [List.map_set] at h ⊢
            exact h
          · rw [set_names (q := ⟨l[k].name, A5, c5, l[k].zs⟩) HJ.out HNM.out]
            exact HFM.out
          · rw [List.length_set]
            refine ownsMap_same HOM.out ?_
            rw [heap_setCell_other _ _ _ _ (fun e => HMF.out (by
              have e' : w.heap.size = gp := e
              rw [e']
              exact HGP.out.2.1))]
            exact HB5.out.block _ HML.out
          · rcases e with e | e
            · exact HMD.out e
            · have := HML.out
              omega
        case measure =>
          simp [intOf]
          omega
      · have HHS : Hid (Maps.has Dm0 (keyL l[k].name) = false) := Lib.hid (by rw [(HFM0.out _).1]; simpa using hmem)
        have hidx : idxOf (P0.map PV.name) l[k].name < 0 := by omega
        have HFP := Lib.hid (firstsM_put HFM0.out HOM0.out.isMap hidx)
        have HPN : Hid (putP (P0.map PV.pure) l[k].pure = P0.map PV.pure ++ [l[k].pure]) := Lib.hid (putP_none _ _ (by rw [pure_namesO]; exact hidx))
        have HLA := Lib.hid (H0.out.on HA.out)
        have zb := HLA.out.cell.1
        have hcl := HCP.out
        have hsp := HSP.out
        clear hmem hidx
        go_wp2_with (first | (at_lookup; refine look_miss _ rfl _ _ rfl w.heap.size _ _ rfl HOA.out _ _ rfl HK.out HHS.out ?_) | (at_mapUpdate; refine wpList_mapUpdate_own _ rfl _ _ _ 164 rfl 9 3 lawS Tryz.underlying164 (plainElem Tryz.prog 3) w.heap.size P0.length _ rfl HOA.out (by unfold maxLen; omega) _ _ _ rfl rfl HK.out (.lit (.int .i64 P0.length)) [] (elemI (by omega) (by omega)) ?_; intro w3 hown3 hgrow3) | fail)
        have HO3 := Lib.hid hown3
        have HG3 := Lib.hid hgrow3
        clear hown3 hgrow3 zb hcl
        have HWN : Hid (wr.heap.size ≠ w.heap.size) := Lib.hid (by have := HWL.out; omega)
        have HS3 : Hid (wr.heap.size < w3.heap.size) := Lib.hid (by have := HG3.out.size; simp at this; omega)
        have HB3 : Hid (w3.cell? ⟨wr.heap.size, 0, none⟩ = some (.string l[k].name) ∧ w3.cell? ⟨wr.heap.size, 1, none⟩ = some (.slice l[k].addr l[k].zs.length l[k].cap)) :=
          ⟨(World.cell?_of_block (HG3.out.block wr.heap.size (by simp) (fun e => HWN.out (by injection e)))).trans (World.cell?_alloc_new _ _ _ _), (World.cell?_of_block (HG3.out.block wr.heap.size (by simp) (fun e => HWN.out (by injection e)))).trans (World.cell?_alloc_new _ _ _ _)⟩
        have HL3 := Lib.hid (HLA.out.kept (Chg.ofGrown (F := fun g => g = w.heap.size) HG3.out (fun g e => by injection e with e; exact e.symm)) (fun g e => by
          subst e
          exact ⟨Nat.le_refl _, HMF0.out, HMD0.out⟩))
        have HV3 := Lib.hid (((HV.out.keep (fun _ hp => HA.out.cell hp)).more HA.out.size))
        obtain ⟨g', c1, w4, hrun, hc4, x1, xf, hl4, hg4⟩ := (HL3.out.on (Below.refl _ _).drew).app l[k].name HV.out.1.1 (by omega) 24
        have zb := HL3.out.cell.1
        have zba : ∀ o', (w3.alloc o').cell? ⟨pb, o + 1, none⟩ = some (.slice A0 P0.length c0) := fun o' => Lib.cell?_alloc_some o' zb
        have HRUN := Lib.hid hrun
        have HC4 := Lib.hid hc4
        have HX4 := Lib.hid (And.intro x1 xf)
        have HL4 := Lib.hid hl4
        have HG4 := Lib.hid hg4
        clear hrun hc4 x1 xf hl4 hg4
        have HN0 : Hid (¬ F0 wr.heap.size) := fun e => by have := (H0.out.hF' _ e).2; omega
        have HB4 : Hid (w4.cell? ⟨wr.heap.size, 0, none⟩ = some (.string l[k].name) ∧ w4.cell? ⟨wr.heap.size, 1, none⟩ = some (.slice l[k].addr l[k].zs.length l[k].cap)) :=
          ⟨(HC4.out.cell (a := ⟨wr.heap.size, 0, none⟩) HS3.out HN0.out).trans HB3.out.1, (HC4.out.cell (a := ⟨wr.heap.size, 1, none⟩) HS3.out HN0.out).trans HB3.out.2⟩
        have HPB : Hid (wr.heap.size ≠ pb) := fun e => by have h1 := HPW.out; have h2 := HWL.out; omega
        have HB3a : Hid (∀ o', (w3.alloc o').cell? ⟨wr.heap.size, 0, none⟩ = some (.string l[k].name) ∧ (w3.alloc o').cell? ⟨wr.heap.size, 1, none⟩ = some (.slice l[k].addr l[k].zs.length l[k].cap)) := fun o' => ⟨Lib.cell?_alloc_some _ HB3.out.1, Lib.cell?_alloc_some _ HB3.out.2⟩
        refine wp_region_held_drew (S := fun V => V.cell? ⟨wr.heap.size, 0, none⟩ = some (.string l[k].name) ∧ V.cell? ⟨wr.heap.size, 1, none⟩ = some (.slice l[k].addr l[k].zs.length l[k].cap)) (by kernel_rfl) (by exact HB3.out) (fun hHeld => ?_)
        refine held_take 0 rfl (by kernel_rfl) (by kernel_rfl) (by kernel_rfl) (fun _ _ _ h => h) (by rfl) hHeld (v := ?_) (fun w hSw => ?_) (fun _ => ?_)
        rotate_left
        · ((try dsimp only at hSw); go_simp; (try with_reducible rfl))
        simp only [Act.put, List.setIfInBounds_toArray, List.set_cons_zero, List.set_cons_succ]
        refine held_take 1 rfl (by kernel_rfl) (by kernel_rfl) (by kernel_rfl) (fun _ _ _ h => h) (by rfl) hHeld (v := ?_) (fun w hSw => ?_) (fun _ => ?_)
        rotate_left
        · ((try dsimp only at hSw); go_simp; (try with_reducible rfl))
        simp only [Act.put, List.setIfInBounds_toArray, List.set_cons_zero, List.set_cons_succ]
        refine held_take 2 rfl (by kernel_rfl) (by kernel_rfl) (by kernel_rfl) (fun _ _ _ h => h) (by rfl) hHeld (v := ?_) (fun w hSw => ?_) (fun _ => ?_)
        rotate_left
        · ((try dsimp only at hSw); go_simp; (try with_reducible rfl))
        simp only [Act.put, List.setIfInBounds_toArray, List.set_cons_zero, List.set_cons_succ]
        refine held_take 3 rfl (by kernel_rfl) (by kernel_rfl) (by kernel_rfl) (fun _ _ _ h => h) (by rfl) hHeld (v := ?_) (fun w hSw => ?_) (fun _ => ?_)
        rotate_left
        · ((try dsimp only at hSw); go_simp; (try with_reducible rfl))
        simp only [Act.put, List.setIfInBounds_toArray, List.set_cons_zero, List.set_cons_succ]
        refine held_take 5 rfl (by kernel_rfl) (by kernel_rfl) (by kernel_rfl) (fun _ _ _ h => h) (by rfl) hHeld (v := ?_) (fun w hSw => ?_) (fun _ => ?_)
        rotate_left
        · ((try dsimp only at hSw); go_simp; (try with_reducible rfl))
        simp only [Act.put, List.setIfInBounds_toArray, List.set_cons_zero, List.set_cons_succ]
        refine held_take 6 rfl (by kernel_rfl) (by kernel_rfl) (by kernel_rfl) (fun _ _ _ h => h) (by rfl) hHeld (v := ?_) (fun w hSw => ?_) (fun _ => ?_)
        rotate_left
        · ((try dsimp only at hSw); go_simp; (try with_reducible rfl))
        simp only [Act.put, List.setIfInBounds_toArray, List.set_cons_zero, List.set_cons_succ]
        refine held_take 7 rfl (by kernel_rfl) (by kernel_rfl) (by kernel_rfl) (fun _ _ _ h => h) (by rfl) hHeld (v := ?_) (fun w hSw => ?_) (fun _ => ?_)
        rotate_left
        · ((try dsimp only at hSw); go_simp; (try with_reducible rfl))
        simp only [Act.put, List.setIfInBounds_toArray, List.set_cons_zero, List.set_cons_succ]
        apply cutO
        case h =>
          intro key
          refine held_two 4 8 (by kernel_rfl) rfl rfl (by rfl) (by rfl) (fun K hK => ?_) (fun K hK => ?_)
          · go_simp
            refine hK.out _ _ HB3.out (fun hHeld => ?_)
            clear hK K
            (try simp only [Act.put, List.setIfInBounds_toArray, List.set_cons_zero, List.set_cons_succ])
            refine held_call 8 (by kernel_rfl) rfl (by rfl) (fun K hK => ?_)
            go_simp
            refine hK.out _ _ (HB3a.out _) (fun hHeld => ?_)
            clear hK K
            exact key
          · go_simp
            refine hK.out _ _ (HB3a.out _) (fun hHeld => ?_)
            clear hK K
            (try simp only [Act.put, List.setIfInBounds_toArray, List.set_cons_zero, List.set_cons_succ])
            refine held_call 4 (by kernel_rfl) rfl (by rfl) (fun K hK => ?_)
            go_simp
            refine hK.out _ _ (HB3a.out _) (fun hHeld => ?_)
            clear hK K
            exact key
        case k =>
          refine held_call 9 (by kernel_rfl) rfl (by rfl) (fun K hK => ?_)
          refine Lib.wp_append_run_sl _ _ _ _ rfl _ _ rfl rfl HRUN.out ?_
          refine hK.out _ _ HB4.out (fun hHeld => ?_)
          clear hK K
          simp only [Act.put, List.setIfInBounds_toArray, List.set_cons_zero, List.set_cons_succ]
          refine held_take 10 rfl (by kernel_rfl) (by kernel_rfl) (by kernel_rfl) (fun _ _ _ h => h) (by rfl) hHeld (v := ?_) (fun w hSw => ?_) (fun _ => ?_)
          rotate_left
          · ((try dsimp only at hSw); go_simp; (try with_reducible rfl))
          simp only [Act.put, List.setIfInBounds_toArray, List.set_cons_zero, List.set_cons_succ]
          refine held_take 11 rfl (by kernel_rfl) (by kernel_rfl) (by kernel_rfl) (fun _ _ _ h => h) (by rfl) hHeld (v := ?_) (fun w hSw => ?_) (fun _ => ?_)
          rotate_left
          · ((try dsimp only at hSw); go_simp; (try with_reducible rfl))
          simp only [Act.put, List.setIfInBounds_toArray, List.set_cons_zero, List.set_cons_succ]
          obtain ⟨x1, xf⟩ := HX4.out
          refine held_call 12 (by kernel_rfl) rfl (by rfl) (fun K hK => ?_)
          go_simp
          refine hK.out _ _ ⟨(World.cell?_setCell_other _ _ _ _ (fun e => HPB.out (by simpa using (congrArg Addr.block e).symm))).trans HB4.out.1, (World.cell?_setCell_other _ _ _ _ (fun e => HPB.out (by simpa using (congrArg Addr.block e).symm))).trans HB4.out.2⟩ (fun hHeld => ?_)
          clear hK K
          refine wpAnyH_done (by kernel_rfl) ?_ _
          clear hHeld x1 xf zb zba
          go_wp2_with fail
          have HL9 := HL4
          obtain ⟨W9, hW9⟩ : ∃ W9, w4.setCell ⟨pb, o + 1, none⟩ (.slice (some ⟨g', 0, none⟩) (P0.length + 1) c1) = W9 := ⟨_, rfl⟩
          have HW9 : Hid (W9.heap.size = w4.heap.size ∧ (∀ q, q ≠ pb → W9.heap[q]? = w4.heap[q]?) ∧ w3.heap.size ≤ w4.heap.size) := by
            refine ⟨by rw [← hW9]; simp, fun q hq => ?_, HC4.out.size⟩
            rw [← hW9]
            exact heap_setCell_other _ _ _ _ hq
          rw [hW9] at HL9 ⊢
          obtain ⟨A1, hA1⟩ : ∃ A1, (some ⟨g', 0, none⟩ : Option Addr) = A1 := ⟨_, rfl⟩
          obtain ⟨P1, hP1⟩ : ∃ P1, P0 ++ [(⟨l[k].name, none, 0, []⟩ : PV)] = P1 := ⟨_, rfl⟩
          obtain ⟨F1, hF1⟩ : ∃ F1 : Nat → Prop, (fun g => F0 g ∨ g = g') = F1 := ⟨_, rfl⟩
          obtain ⟨Dm1, hDm1⟩ : ∃ Dm1, Dm0.put (keyL l[k].name) (.lit (.int .i64 P0.length)) = Dm1 := ⟨_, rfl⟩
          rw [hA1, hP1, hF1] at HL9
          have HPL : Hid (P1.length = P0.length + 1) := Lib.hid (by rw [← hP1]; simp)
          have HJ : Hid (P0.length < P1.length) := Lib.hid (by rw [HPL.out]; omega)
          have HNM : Hid ((⟨l[k].name, none, 0, l[k].zs⟩ : PV).name = P1[P0.length].name) := Lib.hid (by
            subst hP1
            have e : (P0 ++ [(⟨l[k].name, none, 0, []⟩ : PV)])[P0.length]'(by simp) = ⟨l[k].name, none, 0, []⟩ := by rw [List.getElem_append_right (Nat.le_refl _)]; simp
            exact (congrArg PV.name e).symm)
          have HPS : Hid ((P1.set P0.length (⟨l[k].name, none, 0, l[k].zs⟩ : PV)).map PV.pure = putP (P0.map PV.pure) l[k].pure) := Lib.hid (by
            rw [HPN.out, ← hP1, List.set_append_right _ _ (Nat.le_refl _), Nat.sub_self, List.map_append]; rfl)
          have HFM : Hid (FirstsM (P1.map PV.name) Dm1) := Lib.hid (by
            have h := HFP.out
            rw [List.length_map, hDm1] at h
            rw [← hP1, List.map_append]
            exact h)
          have HXF : Hid (¬ F1 wr.heap.size) := Lib.hid (by
            rw [← hF1]
            rintro (e | e)
            · exact HN0.out e
            · rcases HG4.out with h | h
              · exact HN0.out (e ▸ h)
              · have h1 := HS3.out
                replace h : g' = w3.heap.size + 1 := h
                omega)
          have HMF : Hid (¬ F1 w.heap.size) := Lib.hid (by
            rw [← hF1]
            rintro (e | e)
            · exact HMF0.out e
            · rcases HG4.out with h | h
              · exact HMF0.out (e ▸ h)
              · have h1 := HS3.out
                have h2 := HWL.out
                replace h : g' = w3.heap.size + 1 := h
                omega)
          have HMD := Lib.hid HMD0.out
          have HXL : Hid (wr.heap.size < W9.heap.size) := Lib.hid (by have h1 := HW9.out; have h2 := HS3.out; omega)
          have HML : Hid (w.heap.size < W9.heap.size) := Lib.hid (by have h1 := HW9.out; have h2 := HS3.out; have h3 := HWL.out; omega)
          have HBX : Hid (W9.cell? ⟨wr.heap.size, 0, none⟩ = some (.string l[k].name) ∧ W9.cell? ⟨wr.heap.size, 1, none⟩ = some (.slice l[k].addr l[k].zs.length l[k].cap)) :=
            ⟨(World.cell?_of_block (HW9.out.2.1 wr.heap.size HPB.out)).trans HB4.out.1, (World.cell?_of_block (HW9.out.2.1 wr.heap.size HPB.out)).trans HB4.out.2⟩
          have HV9 := Lib.hid ((HLI.out _ (List.getElem_mem hlt)).1.chg (HLI.out _ (List.getElem_mem hlt)).2 HL9.out.chg (fun g hg e => e.elim hg.1 hg.2))
          have HOM : Hid (W9.ownsMap Tryz.prog 9 (plainElem Tryz.prog 3) w.heap.size P1.length Dm1) := Lib.hid (by
            rw [HPL.out, ← hDm1]
            exact ownsMap_same HO3.out ((HW9.out.2.1 w.heap.size (fun e => by have := HPW.out; omega)).trans (HC4.out.block w.heap.size (by have h1 := HS3.out; have h2 := HWL.out; show w.heap.size < w3.heap.size; omega) HMF0.out)))
          clear hW9 hA1 hP1 hF1 hDm1
          have hAt := (HL9.out.at_ HJ.out)
          obtain ⟨gp, eA, hFg, hgpb, hgW, hfz, x0, x1⟩ := hAt
          have HGP := Lib.hid (And.intro eA (And.intro hFg (And.intro hgpb hgW)))
          have HFZ := Lib.hid hfz
          have HX1 := Lib.hid x1
          have zb := HL9.out.cell.1
          rw [eA] at zb
          clear hfz x0 x1 eA
          have hjl := HJ.out
          have hcl := HL9.out.caps
          refine wp_region_held_drew (S := fun V => V.cell? ⟨pb, o + 1, none⟩ = some (.slice (some ⟨gp, 0, none⟩) P1.length c1) ∧ V.cell? ⟨wr.heap.size, 1, none⟩ = some (.slice l[k].addr l[k].zs.length l[k].cap)) (by kernel_rfl) (by exact ⟨zb, HBX.out.2⟩) (fun hHeld => ?_)
          refine held_take 0 rfl (by kernel_rfl) (by kernel_rfl) (by kernel_rfl) (fun _ _ _ h => h) (by rfl) hHeld (v := ?_) (fun w hSw => ?_) (fun _ => ?_)
          rotate_left
          · ((try dsimp only at hSw); go_simp; (try with_reducible rfl))
          simp only [Act.put, List.setIfInBounds_toArray, List.set_cons_zero, List.set_cons_succ]
          refine held_take 1 rfl (by kernel_rfl) (by kernel_rfl) (by kernel_rfl) (fun _ _ _ h => h) (by rfl) hHeld (v := ?_) (fun w hSw => ?_) (fun _ => ?_)
          rotate_left
          · ((try dsimp only at hSw); go_simp; (try with_reducible rfl))
          simp only [Act.put, List.setIfInBounds_toArray, List.set_cons_zero, List.set_cons_succ]
          refine held_take 2 rfl (by kernel_rfl) (by kernel_rfl) (by kernel_rfl) (fun _ _ _ h => h) (by rfl) hHeld (v := ?_) (fun w hSw => ?_) (fun _ => ?_)
          rotate_left
          · ((try dsimp only at hSw); go_simp; (try with_reducible rfl))
          simp only [Act.put, List.setIfInBounds_toArray, List.set_cons_zero, List.set_cons_succ]
          refine held_take 3 rfl (by kernel_rfl) (by kernel_rfl) (by kernel_rfl) (fun _ _ _ h => h) (by rfl) hHeld (v := ?_) (fun w hSw => ?_) (fun _ => ?_)
          rotate_left
          · ((try dsimp only at hSw); go_simp; (try with_reducible rfl))
          simp only [Act.put, List.setIfInBounds_toArray, List.set_cons_zero, List.set_cons_succ]
          refine held_take 4 rfl (by kernel_rfl) (by kernel_rfl) (by kernel_rfl) (fun _ _ _ h => h) (by rfl) hHeld (v := ?_) (fun w hSw => ?_) (fun _ => ?_)
          rotate_left
          · ((try dsimp only at hSw); go_simp; (try with_reducible rfl))
          simp only [Act.put, List.setIfInBounds_toArray, List.set_cons_zero, List.set_cons_succ]
          refine held_take 5 rfl (by kernel_rfl) (by kernel_rfl) (by kernel_rfl) (fun _ _ _ h => h) (by rfl) hHeld (v := ?_) (fun w hSw => ?_) (fun _ => ?_)
          rotate_left
          · ((try dsimp only at hSw); go_simp; (try with_reducible rfl))
          simp only [Act.put, List.setIfInBounds_toArray, List.set_cons_zero, List.set_cons_succ]
          refine held_take 6 rfl (by kernel_rfl) (by kernel_rfl) (by kernel_rfl) (fun _ _ _ h => h) (by rfl) hHeld (v := ?_) (fun w hSw => ?_) (fun _ => ?_)
          rotate_left
          · ((try dsimp only at hSw); go_simp; (try with_reducible rfl))
          simp only [Act.put, List.setIfInBounds_toArray, List.set_cons_zero, List.set_cons_succ]
          refine held_call 7 (by kernel_rfl) rfl (by rfl) (fun K hK => ?_)
          go_simp
          refine (obclone_any l[k].addr l[k].zs.length l[k].cap l[k].zs _ (by exact (HV9.out.2.1.below (Below.refl _ _).drew)) HV9.out.1.2).mono ?_
          rintro e w5 ⟨v', rfl, hown5, hb5⟩
          have HB5 := Lib.hid ((Below.refl _ _).drew.trans hb5)
          obtain ⟨A5, c5, rfl, q1, q2, q3, q4⟩ := own_val hown5 HV9.out.2.1.2.1
          have HQ := Lib.hid (And.intro q1 (And.intro q2 (And.intro q3 q4)))
          have fz5 := (HB5.out.frozen (p := ⟨gp, P0.length * 2 + 1, none⟩) HGP.out.2.2.2).trans (HFZ.out _)
          have y5 := (HB5.out.cell (p := ⟨gp, P0.length * 2 + 1, none⟩) HGP.out.2.2.2).trans HX1.out
          have z1 := (HB5.out.cell (p := ⟨pb, o + 1, none⟩) (Nat.lt_of_lt_of_le HL9.out.pbw HL9.out.chg.size)).trans zb
          have z2 := (HB5.out.cell (p := ⟨wr.heap.size, 1, none⟩) HXL.out).trans HBX.out.2
          have HPUT := Lib.hid (HL9.out.put HB5.out HJ.out HGP.out.1 (q := ⟨l[k].name, A5, c5, l[k].zs⟩) ⟨HV9.out.1, HQ.out.1, HQ.out.2.1, HQ.out.2.2.1⟩ (fun h0 b o e => by
            have h1 := (HQ.out.2.2.2 b o h0 e).1
            simpa using h1) HNM.out)
          have HNX : Hid (gp ≠ wr.heap.size) := fun e => HXF.out (e ▸ HGP.out.2.1)
          clear hown5 q1 q2 q3 q4 hb5 zb
          dsimp only
          refine hK.out _ _ ⟨z1, z2⟩ (fun hHeld => ?_)
          clear hK K
          refine held_take 8 rfl (by kernel_rfl) (by kernel_rfl) (by kernel_rfl) (fun _ _ _ h => h) (by rfl) hHeld (v := ?_) (fun w hSw => ?_) (fun _ => ?_)
          rotate_left
          · ((try dsimp only at hSw); go_simp; (try with_reducible rfl))
          simp only [Act.put, List.setIfInBounds_toArray, List.set_cons_zero, List.set_cons_succ]
          refine held_take 9 rfl (by kernel_rfl) (by kernel_rfl) (by kernel_rfl) (fun _ _ _ h => h) (by rfl) hHeld (v := ?_) (fun w hSw => ?_) (fun _ => ?_)
          rotate_left
          · ((try dsimp only at hSw); go_simp; (try with_reducible rfl))
          simp only [Act.put, List.setIfInBounds_toArray, List.set_cons_zero, List.set_cons_succ]
          generalize P1[P0.length].val = pjv at y5
          refine held_call 10 (by kernel_rfl) rfl (by rfl) (fun K hK => ?_)
          go_simp
          have nb : ∀ {b i i' : Nat}, gp ≠ b → (⟨gp, i, none⟩ : Addr) ≠ ⟨b, i', none⟩ := fun h e => h (by simpa using congrArg Addr.block e)
          refine hK.out _ _ ⟨(World.cell?_setCell_other _ _ _ _ (nb HGP.out.2.2.1)).trans z1, (World.cell?_setCell_other _ _ _ _ (nb HNX.out)).trans z2⟩ (fun hHeld => ?_)
          clear hK K z1 z2 nb y5 fz5
          refine wpAnyH_done (by kernel_rfl) ?_ _
          clear hHeld hjl hcl
          go_wp2
          go_roundw
          case rel =>
            refine ⟨k + 1, by omega, by go_num, A1, c1, P1.set P0.length ⟨l[k].name, A5, c5, l[k].zs⟩, F1, _, Dm1, HPUT.out, ?_, ?_, ?_, HMF.out, fun e => ?_⟩
            · rw [take_snoc hlt, List.map_append, List.foldl_append, ← HPP.out]
              have h := HPS.out
              rw [List.map_set] at h ⊢
              exact h
            · rw [set_names (q := ⟨l[k].name, A5, c5, l[k].zs⟩) HJ.out HNM.out]
              exact HFM.out
            · rw [List.length_set]
              refine ownsMap_same HOM.out ?_
              rw [heap_setCell_other _ _ _ _ (fun e => HMF.out (by
                have e' : w.heap.size = gp := e
                rw [e']
                exact HGP.out.2.1))]
              exact HB5.out.block _ HML.out
            · rcases e with e | e
              · exact HMD.out e
              · have := HML.out
                omega
          case measure =>
            simp [intOf]
            omega
    · obtain rfl : k = l.length := by omega
      go_wp2
      go_end0
      exact ⟨rfl, A0, c0, P0, F0, D0, H0.out, by rw [HPP.out, List.take_length]⟩
end Go.Proofs.YtihlpcbebpnmkaaGreatDoor

/-! A node at a place, of the call's own, while another one is laid over it. -/
namespace Go.Proofs.YtihlpcbebpnmkaaGreatDoor
open Go.RowKit
set_option linter.unusedVariables false
set_option linter.unusedSimpArgs false

/-- The cells of a place where a node is, once it is n'. -/
def nCells (cur : Array Value) (o : Nat) (n' : Nd) : Array Value := (cur.setIfInBounds (o + 1) n'.pv).setIfInBounds (o + 2) n'.kv
/-- The node n at ⟨pb, o⟩ of w is n' in W. -/
structure LayN (w : World) (pb o : Nat) (t : TypeId) (cur : Array Value) (n : Nd) (F D : Nat → Prop) (W : World) (n' : Nd) (F' D' : Nat → Prop) : Prop where
  own : Own W F' D' n'
  name : n'.name = n.name
  hF : ∀ g, F g → F' g
  hF' : ∀ g, F' g → (F g ∨ w.heap.size ≤ g) ∧ g < W.heap.size
  hD : ∀ g, D g → D' g
  hD' : ∀ g, D' g → (D g ∨ w.heap.size ≤ g) ∧ g < W.heap.size ∧ ¬ F' g
  box : W.heap[pb]? = some (.cells (nCells cur o n') t (0, 0))
  chg : Chg (fun g => F g ∨ g = pb) w W
  pbw : pb < w.heap.size
  pbF : ¬ F pb
  pbD : ¬ D pb
  oin : o + 2 < cur.size
section
variable {w W W2 : World} {pb o : Nat} {t : TypeId} {cur : Array Value} {n n' n2 : Nd} {F D F' D' F2 D2 E : Nat → Prop}
theorem nCells_self (h1 : cur[o + 1]? = some n.pv) (h2 : cur[o + 2]? = some n.kv) : nCells cur o n = cur := by
  have a1 := (Array.getElem?_eq_some_iff.1 h1).1
  have a2 := (Array.getElem?_eq_some_iff.1 h2).1
  have s : ∀ {c : Array Value} {i : Nat} {v : Value}, c[i]? = some v → c.setIfInBounds i v = c := fun {c i v} h => by
    apply Array.ext_getElem?
    intro j
    by_cases hj : i = j
    · subst hj
      rw [Array.getElem?_setIfInBounds_self_of_lt (Array.getElem?_eq_some_iff.1 h).1, h]
    · rw [Array.getElem?_setIfInBounds_ne hj]
  unfold nCells
  rw [s h1, s h2]
theorem nCells_twice (n' n2 : Nd) : nCells (nCells cur o n') o n2 = nCells cur o n2 := by
  unfold nCells
  apply Array.ext_getElem?
  intro j
  simp only [Array.getElem?_setIfInBounds, Array.size_setIfInBounds]
  by_cases h1 : o + 1 = j
  · subst h1; simp
  · by_cases h2 : o + 2 = j
    · subst h2; simp
    · simp [h1, h2]
theorem nCells_size (n' : Nd) : (nCells cur o n').size = cur.size := by simp [nCells]
theorem LayN.start (hown : Own w F D n) (hb : ∀ g, F g → g < w.heap.size) (hdb : ∀ g, D g → g < w.heap.size ∧ ¬ F g) (hbox : w.heap[pb]? = some (.cells cur t (0, 0))) (h1 : cur[o + 1]? = some n.pv) (h2 : cur[o + 2]? = some n.kv) (hpF : ¬ F pb) (hpD : ¬ D pb) :
    LayN w pb o t cur n F D w n F D :=
  ⟨hown, rfl, fun _ h => h, fun g h => ⟨.inl h, hb g h⟩, fun _ h => h, fun g h => ⟨.inl h, (hdb g h).1, (hdb g h).2⟩, by rw [nCells_self h1 h2]; exact hbox, Chg.refl _ _, (Array.getElem?_eq_some_iff.1 hbox).1, hpF, hpD, (Array.getElem?_eq_some_iff.1 h2).1⟩
theorem LayN.pbF' (h : LayN w pb o t cur n F D W n' F' D') : ¬ F' pb := fun e => (h.hF' pb e).1.elim h.pbF (fun e' => by have := h.pbw; omega)
theorem LayN.pbD' (h : LayN w pb o t cur n F D W n' F' D') : ¬ D' pb := fun e => (h.hD' pb e).1.elim h.pbD (fun e' => by have := h.pbw; omega)
theorem LayN.pbW (h : LayN w pb o t cur n F D W n' F' D') : pb < W.heap.size := Nat.lt_of_lt_of_le h.pbw h.chg.size
theorem LayN.cells (h : LayN w pb o t cur n F D W n' F' D') : W.cell? ⟨pb, o + 1, none⟩ = some n'.pv ∧ W.cell? ⟨pb, o + 2, none⟩ = some n'.kv ∧ ∀ i, W.frozen? ⟨pb, i, none⟩ = false := by
  have ho := h.oin
  refine ⟨?_, ?_, fun i => frozen_of_row W pb _ _ _ h.box⟩
  · rw [cell_of_row W pb (o + 1) _ _ _ h.box]
    unfold nCells
    rw [Array.getElem?_setIfInBounds_ne (by omega), Array.getElem?_setIfInBounds_self_of_lt (by omega)]
  · rw [cell_of_row W pb (o + 2) _ _ _ h.box]
    unfold nCells
    rw [Array.getElem?_setIfInBounds_self_of_lt (by simp; omega)]
/-- From where it stands by now. -/
theorem LayN.now (h : LayN w pb o t cur n F D W n' F' D') : LayN W pb o t (nCells cur o n') n' F' D' W n' F' D' :=
  ⟨h.own, rfl, fun _ h => h, fun g e => ⟨.inl e, (h.hF' g e).2⟩, fun _ h => h, fun g e => ⟨.inl e, (h.hD' g e).2⟩, by rw [nCells_twice]; exact h.box, Chg.refl _ _, h.pbW, h.pbF', h.pbD', by rw [nCells_size]; exact h.oin⟩
theorem LayN.trans (h : LayN w pb o t cur n F D W n' F' D') (k : LayN W pb o t (nCells cur o n') n' F' D' W2 n2 F2 D2) : LayN w pb o t cur n F D W2 n2 F2 D2 := by
  have s1 := h.chg.size
  refine ⟨k.own, k.name.trans h.name, fun g e => k.hF g (h.hF g e), fun g e => ⟨?_, (k.hF' g e).2⟩, fun g e => k.hD g (h.hD g e), fun g e => ⟨?_, (k.hD' g e).2⟩, by have := k.box; rwa [nCells_twice] at this, h.chg.trans k.chg (fun g hg e => ?_), h.pbw, h.pbF, h.pbD, h.oin⟩
  · rcases (k.hF' g e).1 with e | e
    · exact (h.hF' g e).1
    · exact .inr (by omega)
  · rcases (k.hD' g e).1 with e | e
    · exact (h.hD' g e).1
    · exact .inr (by omega)
  · rcases e with e | e
    · rcases (h.hF' g e).1 with e | e
      · exact .inl e
      · omega
    · exact .inr e
theorem LayN.kept (h : LayN w pb o t cur n F D W n' F' D') (hc : Chg E W W2) (hE : ∀ g, E g → w.heap.size ≤ g ∧ ¬ F' g ∧ ¬ D' g) : LayN w pb o t cur n F D W2 n' F' D' :=
  ⟨h.own.chg hc (fun g e e' => (hE g e').2.1 e) (fun g e e' => (hE g e').2.2 e), h.name, h.hF, fun g e => ⟨(h.hF' g e).1, Nat.lt_of_lt_of_le (h.hF' g e).2 hc.size⟩, h.hD, fun g e => ⟨(h.hD' g e).1, Nat.lt_of_lt_of_le (h.hD' g e).2.1 hc.size, (h.hD' g e).2.2⟩,
    (hc.block pb h.pbW (fun e => by have := (hE pb e).1; have := h.pbw; omega)).trans h.box, h.chg.trans hc (fun g hg e => by have := (hE g e).1; omega), h.pbw, h.pbF, h.pbD, h.oin⟩
theorem LayN.on (h : LayN w pb o t cur n F D W n' F' D') (hb : Below W.heap.size W W2) : LayN w pb o t cur n F D W2 n' F' D' := h.kept (E := fun _ => False) (Chg.ofBelow hb) (fun _ e => e.elim)
/-- Where properties have been laid over it. -/
theorem LayN.lay1 (h : LayN w pb o t cur n F D w n F D) : Lay1 w pb o t (nCells cur o n) n F D w n.pa n.pc n.props F D := by
  have hc := h.cells.1
  rw [cell_of_row w pb (o + 1) _ _ _ h.box] at hc
  exact Lay1.start h.own (fun g e => (h.hF' g e).2) (fun g e => (h.hD' g e).2) h.box hc h.pbF h.pbD
theorem Lay1.layN {A' : Option Addr} {c' : Nat} {P' : List PV} (h0 : LayN w pb o t cur n F D w n F D) (h : Lay1 w pb o t (nCells cur o n) n F D W A' c' P' F' D') : LayN w pb o t cur n F D W (.mk n.name A' c' P' n.ka n.kc n.kids) F' D' := by
  refine ⟨h.own, rfl, h.hF, h.hF', h.hD, h.hD', ?_, h.chg, h.pbw, h.pbF, h.pbD, h0.oin⟩
  rw [h.box]
  congr 2
  unfold nCells
  apply Array.ext_getElem?
  intro j
  simp only [Array.getElem?_setIfInBounds, Array.size_setIfInBounds]
  by_cases h1 : o + 1 = j
  · subst h1; simp [Nd.pv, Nd.pa, Nd.props, Nd.pc]
  · by_cases h2 : o + 2 = j
    · subst h2; simp [Nd.kv, Nd.ka, Nd.kids, Nd.kc]
    · simp [h1, h2]
theorem kC_set2 (K : List Nd) (i : Nat) (hi : i < K.length) (k : Nd) (hn : k.name = K[i].name) : ((K.flatMap kC).set (i * 3 + 1) k.pv).set (i * 3 + 2) k.kv = (K.set i k).flatMap kC := by
  rw [← flat_set3 K i hi k, hn]
  congr 2
  symm
  apply List.ext_getElem?
  intro j
  by_cases hj : i * 3 = j
  · subst hj
    have e := flat_at kC_len K i 0 hi (by omega)
    rw [Nat.add_zero] at e
    rw [List.getElem?_set_self (by have := (List.getElem?_eq_some_iff.1 (e.trans (rfl : (kC K[i])[0]? = some (.string K[i].name)))).1; exact this), e]
    rfl
  · rw [List.getElem?_set_ne hj]
/-- One of the nodes right below it, at its place; and what is there when that has changed. -/
theorem LayN.kid (h : LayN w pb o t cur n F D W n' F' D') {i : Nat} (hi : i < n'.kids.length) : ∃ gk curk Gi, n'.ka = some ⟨gk, 0, none⟩ ∧ F' gk ∧ gk ≠ pb ∧ gk < W.heap.size ∧ n'.kids.length ≤ n'.kc ∧ n'.kc ≤ 9223372036854775807 ∧ (∀ g, Gi g → F' g) ∧
    LayN W gk (i * 3) 27 curk n'.kids[i] Gi D' W n'.kids[i] Gi D' ∧
      ∀ W2 k' G' D2, LayN W gk (i * 3) 27 curk n'.kids[i] Gi D' W2 k' G' D2 → LayN w pb o t cur n F D W2 (.mk n'.name n'.pa n'.pc n'.props n'.ka n'.kc (n'.kids.set i k')) (fun g => F' g ∨ G' g) D2 := by
  obtain ⟨_, h2, h3, fp, fk, _⟩ := h.own.parts
  obtain ⟨Gi, hGi, hoi, hdone⟩ := h.own.kid (fun g e => (h.hF' g e).2) hi
  have h3' : W.ownsRow 0 27 3 (.slice n'.ka n'.kids.length n'.kc) n'.kids.length (n'.kids.flatMap kC) := h3
  rcases h3'.2 with ⟨e, e0⟩ | ⟨gk, cap, curk, e, _, hg, hnc, hcm, hsz, htk⟩
  · omega
  simp only [Value.slice.injEq, true_and] at e
  obtain ⟨e1, e2⟩ := e
  have ob : n'.kv.ownBlock = some gk := by rw [Nd.kv, e1]; rfl
  have hFg : F' gk := fk gk ob
  have hgp : gk ≠ pb := fun e => h.pbF' (e ▸ hFg)
  have hgW := (h.hF' gk hFg).2
  have cc : ∀ r v, r < 3 → (kC n'.kids[i])[r]? = some v → curk[i * 3 + r]? = some v := fun r v hr hv => by
    have e3 := flat_at kC_len n'.kids i r hi hr
    rw [hv, ← htk, List.getElem?_take] at e3
    split at e3
    · simpa using e3
    · cases e3
  have hst : LayN W gk (i * 3) 27 curk n'.kids[i] Gi D' W n'.kids[i] Gi D' :=
    LayN.start hoi (fun g e => (h.hF' g (hGi g e).1).2) (fun g e => ⟨(h.hD' g e).2.1, fun e' => (h.hD' g e).2.2 (hGi g e').1⟩) hg (cc 1 _ (by omega) rfl) (cc 2 _ (by omega) rfl) (fun e => (hGi gk e).2.2 ob) (fun e => (h.hD' gk e).2.2 hFg)
  refine ⟨gk, curk, Gi, e1, hFg, hgp, hgW, by rw [e2]; exact hnc, by rw [e2]; exact hcm, fun g e => (hGi g e).1, hst, fun W2 k' G' D2 k => ?_⟩
  have hrow : W2.ownsRow 0 27 3 n'.kv n'.kids.length ((n'.kids.set i k').flatMap kC) := by
    have h4 : W.ownsRow 0 27 3 (.slice (some ⟨gk, 0, none⟩) n'.kids.length n'.kc) n'.kids.length (n'.kids.flatMap kC) := by rw [← e1]; exact h3'
    obtain ⟨o1, g1⟩ := h4.stored (i * 3 + 1) k'.pv
    obtain ⟨o2, g2⟩ := o1.stored (i * 3 + 2) k'.kv
    rw [kC_set2 n'.kids i hi k' k.name] at o2
    have b1 := heap_setCell_same W gk (i * 3 + 1) _ _ k'.pv hg
    have b2 := heap_setCell_same _ gk (i * 3 + 2) _ _ k'.kv b1
    show W2.ownsRow 0 _ 3 (.slice n'.ka n'.kids.length n'.kc) _ _
    rw [e1]
    refine own_same o2 (fun g e => ?_)
    have e' : gk = g := by simpa [Value.ownBlock] using e
    subst e'
    rw [b2, k.box]
    rfl
  have hs := k.chg.size
  have hE : ∀ g, (Gi g ∨ g = gk) → ¬ D' g ∧ (F' g → Gi g ∨ n'.kv.ownBlock = some g) := fun g e => by
    rcases e with e | rfl
    · exact ⟨fun e' => (h.hD' g e').2.2 (hGi g e).1, fun _ => .inl e⟩
    · exact ⟨fun e' => (h.hD' g e').2.2 hFg, fun _ => .inr ob⟩
  have hw := h.chg.size
  refine ⟨hdone W2 G' D2 k' _ k.chg hE hrow k.own (fun g e => (k.hF' g e).1) k.hD, h.name, fun g e => .inl (h.hF g e), fun g e => ?_, fun g e => k.hD g (h.hD g e), fun g e => ⟨?_, (k.hD' g e).2.1, fun e' => ?_⟩, ?_, h.chg.trans k.chg (fun g hg e => ?_), h.pbw, h.pbF, h.pbD, h.oin⟩
  · rcases e with e | e
    · exact ⟨(h.hF' g e).1, Nat.lt_of_lt_of_le (h.hF' g e).2 hs⟩
    · refine ⟨?_, (k.hF' g e).2⟩
      rcases (k.hF' g e).1 with e' | e'
      · exact (h.hF' g (hGi g e').1).1
      · exact .inr (by omega)
  · rcases (k.hD' g e).1 with e' | e'
    · exact (h.hD' g e').1
    · exact .inr (by omega)
  · rcases e' with e' | e'
    · rcases (k.hD' g e).1 with e2 | e2
      · exact (h.hD' g e2).2.2 e'
      · have := (h.hF' g e').2; omega
    · exact (k.hD' g e).2.2 e'
  · refine (k.chg.block pb h.pbW (fun e => ?_)).trans ?_
    · rcases e with e | e
      · exact h.pbF' (hGi pb e).1
      · exact hgp e.symm
    · rw [h.box]
      congr 2
      unfold nCells
      show _ = (cur.setIfInBounds (o + 1) (.slice n'.pa n'.props.length n'.pc)).setIfInBounds (o + 2) (.slice n'.ka (n'.kids.set i k').length n'.kc)
      rw [List.length_set]
      rfl
  · rcases e with e | e
    · rcases (h.hF' g (hGi g e).1).1 with e' | e'
      · exact .inl e'
      · omega
    · rcases (h.hF' gk hFg).1 with e' | e'
      · exact .inl (e ▸ e')
      · omega
end
end Go.Proofs.YtihlpcbebpnmkaaGreatDoor

/-! lay: a node laid over the one at a place of the call's own, if the nodes below are laid so. -/
namespace Go.Proofs.YtihlpcbebpnmkaaGreatDoor
open Go.RowKit
set_option linter.unusedVariables false
set_option linter.unusedSimpArgs false
attribute [local go_sem ↓] Go.wp_at_zero Go.wp_at_succ

theorem Nd.In.chg {w w' : World} {D E : Nat → Prop} {n : Nd} (hin : n.In w w.heap.size) (ha : n.At D) (hc : Chg E w w') (hd : ∀ g, D g → ¬ E g) : n.In w' w'.heap.size :=
  (Nd.In.at_ (D := fun g => D g ∧ g < w.heap.size) (fun a h => hc.cell h.2 (hd _ h.1)) hin (Nd.At.lows hin ha)).more hc.size
/-- What is laid over it stays what it is. -/
theorem LayN.arg {w W : World} {pb o : Nat} {t : TypeId} {cur : Array Value} {n n' b : Nd} {F D F' D' : Nat → Prop} (h : LayN w pb o t cur n F D W n' F' D') (hin : b.In w w.heap.size) (ha : b.At (fun g => ¬ F g ∧ g ≠ pb)) : b.In W W.heap.size ∧ b.At (fun g => (¬ F' g ∧ g ≠ pb) ∧ g < w.heap.size) := by
  refine ⟨hin.chg ha h.chg (fun g hg e => e.elim hg.1 hg.2), Nd.At.mono (fun g hg => ⟨⟨fun e => ?_, hg.1.2⟩, hg.2⟩) (Nd.At.lows hin ha)⟩
  rcases (h.hF' g e).1 with e' | e'
  · exact hg.1.1 e'
  · have := hg.2; omega
theorem LayN.argP {w W : World} {pb o : Nat} {t : TypeId} {cur : Array Value} {n n' : Nd} {F D F' D' : Nat → Prop} {p : PV} (h : LayN w pb o t cur n F D W n' F' D') (hin : p.In w w.heap.size) (ha : p.At (fun g => ¬ F g ∧ g ≠ pb)) : p.In W W.heap.size ∧ p.At (fun g => ¬ F' g ∧ g ≠ pb) := by
  refine ⟨hin.chg ha h.chg (fun g hg e => e.elim hg.1 hg.2), (PV.At.lows hin ha).mono' (fun g hg => ⟨fun e => ?_, hg.1.2⟩)⟩
  rcases (h.hF' g e).1 with e' | e'
  · exact hg.1.1 e'
  · have := hg.2; omega

def LayOK (b : Nd) : Prop := ∀ (pb o : Nat) (t : TypeId) (cur : Array Value) (n : Nd) (F D : Nat → Prop) (w : World), LayN w pb o t cur n F D w n F D → b.In w w.heap.size → b.At (fun g => ¬ F g ∧ g ≠ pb) → hpN (pureN n) + hpN (pureN b) ≤ 1099511627776 →
  Calls Tryz.prog 50 #[.pointer (some ⟨pb, o, none⟩), b.val] w fun e w' => e = .returned (.tuple #[]) ∧ ∃ n' F' D', LayN w pb o t cur n F D w' n' F' D' ∧ pureN n' = mergeN (pureN b) (pureN n)
def LayKOK (ks : List Nd) : Prop := ∀ (pb o : Nat) (t : TypeId) (cur : Array Value) (n : Nd) (F D : Nat → Prop) (A : Option Addr) (c : Nat) (w : World), LayN w pb o t cur n F D w n F D → KRow w w.heap.size A ks → (∀ k ∈ ks, k.In w w.heap.size ∧ k.At (fun g => ¬ F g ∧ g ≠ pb)) →
  (0 < ks.length → ∀ b o, A = some ⟨b, o, none⟩ → ¬ F b ∧ b ≠ pb) → hpN (pureN n) + hpL (ks.map pureN) ≤ 1099511627776 →
  Calls Tryz.prog 74 #[.pointer (some ⟨pb, o, none⟩), .slice A ks.length c] w fun e w' => e = .returned (.tuple #[]) ∧ ∃ n' F' D', LayN w pb o t cur n F D w' n' F' D' ∧ pureN n' = .mk n.name (n.props.map PV.pure) (mergeL (ks.map pureN) (n.kids.map pureN))

set_option maxRecDepth 20000 in
set_option maxHeartbeats 4000000 in
theorem lay_of (b : Nd) (hk : LayKOK b.kids) : LayOK b := by
  intro pb o t cur n F D w h hin hat hh
  obtain ⟨bn, bpa, bpc, bps, bka, bkc, bks⟩ := b
  replace hk : LayKOK bks := hk
  obtain ⟨a1, a2, a3, a4⟩ := hat.parts
  replace a1 : 0 < bps.length → ∀ b o, bpa = some ⟨b, o, none⟩ → ¬ F b ∧ b ≠ pb := a1
  have hpr : PRow w w.heap.size bpa bps := hin.prow
  have hpi : ∀ p ∈ bps, p.In w w.heap.size ∧ p.At (fun g => ¬ F g ∧ g ≠ pb) := fun p hp => ⟨hin.prop hp, a2 p hp⟩
  have hkr : KRow w w.heap.size bka bks := hin.krow
  rw [hp_parts n] at hh
  rw [hp_parts] at hh
  replace hh : 16 + n.name.size + szPs (n.props.map PV.pure) + hpL (n.kids.map pureN) + (16 + bn.size + szPs (bps.map PV.pure) + hpL (bks.map pureN)) ≤ 1099511627776 := hh
  obtain ⟨W0, hW0⟩ : ∃ W0, w.alloc (.cells #[Value.string bn, .slice bpa bps.length bpc, .slice bka bks.length bkc] 27) = W0 := ⟨_, rfl⟩
  have HB0 : Hid (Below w.heap.size w W0) := Lib.hid (by rw [← hW0]; exact (Below.refl _ _).alloc (Nat.le_refl _) _)
  have HX0 : Hid (W0.heap[w.heap.size]? = some (.cells #[Value.string bn, .slice bpa bps.length bpc, .slice bka bks.length bkc] 27 (0, 0)) ∧ w.heap.size < W0.heap.size) := Lib.hid (by rw [← hW0]; exact ⟨heap_alloc_new _ _, by simp⟩)
  have H0 := Lib.hid (h.on HB0.out)
  have HN0 := Lib.hid H0.out.now
  have HSELF : Hid (nCells cur o n = nCells cur o n) := rfl
  have HLP := Lib.hid (layProps_any pb o t (nCells (nCells cur o n) o n) n F D bpa bpc bps W0 HN0.out.lay1 ((hpr.keep (fun _ hp => HB0.out.cell hp)).more HB0.out.size) (fun p hp => ⟨((hpi p hp).1.keep (fun _ hp => HB0.out.cell hp)).more HB0.out.size, (hpi p hp).2⟩) a1 (by omega))
  have HIN := Lib.hid hin
  have HAT := Lib.hid hat
  have HHH := Lib.hid hh
  have HK := Lib.hid hk
  have HNX : Hid (¬ F w.heap.size ∧ w.heap.size ≠ pb) := ⟨fun e => by have := (h.hF' _ e).2; omega, fun e => by have := h.pbw; omega⟩
  clear hpr hpi hkr hin hat hh a1 a2 a3 a4 h hk
  show Calls _ _ #[_, .agg #[.string bn, .slice bpa bps.length bpc, .slice bka bks.length bkc]] _ _
  have y1 := cell_of_row _ w.heap.size 1 _ _ _ HX0.out.1
  replace y1 : _ = some (Value.slice bpa bps.length bpc) := y1
  go_enter Tryz.func50, Tryz.ntmps50
  go_wp2_with fail
  clear hW0 y1
  refine HLP.out.mono ?_
  rintro e w1 ⟨rfl, A', c', P', F1, D1, hl1, hpp⟩
  have H1 := Lib.hid (hl1.layN HN0.out)
  have HPP := Lib.hid hpp
  clear hl1 hpp
  have HX1 := Lib.hid ((H1.out.chg.block w.heap.size HX0.out.2 (fun e => e.elim HNX.out.1 HNX.out.2)).trans HX0.out.1)
  have y2 := cell_of_row _ w.heap.size 2 _ _ _ HX1.out
  replace y2 : _ = some (Value.slice bka bks.length bkc) := y2
  have HA1 : Hid (_ ∧ _) := Lib.hid (H1.out.arg (HIN.out.on HB0.out) HAT.out)
  go_wp2_with fail
  clear y2
  obtain ⟨a1, a2, a3, a4⟩ := HA1.out.2.parts
  have hszp := szPs_puts (bps.map PV.pure) (n.props.map PV.pure)
  refine (HK.out pb o t (nCells (nCells cur o n) o (.mk n.name A' c' P' n.ka n.kc n.kids)) (.mk n.name A' c' P' n.ka n.kc n.kids) F1 D1 bka bkc w1 H1.out.now HA1.out.1.krow (fun k hk => ⟨HA1.out.1.kid hk, Nd.At.mono (fun g e => e.1) (a4 k hk)⟩) (fun h0 b o e => (a3 h0 b o e).1) (by
    rw [hp_parts]
    show 16 + n.name.size + szPs (P'.map PV.pure) + hpL (n.kids.map pureN) + _ ≤ _
    rw [HPP.out]
    have := HHH.out
    omega)).mono ?_
  rintro e w2 ⟨rfl, n2, F2, D2, hl2, hp2⟩
  have H2 := Lib.hid hl2
  have HP2 := Lib.hid hp2
  clear hl2 hp2 a1 a2 a3 a4
  go_wp2
  go_end0
  refine ⟨rfl, n2, F2, D2, ?_, ?_⟩
  · exact H0.out.trans (H1.out.trans H2.out)
  · rw [HP2.out, pureN_mk, pureN_mk, mergeN]
    show PN.mk n.name (P'.map PV.pure) _ = _
    rw [HPP.out]
    rfl
end Go.Proofs.YtihlpcbebpnmkaaGreatDoor

/-! A node at a place, of the call's own: one more node comes behind those right below it. -/
namespace Go.Proofs.YtihlpcbebpnmkaaGreatDoor
open Go.RowKit
set_option linter.unusedVariables false
set_option maxRecDepth 20000
set_option linter.unusedSimpArgs false

section
variable {w W : World} {pb o : Nat} {t : TypeId} {cur : Array Value} {n n' : Nd} {F D F' D' : Nat → Prop}
/-- append of a zero node, then that node written, then the row kept. -/
theorem LayN.app (h : LayN w pb o t cur n F D W n' F' D') {k : Nd} {Fk Dk : Nat → Prop} (hk : Own W Fk Dk k) (hFk : ∀ g, Fk g → w.heap.size ≤ g ∧ g < W.heap.size ∧ ¬ F' g ∧ ¬ D' g ∧ ¬ Dk g) (hDk : ∀ g, Dk g → w.heap.size ≤ g ∧ g < W.heap.size ∧ ¬ F' g)
    {gz : Nat} (hz : W.heap[gz]? = some (.cells #[.string ⟨#[]⟩, .slice none 0 0, .slice none 0 0] 27 (0, 0))) (hbig : n'.kids.length ≤ 1099511627776) (ty : TypeId) :
    ∃ g' c'' w2, (Builtin.append_ #[25, 25] ty #[n'.kv, .slice (some ⟨gz, 0, none⟩) 1 1]).run Tryz.prog W = .ok (.slice (some ⟨g', 0, none⟩) (n'.kids.length + 1) c'') w2 ∧
      n'.kids.length + 1 ≤ c'' ∧ c'' ≤ 9223372036854775807 ∧ Chg F' W w2 ∧ g' ≠ pb ∧ (F' g' ∨ g' = W.heap.size) ∧ (∀ i, w2.frozen? ⟨g', i, none⟩ = false) ∧
      w2.cell? ⟨g', n'.kids.length * 3, none⟩ = some (.string ⟨#[]⟩) ∧ w2.cell? ⟨g', n'.kids.length * 3 + 1, none⟩ = some (.slice none 0 0) ∧ w2.cell? ⟨g', n'.kids.length * 3 + 2, none⟩ = some (.slice none 0 0) ∧
      w2.cell? ⟨pb, o + 2, none⟩ = some n'.kv ∧ w2.frozen? ⟨pb, o + 2, none⟩ = false ∧
      LayN w pb o t cur n F D ((((w2.setCell ⟨g', n'.kids.length * 3, none⟩ (.string k.name)).setCell ⟨g', n'.kids.length * 3 + 1, none⟩ k.pv).setCell ⟨g', n'.kids.length * 3 + 2, none⟩ k.kv).setCell ⟨pb, o + 2, none⟩ (.slice (some ⟨g', 0, none⟩) (n'.kids.length + 1) c''))
        (.mk n'.name n'.pa n'.pc n'.props (some ⟨g', 0, none⟩) c'' (n'.kids ++ [k])) (fun g => F' g ∨ g = g' ∨ Fk g) (fun g => D' g ∨ Dk g) := by
  obtain ⟨i0, hi0, hz0, hz1, hz2⟩ := info_any info_node
  obtain ⟨_, h2, h3, fp, fk, _⟩ := h.own.parts
  have gzW := (Array.getElem?_eq_some_iff.1 hz).1
  obtain ⟨v', w2, run, o2, g2, _, e2⟩ := run_append_own_at (P := Tryz.prog) W 0 25 ty 27 i0 _ 3 64 Tryz.underlying25 hi0 hz0 hz1 hz2 rfl (by omega) n'.kv _ (n'.kids.flatMap kC) h3 ⟨gz, 0, none⟩ 1 1 [.string ⟨#[]⟩, .slice none 0 0, .slice none 0 0] rfl
    (fun j u hu => by
      rw [addr_add, Nat.zero_add, cell_of_row W gz j _ _ _ hz]
      rw [List.getElem?_toArray]
      exact hu)
    (fun u hu => by
      simp only [List.mem_cons, List.not_mem_nil, or_false] at hu
      rcases hu with rfl | rfl | rfl <;> rfl) (by unfold maxLen; omega) (by omega) (Nat.zero_le _)
  obtain ⟨g', c'', ef⟩ := Joins.ownsRow_form o2 (Nat.succ_pos _)
  subst ef
  have e3 : F' g' ∨ g' = W.heap.size := by
    rcases e2 with e | e
    · exact .inl (fk g' (by rw [← e]; rfl))
    · exact .inr (by simpa [Value.ownBlock] using e)
  have e4 : n'.kv.ownBlock = some g' ∨ W.heap.size ≤ g' := by
    rcases e2 with e | e
    · exact .inl (by rw [← e]; rfl)
    · exact .inr (by have : g' = W.heap.size := by simpa [Value.ownBlock] using e
                     omega)
  have hgp : g' ≠ pb := fun e => by
    rcases e3 with e' | e'
    · exact h.pbF' (e ▸ e')
    · have := h.pbW; omega
  have hgFk : ¬ Fk g' := fun e => by
    rcases e3 with e' | e'
    · exact (hFk g' e).2.2.1 e'
    · have := (hFk g' e).2.1; omega
  have hcap : n'.kids.length + 1 ≤ c'' ∧ c'' ≤ 9223372036854775807 := by
    rcases o2.2 with ⟨e1, _⟩ | ⟨g1, cap, cur1, e1, hb, hg, h1, h2, _⟩
    · cases e1
    · simp only [Value.slice.injEq, true_and] at e1
      obtain ⟨_, rfl⟩ := e1
      exact ⟨h1, h2⟩
  have l1 : (n'.kids.flatMap kC).length = n'.kids.length * 3 := flat_len kC_len _
  have cz : ∀ r v, ([.string ⟨#[]⟩, .slice none 0 0, .slice none 0 0] : List Value)[r]? = some v → w2.cell? ⟨g', n'.kids.length * 3 + r, none⟩ = some v := fun r v hv => by
    have := o2.cells (g := g') rfl (n'.kids.length * 3 + r) v (by rw [List.getElem?_append_right (by omega), l1, Nat.add_sub_cancel_left]; exact hv)
    rw [addr_add, Nat.zero_add] at this
    exact this
  have hfz : ∀ i, w2.frozen? ⟨g', i, none⟩ = false := fun i => World.ownsRow.frozenAt o2 i
  have c2 : Chg F' W w2 := Chg.ofGrown g2 (fun g e => fk g e)
  have box2 := (c2.block pb h.pbW h.pbF').trans h.box
  have hcell2 : w2.cell? ⟨pb, o + 2, none⟩ = some n'.kv := (c2.cell (a := ⟨pb, o + 2, none⟩) h.pbW h.pbF').trans h.cells.2.1
  -- the new element is written
  obtain ⟨s1, q1⟩ := o2.stored (n'.kids.length * 3) (.string k.name)
  obtain ⟨s2, q2⟩ := s1.stored (n'.kids.length * 3 + 1) k.pv
  obtain ⟨s3, q3⟩ := s2.stored (n'.kids.length * 3 + 2) k.kv
  have hrow : (((n'.kids.flatMap kC ++ [Value.string ⟨#[]⟩, .slice none 0 0, .slice none 0 0]).set (n'.kids.length * 3) (.string k.name)).set (n'.kids.length * 3 + 1) k.pv).set (n'.kids.length * 3 + 2) k.kv = (n'.kids ++ [k]).flatMap kC := by
    rw [List.flatMap_append, List.set_append_right _ _ (by omega), List.set_append_right _ _ (by omega), List.set_append_right _ _ (by omega), l1]
    simp [kC, Nat.add_sub_cancel_left]
  rw [hrow] at s3
  obtain ⟨W2, hW2⟩ : ∃ W2, (((w2.setCell ⟨g', n'.kids.length * 3, none⟩ (.string k.name)).setCell ⟨g', n'.kids.length * 3 + 1, none⟩ k.pv).setCell ⟨g', n'.kids.length * 3 + 2, none⟩ k.kv) = W2 := ⟨_, rfl⟩
  rw [hW2] at s3 q3
  have q : w2.grownBy W2 (some g') := (q1.thenG q2).thenG q3
  have c23 : Chg (fun g => n'.kv.ownBlock = some g ∨ g = g') W W2 := (Chg.ofGrown (F := fun g => n'.kv.ownBlock = some g ∨ g = g') g2 (fun g e => .inl e)).trans (F' := fun g => g = g') (Chg.ofGrown q (fun g e => by injection e with e; exact e.symm)) (fun g _ e => .inr e)
  have box3 : W2.heap[pb]? = some (.cells (nCells cur o n') t (0, 0)) := (q.block pb (Nat.lt_of_lt_of_le h.pbW c2.size) (fun e => hgp (by injection e with e; exact e.symm))).trans box2
  have box4 := heap_setCell_same W2 pb (o + 2) _ _ (.slice (some ⟨g', 0, none⟩) (n'.kids.length + 1) c'') box3
  have c4 : Chg (fun g => (n'.kv.ownBlock = some g ∨ g = g') ∨ g = pb) W (W2.setCell ⟨pb, o + 2, none⟩ (.slice (some ⟨g', 0, none⟩) (n'.kids.length + 1) c'')) := (c23.mono (fun _ _ e => .inl e)).setCell (.inl (.inr rfl)) _
  have g2s : g' < W2.heap.size := (s3.lt g' rfl).2
  have sz4 : (W2.setCell ⟨pb, o + 2, none⟩ (.slice (some ⟨g', 0, none⟩) (n'.kids.length + 1) c'')).heap.size = W2.heap.size := by simp
  have s02 := c23.size
  have sw := h.chg.size
  have notE : ∀ g, ((n'.kv.ownBlock = some g ∨ g = g') ∨ g = pb) → (F' g ∨ g = W.heap.size ∨ g = pb) := fun g e => by
    rcases e with (e | e) | e
    · exact .inl (fk g e)
    · subst e
      rcases e3 with e | e
      · exact .inl e
      · exact .inr (.inl e)
    · exact .inr (.inr e)
  have hk4 : Own (W2.setCell ⟨pb, o + 2, none⟩ (.slice (some ⟨g', 0, none⟩) (n'.kids.length + 1) c'')) Fk (fun g => D' g ∨ Dk g) k := by
    refine (hk.chg c4 (fun g e e' => ?_) (fun g e e' => ?_)).mono (fun _ e => e) (fun _ e => .inr e)
    · rcases notE g e' with e1 | e1 | e1
      · exact (hFk g e).2.2.1 e1
      · have := (hFk g e).2.1; omega
      · have h1 := (hFk g e).1; have := h.pbw; omega
    · rcases notE g e' with e1 | e1 | e1
      · exact (hDk g e).2.2 e1
      · have := (hDk g e).2.1; omega
      · have h1 := (hDk g e).1; have := h.pbw; omega
  refine ⟨g', c'', w2, run, hcap.1, hcap.2, c2, hgp, e3, hfz, cz 0 _ rfl, cz 1 _ rfl, cz 2 _ rfl, hcell2, frozen_of_row w2 pb _ _ _ box2, ?_⟩
  rw [hW2]
  refine ⟨?_, h.name, fun g e => .inl (h.hF g e), fun g e => ?_, fun g e => .inl (h.hD g e), fun g e => ?_, ?_, h.chg.trans c4 (fun g hg e => ?_), h.pbw, h.pbF, h.pbD, h.oin⟩
  · have l : (n'.kids ++ [k]).length = n'.kids.length + 1 := by simp
    refine h.own.addKid (G' := Fk) (fun g e => (h.hF' g e).2) c4 (fun g e => ⟨fun e' => ?_, fun e' => ?_⟩) (by
      rw [l]
      exact own_same s3 (fun g e => heap_setCell_other _ _ _ _ (fun e' => hgp (by
        have : g' = g := by simpa [Value.ownBlock] using e
        rw [this, e'])))) (fun g e => ?_) hk4 (fun g e => ⟨.inr (.inr e), ?_⟩) (fun _ e => .inl e) (fun _ e => .inl e)
    · rcases notE g e with e1 | e1 | e1
      · exact (h.hD' g e').2.2 e1
      · have := (h.hD' g e').2.1; omega
      · exact h.pbD' (e1 ▸ e')
    · rcases e with (e | e) | e
      · exact e
      · subst e
        rcases e4 with e4 | e4
        · exact e4
        · have := (h.hF' g e').2; omega
      · exact absurd (e ▸ e') h.pbF'
    · have : g' = g := by simpa [Value.ownBlock] using e
      subst this
      exact ⟨.inr (.inl rfl), hgFk, e4⟩
    · exact (hFk g e).2.2.1
  · have g2s' : g' < (W2.setCell ⟨pb, o + 2, none⟩ (.slice (some ⟨g', 0, none⟩) (n'.kids.length + 1) c'')).heap.size := by rw [sz4]; exact g2s
    rcases e with e | rfl | e
    · exact ⟨(h.hF' g e).1, by have := (h.hF' g e).2; omega⟩
    · refine ⟨?_, g2s'⟩
      rcases e3 with e' | e'
      · exact (h.hF' g e').1
      · exact .inr (by omega)
    · exact ⟨.inr (hFk g e).1, by have := (hFk g e).2.1; omega⟩
  · rcases e with e | e
    · refine ⟨(h.hD' g e).1, by have := (h.hD' g e).2.1; omega, fun e' => ?_⟩
      rcases e' with e' | rfl | e'
      · exact (h.hD' g e).2.2 e'
      · rcases e3 with e' | e'
        · exact (h.hD' g e).2.2 e'
        · have := (h.hD' g e).2.1; omega
      · exact (hFk g e').2.2.2.1 e
    · refine ⟨.inr (hDk g e).1, by have := (hDk g e).2.1; omega, fun e' => ?_⟩
      rcases e' with e' | rfl | e'
      · exact (hDk g e).2.2 e'
      · rcases e3 with e' | e'
        · exact (hDk g e).2.2 e'
        · have := (hDk g e).2.1; omega
      · exact (hFk g e').2.2.2.2 e
  · rw [box4]
    congr 2
    unfold nCells
    show _ = (cur.setIfInBounds (o + 1) (.slice n'.pa n'.props.length n'.pc)).setIfInBounds (o + 2) (.slice (some ⟨g', 0, none⟩) (n'.kids ++ [k]).length c'')
    rw [Array.setIfInBounds_setIfInBounds, List.length_append]
    rfl
  · rcases notE g e with e1 | e1 | e1
    · rcases (h.hF' g e1).1 with e2 | e2
      · exact .inl e2
      · omega
    · omega
    · exact .inr e1
end
end Go.Proofs.YtihlpcbebpnmkaaGreatDoor
