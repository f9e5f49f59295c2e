/-
  Layer 11: the program's layFragments: the tree's memory is the call's own, before and behind; nothing that was there is gone.
-/
import Derived.Test.YtihlpcbebpnmkaaGreatDoorZPut
import Derived.Test.YtihlpcbebpnmkaaGreatDoorZTarget
import Derived.Test.YtihlpcbebpnmkaaGreatDoorZShift
namespace Go.Proofs.YtihlpcbebpnmkaaGreatDoor
open Go.RowKit
set_option linter.unusedVariables false
set_option linter.unusedSimpArgs false
set_option maxRecDepth 20000
attribute [local go_sem ↓] Go.wp_at_zero Go.wp_at_succ

theorem heftL_drop : ∀ (l : List Nd) (k : Nat) (hk : k < l.length), heftL (l.drop k) = heftN l[k] + heftL (l.drop (k + 1))
  | x :: l, 0, _ => by rw [List.drop_zero, heftL]; rfl
  | x :: l, k + 1, h => by
    have := heftL_drop l k (by simpa using h)
    rw [List.drop_succ_cons, List.drop_succ_cons, this]
    rfl
theorem hp_at : ∀ (P : List Nat) (n y : PN), atP P n = some y → hpN y ≤ hpN n
  | [], n, y, h => by
    rw [atP] at h
    obtain rfl := Option.some.inj h
    exact Nat.le_refl _
  | i :: P, .mk nm ps ks, y, h => by
    rw [atP] at h
    simp only [PN.kids] at h
    rcases hi : ks[i]? with _ | k
    · rw [hi] at h; cases h
    · rw [hi] at h
      have ih := hp_at P k y h
      have hm := hpL_mem (List.mem_of_getElem? hi)
      simp only [hpN]
      omega
/-- What is known of the tree as it is being laid over. -/
structure LayT (w : World) (tb B : Nat) (boot : Int) (ra : Option Addr) (rc : Nat) (rs : List (Int × Int)) (n0 : Nd) (F0 D0 : Nat → Prop) (O : Nd) : Prop where
  hb : 0 ≤ boot ∧ boot ≤ 4294967295
  hlen : rs.length ≤ rc ∧ rc ≤ 9223372036854775807 ∧ rs.length * 16 ≤ 140737488351232
  hnum : ∀ r ∈ rs, (0 ≤ r.1 ∧ r.1 ≤ 18446744073709551615) ∧ (0 ≤ r.2 ∧ r.2 ≤ 18446744073709551615)
  hres : RRow w w.heap.size ra rs
  hR : 0 < rs.length → ∀ b o, ra = some ⟨b, o, none⟩ → ¬ F0 b ∧ b ≠ tb
  hF : ∀ g, F0 g → B ≤ g
  htb : B ≤ tb
  hB : B ≤ w.heap.size
  hO : O.In w B
section
variable {w V : World} {tb B : Nat} {boot : Int} {ra : Option Addr} {rc : Nat} {rs : List (Int × Int)} {n0 n O : Nd} {F0 D0 F D : Nat → Prop}
theorem LayT.at_ (h : LayT w tb B boot ra rc rs n0 F0 D0 O) (hl : LayN w tb 2 29 #[Value.int .u32 boot, .slice ra rs.length rc, .string n0.name, n0.pv, n0.kv] n0 F0 D0 V n F D) (hh : heftN n ≤ 134217728) :
    V.heap[tb]? = some (.cells #[Value.int .u32 boot, .slice ra rs.length rc, .string n.name, n.pv, n.kv] 29 (0, 0)) ∧ (Tr.mk boot ra rc rs n).In V V.heap.size ∧ NodeCells V tb 2 n ∧ tb < V.heap.size ∧ O.In V B ∧ B ≤ V.heap.size ∧ n.In V V.heap.size := by
  have hbx : V.heap[tb]? = some (.cells #[Value.int .u32 boot, .slice ra rs.length rc, .string n.name, n.pv, n.kv] 29 (0, 0)) := by rw [hl.name]; exact hl.box
  have hni : n.In V V.heap.size := hl.own.in_ (by rw [← heft_hp]; omega)
  have hbl : Below B w V := hl.chg.below h.hB (fun g e => e.elim (h.hF g) (fun e => by rw [e]; exact h.htb))
  refine ⟨hbx, ⟨h.hb, h.hlen, fun h0 => ?_, h.hnum, hni⟩, ?_, hl.pbW, h.hO.under hbl, Nat.le_trans h.hB hbl.size, hni⟩
  · obtain ⟨b, o, e, hb, hcc⟩ := h.hres h0
    obtain ⟨q1, q2⟩ := h.hR h0 b o e
    have hne : ¬ (F0 b ∨ b = tb) := fun e => e.elim q1 q2
    exact ⟨b, o, e, Nat.lt_of_lt_of_le hb hl.chg.size, fun i hi => ⟨(hl.chg.cell (a := ⟨b, o + i * 2, none⟩) hb hne).trans (hcc i hi).1, (hl.chg.cell (a := ⟨b, o + i * 2 + 1, none⟩) hb hne).trans (hcc i hi).2⟩⟩
  · obtain ⟨_, _, b2, b3, b4⟩ := tree_box hbx
    exact ⟨b2, b3, b4⟩
end

set_option maxHeartbeats 8000000 in
theorem layFragments_any (w : World) (tb B : Nat) (boot : Int) (ra : Option Addr) (rc : Nat) (rs : List (Int × Int)) (n0 O : Nd) (F0 D0 : Nat → Prop) (ht : LayT w tb B boot ra rc rs n0 F0 D0 O) (hl : LayN w tb 2 29 #[Value.int .u32 boot, .slice ra rs.length rc, .string n0.name, n0.pv, n0.kv] n0 F0 D0 w n0 F0 D0) (hh : heftN n0 + heftN O ≤ 134217728) :
    Calls Tryz.prog 15 #[.pointer (some ⟨tb, 0, none⟩), O.kv] w fun e w' => (∃ er : Int, e = .returned (.int .i64 er)) ∧ ∃ (n : Nd) (F D : Nat → Prop), LayN w tb 2 29 #[Value.int .u32 boot, .slice ra rs.length rc, .string n0.name, n0.pv, n0.kv] n0 F0 D0 w' n F D ∧ KeepsP (pureN n0) (pureN n) ∧ heftN n ≤ heftN n0 + heftN O := by
  have HT := Lib.hid ht
  have HL0 := Lib.hid hl
  have HFD := Lib.hid (heftL_drop O.kids)
  have HF0 : Hid (heftL (O.kids.drop 0) ≤ heftN O) := Lib.hid (by rw [List.drop_zero, heftN_mk O]; omega)
  have HH := Lib.hid hh
  have HOL := Lib.hid (ht.hO.klen)
  clear ht hl hh
  obtain ⟨H0, hH0⟩ : ∃ H0, heftN n0 = H0 := ⟨_, rfl⟩
  obtain ⟨HO, hHO⟩ : ∃ HO, heftN O = HO := ⟨_, rfl⟩
  rw [hH0, hHO] at HH ⊢
  rw [hHO] at HF0
  obtain ⟨hs, hhs⟩ : ∃ hs : Nat → Nat, (fun k => heftL (O.kids.drop k)) = hs := ⟨_, rfl⟩
  have HSD : Hid (∀ k (hk : k < O.kids.length), hs k = heftN O.kids[k] + hs (k + 1)) := Lib.hid (by rw [← hhs]; exact HFD.out)
  have HS0 : Hid (hs 0 ≤ HO) := Lib.hid (by rw [← hhs]; exact HF0.out)
  have HAT : Hid (∀ V n F D, LayN w tb 2 29 #[Value.int .u32 boot, .slice ra rs.length rc, .string n0.name, n0.pv, n0.kv] n0 F0 D0 V n F D → heftN n ≤ 134217728 → V.heap[tb]? = some (.cells #[Value.int .u32 boot, .slice ra rs.length rc, .string n.name, n.pv, n.kv] 29 (0, 0)) ∧ (Tr.mk boot ra rc rs n).In V V.heap.size ∧ NodeCells V tb 2 n ∧ tb < V.heap.size ∧ O.In V B ∧ B ≤ V.heap.size ∧ n.In V V.heap.size) := Lib.hid (fun V n F D h1 h2 => HT.out.at_ h1 h2)
  have HTF : Hid ((∀ g, F0 g → B ≤ g) ∧ B ≤ tb ∧ B ≤ w.heap.size) := Lib.hid ⟨HT.out.hF, HT.out.htb, HT.out.hB⟩
  clear HFD HF0 hhs HT
  have HHI : Hid (heftN n0 ≤ H0) := Lib.hid (by omega)
  clear hH0 hHO
  obtain ⟨onm, opa, opc, ops, oka, okc, oks⟩ := O
  simp only [Nd.kv, Nd.ka, Nd.kc, Nd.kids] at HSD HOL ⊢
  obtain ⟨N, hN⟩ : ∃ N, oks.length = N := ⟨_, rfl⟩
  have HN := Lib.hid hN
  rw [hN] at HOL ⊢
  clear hN
  obtain ⟨l1, l2⟩ := HOL.out
  go_enter Tryz.func15, Tryz.ntmps15
  go_wp2_with fail
  go_loopw [13] (fun i wr => ∃ (k : Nat) (n : Nd) (F D : Nat → Prop), k ≤ N ∧ i = .int .i64 k ∧ LayN w tb 2 29 #[Value.int .u32 boot, .slice ra rs.length rc, .string n0.name, n0.pv, n0.kv] n0 F0 D0 wr n F D ∧ KeepsP (pureN n0) (pureN n) ∧ heftN n + hs k ≤ H0 + HO) (fun i _ => N - (intOf i).toNat)
  case atStart => exact ⟨0, n0, F0, D0, Nat.zero_le _, rfl, HL0.out, KeepsP.refl _, by have h1 := HS0.out; have h2 := HHI.out; omega⟩
  case round =>
    obtain ⟨k, n, F, D, hk, rfl, hlay, hkeep, hhf⟩ := hrel
    have HLY := Lib.hid hlay
    have HKP := Lib.hid hkeep
    have HHF := Lib.hid hhf
    have HNH : Hid (heftN n ≤ 134217728) := Lib.hid (by have := HH.out; omega)
    clear hlay hkeep hhf
    by_cases hlt : k < N
    · have HLT := Lib.hid hlt
      have hkl : k < oks.length := by rw [HN.out]; exact hlt
      have hsd := HSD.out k hkl
      obtain ⟨_, _, _, _, a5, a6, _⟩ := HAT.out _ _ _ _ HLY.out HNH.out
      obtain ⟨kb, ko, e, _, d0, d1, d2⟩ := a5.kcell (i := k) hkl
      obtain rfl : oka = _ := e
      have HFI := Lib.hid (a5.kid (List.getElem_mem (l := oks) hkl))
      replace d0 : wr.cell? ⟨kb, ko + k * 3, none⟩ = some (.string (oks[k]'hkl).name) := d0
      replace d1 : wr.cell? ⟨kb, ko + k * 3 + 1, none⟩ = some (oks[k]'hkl).pv := d1
      replace d2 : wr.cell? ⟨kb, ko + k * 3 + 2, none⟩ = some (oks[k]'hkl).kv := d2
      replace HFI : Hid ((oks[k]'hkl).In wr B ∧ B ≤ wr.heap.size) := Lib.hid ⟨HFI.out, a6⟩
      generalize (oks[k]'hkl) = f at *
      have HSK := Lib.hid hsd
      have HFH : Hid (heftN f ≤ 134217728) := Lib.hid (by have h1 := HHF.out; have h2 := HH.out; omega)
      have CK := Lib.hid (fun (W : World) (h : f.In W W.heap.size) => kid_any f ⟨#[95, 95, 111, 118, 101, 114, 108, 97, 121, 95, 95]⟩ W h _ rfl)
      have HKI := Lib.hid (kidIdx (f.kids.map Nd.name) ⟨#[95, 95, 111, 118, 101, 114, 108, 97, 121, 95, 95]⟩)
      have HFK := Lib.hid (HFI.out.1.klen)
      have HFHK : Hid (∀ x ∈ f.kids, heftN x ≤ heftN f) := Lib.hid (fun x hx => heft_kid hx)
      have CT := Lib.hid (fun (W : World) (h1 : (Tr.mk boot ra rc rs n).In W W.heap.size) (h2 : f.In W W.heap.size) => targetOf_any (Tr.mk boot ra rc rs n) f W h1 h2 HNH.out HFH.out)
      obtain ⟨ix, hix⟩ : ∃ ix, idxOf (f.kids.map Nd.name) ⟨#[95, 95, 111, 118, 101, 114, 108, 97, 121, 95, 95]⟩ = ix := ⟨_, rfl⟩
      rw [hix] at CK HKI
      obtain ⟨W1, hW1⟩ : ∃ W1, wr.alloc (.cells #[.string f.name, f.pv, f.kv] 27) = W1 := ⟨_, rfl⟩
      have HB1 : Hid (Below wr.heap.size wr W1) := Lib.hid (by rw [← hW1]; exact (Below.refl _ _).alloc (Nat.le_refl _) _)
      have HX1 : Hid (W1.heap[wr.heap.size]? = some (.cells #[.string f.name, f.pv, f.kv] 27 (0, 0)) ∧ W1.heap.size = wr.heap.size + 1) := Lib.hid (by rw [← hW1]; exact ⟨heap_alloc_new _ _, by simp⟩)
      -- what is there as long as blocks are only laid
      have HV : Hid (∀ V : World, Below W1.heap.size W1 V → (LayN w tb 2 29 #[Value.int .u32 boot, .slice ra rs.length rc, .string n0.name, n0.pv, n0.kv] n0 F0 D0 V n F D) ∧ V.heap[wr.heap.size]? = some (.cells #[.string f.name, f.pv, f.kv] 27 (0, 0)) ∧ f.In V V.heap.size) := Lib.hid (fun V h => by
        have hb := HB1.out.trans (h.mono HB1.out.size)
        exact ⟨HLY.out.on hb, (h.block _ (by have := HX1.out.2; omega)).trans HX1.out.1, (HFI.out.1.more HFI.out.2).on hb⟩)
      have HW1 := Lib.hid (Below.refl W1.heap.size W1)
      clear hix hsd a5 a6
      obtain ⟨fn, fpa, fpc, fps, fka, fkc, fks⟩ := f
      simp only [Nd.val, Nd.pv, Nd.kv, Nd.name, Nd.pa, Nd.pc, Nd.props, Nd.ka, Nd.kc, Nd.kids, List.length_map, Tr.val, Tr.rv] at CK HKI HFK CT HV HFHK d0 d1 d2 hW1
      have y0 : W1.cell? ⟨wr.heap.size, 0, none⟩ = some (.string fn) := by rw [Lib.cell_of_heap (HV.out W1 HW1.out).2.1]; rfl
      have y1 : W1.cell? ⟨wr.heap.size, 1, none⟩ = some (.slice fpa fps.length fpc) := by rw [Lib.cell_of_heap (HV.out W1 HW1.out).2.1]; rfl
      have y2 : W1.cell? ⟨wr.heap.size, 2, none⟩ = some (.slice fka fks.length fkc) := by rw [Lib.cell_of_heap (HV.out W1 HW1.out).2.1]; rfl
      go_wp2_with fail
      try rw [hW1]
      clear hW1 y0 y1 y2 d0 d1 d2
      refine (CK.out W1 (HV.out W1 HW1.out).2.2).mono ?_
      rintro e w2 ⟨rfl, hb2⟩
      have HW2 := Lib.hid hb2
      clear hb2 CK
      by_cases hx : ix < 0
      · have j2 : decide (ix < 0) = true := decide_eq_true hx
        go_wp2
        go_roundw
        case rel => exact ⟨k + 1, n, F, D, by have := HLT.out; omega, by go_num, (HV.out _ HW2.out).1, HKP.out, by have h1 := HHF.out; have h2 := HSK.out; omega⟩
        case measure => have := HLT.out; simp [intOf]; omega
      · have j2 : decide (ix < 0) = false := decide_eq_false hx
        obtain ⟨i, rfl⟩ : ∃ i : Nat, ix = (i : Int) := ⟨ix.toNat, by omega⟩
        have hik : i < fks.length := by have := HKI.out; omega
        have HS6 : Hid (∀ V : World, Below W1.heap.size W1 V → (V.cell? ⟨tb, 0, none⟩ = some (.int .u32 boot) ∧ V.cell? ⟨tb, 1, none⟩ = some (.slice ra rs.length rc) ∧ V.cell? ⟨tb, 2, none⟩ = some (.string n.name) ∧ V.cell? ⟨tb, 3, none⟩ = some (.slice n.pa n.props.length n.pc) ∧ V.cell? ⟨tb, 4, none⟩ = some (.slice n.ka n.kids.length n.kc)) ∧ V.cell? ⟨wr.heap.size, 0, none⟩ = some (.string fn) ∧ V.cell? ⟨wr.heap.size, 1, none⟩ = some (.slice fpa fps.length fpc) ∧ V.cell? ⟨wr.heap.size, 2, none⟩ = some (.slice fka fks.length fkc)) := Lib.hid (fun V h => by
          obtain ⟨v1, v2, _⟩ := HV.out V h
          obtain ⟨a1, _⟩ := HAT.out _ _ _ _ v1 HNH.out
          obtain ⟨b0, b1, b2, b3, b4⟩ := tree_box a1
          exact ⟨⟨b0, b1, b2, b3, b4⟩, by rw [Lib.cell_of_heap v2]; rfl, by rw [Lib.cell_of_heap v2]; rfl, by rw [Lib.cell_of_heap v2]; rfl⟩)
        have HTI : Hid (∀ V : World, Below W1.heap.size W1 V → (Tr.mk boot ra rc rs n).In V V.heap.size) := Lib.hid (fun V h => (HAT.out _ _ _ _ (HV.out V h).1 HNH.out).2.1)
        obtain ⟨R, hR⟩ : ∃ R, n = R := ⟨_, rfl⟩
        have CT2 : Hid (∀ W : World, (Tr.mk boot ra rc rs n).In W W.heap.size → (Nd.mk fn fpa fpc fps fka fkc fks).In W W.heap.size → Calls Tryz.prog 28 #[.agg #[.int .u32 boot, .slice ra rs.length rc, .string n.name, .slice n.pa n.props.length n.pc, .slice n.ka n.kids.length n.kc], .agg #[.string fn, .slice fpa fps.length fpc, .slice fka fks.length fkc]] W fun e w' => PlaceOut R w' e ∧ Below W.heap.size W w') := by rw [← hR]; exact CT
        have HRN := Lib.hid hR
        clear hR CT
        have HEX : Hid (∃ nn npa npc nps nka nkc nks, n = Nd.mk nn npa npc nps nka nkc nks) := Lib.hid (by cases n; exact ⟨_, _, _, _, _, _, _, rfl⟩)
        obtain ⟨nn, npa, npc, nps, nka, nkc, nks, hn⟩ := HEX.out
        have HNE := Lib.hid hn
        have hnn : n.name = nn := by rw [hn]; rfl
        have hn1 : n.pa = npa := by rw [hn]; rfl
        have hn2 : n.pc = npc := by rw [hn]; rfl
        have hn3 : n.props = nps := by rw [hn]; rfl
        have hn4 : n.ka = nka := by rw [hn]; rfl
        have hn5 : n.kc = nkc := by rw [hn]; rfl
        have hn6 : n.kids = nks := by rw [hn]; rfl
        rw [hnn, hn1, hn2, hn3, hn4, hn5, hn6] at CT2 HS6
        clear hn hnn hn1 hn2 hn3 hn4 hn5 hn6 HEX
        go_wp2_with fail
        refine wp_region_held_drew (S := fun V => (V.cell? ⟨tb, 0, none⟩ = some (.int .u32 boot) ∧ V.cell? ⟨tb, 1, none⟩ = some (.slice ra rs.length rc) ∧ V.cell? ⟨tb, 2, none⟩ = some (.string nn) ∧ V.cell? ⟨tb, 3, none⟩ = some (.slice npa nps.length npc) ∧ V.cell? ⟨tb, 4, none⟩ = some (.slice nka nks.length nkc)) ∧ V.cell? ⟨wr.heap.size, 0, none⟩ = some (.string fn) ∧ V.cell? ⟨wr.heap.size, 1, none⟩ = some (.slice fpa fps.length fpc) ∧ V.cell? ⟨wr.heap.size, 2, none⟩ = some (.slice fka fks.length fkc)) (by kernel_rfl) (HS6.out w2 HW2.out) (fun hHeld => ?_)
        refine held_take 0 rfl (by kernel_rfl) (by kernel_rfl) (by kernel_rfl) (fun _ _ _ h => h) (by rfl) hHeld (v := ?_) (fun w hSw => ?_) (fun _ => ?_)
        rotate_left
        · ((try dsimp only at hSw); go_simp; (try with_reducible rfl))
        simp only [Act.put, List.setIfInBounds_toArray, List.set_cons_zero, List.set_cons_succ]
        refine held_take 1 rfl (by kernel_rfl) (by kernel_rfl) (by kernel_rfl) (fun _ _ _ h => h) (by rfl) hHeld (v := ?_) (fun w hSw => ?_) (fun _ => ?_)
        rotate_left
        · ((try dsimp only at hSw); go_simp; (try with_reducible rfl))
        simp only [Act.put, List.setIfInBounds_toArray, List.set_cons_zero, List.set_cons_succ]
        refine held_take 2 rfl (by kernel_rfl) (by kernel_rfl) (by kernel_rfl) (fun _ _ _ h => h) (by rfl) hHeld (v := ?_) (fun w hSw => ?_) (fun _ => ?_)
        rotate_left
        · ((try dsimp only at hSw); go_simp; (try with_reducible rfl))
        simp only [Act.put, List.setIfInBounds_toArray, List.set_cons_zero, List.set_cons_succ]
        refine held_take 3 rfl (by kernel_rfl) (by kernel_rfl) (by kernel_rfl) (fun _ _ _ h => h) (by rfl) hHeld (v := ?_) (fun w hSw => ?_) (fun _ => ?_)
        rotate_left
        · ((try dsimp only at hSw); go_simp; (try with_reducible rfl))
        simp only [Act.put, List.setIfInBounds_toArray, List.set_cons_zero, List.set_cons_succ]
        refine held_call 4 (by kernel_rfl) rfl (by rfl) (fun K hK => ?_)
        go_simp
        have HW2d := Lib.hid (HW2.out.trans ((Below.refl _ w2).drew.mono HW2.out.size))
        refine (CT2.out w2.drew (HTI.out _ HW2d.out) (HV.out _ HW2d.out).2.2).mono ?_
        rintro e w3 ⟨⟨A3, p3, c3, er, rfl, hpl⟩, hb3⟩
        have HW3 := Lib.hid (HW2d.out.trans (hb3.mono HW2d.out.size))
        have HPL := Lib.hid hpl
        clear hb3 hpl CT2 HW2 HW2d
        dsimp only
        refine hK.out _ _ (HS6.out w3 HW3.out) (fun hHeld => ?_)
        clear hK K
        refine held_take 5 rfl (by kernel_rfl) (by kernel_rfl) (by kernel_rfl) (fun _ _ _ h => h) (by rfl) hHeld (v := ?_) (fun w hSw => ?_) (fun _ => ?_)
        rotate_left
        · ((try dsimp only at hSw); go_simp; (try with_reducible rfl))
        simp only [Act.put, List.setIfInBounds_toArray, List.set_cons_zero, List.set_cons_succ]
        refine held_take 6 rfl (by kernel_rfl) (by kernel_rfl) (by kernel_rfl) (fun _ _ _ h => h) (by rfl) hHeld (v := ?_) (fun w hSw => ?_) (fun _ => ?_)
        rotate_left
        · ((try dsimp only at hSw); go_simp; (try with_reducible rfl))
        simp only [Act.put, List.setIfInBounds_toArray, List.set_cons_zero, List.set_cons_succ]
        refine held_take 7 rfl (by kernel_rfl) (by kernel_rfl) (by kernel_rfl) (fun _ _ _ h => h) (by rfl) hHeld (v := ?_) (fun w hSw => ?_) (fun _ => ?_)
        rotate_left
        · ((try dsimp only at hSw); go_simp; (try with_reducible rfl))
        simp only [Act.put, List.setIfInBounds_toArray, List.set_cons_zero, List.set_cons_succ]
        refine held_take 8 rfl (by kernel_rfl) (by kernel_rfl) (by kernel_rfl) (fun _ _ _ h => h) (by rfl) hHeld (v := ?_) (fun w hSw => ?_) (fun _ => ?_)
        rotate_left
        · ((try dsimp only at hSw); go_simp; (try with_reducible rfl))
        simp only [Act.put, List.setIfInBounds_toArray, List.set_cons_zero, List.set_cons_succ]
        refine held_take 9 rfl (by kernel_rfl) (by kernel_rfl) (by kernel_rfl) (fun _ _ _ h => h) (by rfl) hHeld (v := ?_) (fun w hSw => ?_) (fun _ => ?_)
        rotate_left
        · ((try dsimp only at hSw); go_simp; (try with_reducible rfl))
        simp only [Act.put, List.setIfInBounds_toArray, List.set_cons_zero, List.set_cons_succ]
        refine wpAnyH_done (by kernel_rfl) ?_ _
        clear hHeld
        by_cases he : er = 0
        · subst he
          obtain ⟨P, ⟨y, hy⟩, hPl, hcel, hc1, hc2⟩ := HPL.out rfl
          rw [← HRN.out] at hy
          have HY := Lib.hid hy
          clear HPL
          obtain ⟨_, a2, a3, a4, _, _, a7⟩ := HAT.out _ _ _ _ (HV.out w3 HW3.out).1 HNH.out
          have CN := Lib.hid (nodeAtP_any n tb 2 P A3 p3 c3 w3 a7 a3 a4 hcel hc1 hc2 hy)
          clear hcel hy hPl a2 a3 a4 a7
          go_wp2_with fail
          refine CN.out.mono ?_
          rintro e w4 ⟨rfl, rfl⟩
          obtain ⟨gk, ok, tk, curk, Gi, ha, hG, hgk, hdl, hdone⟩ := LayN.deep P (HV.out w4.drew (HW3.out.trans ((Below.refl _ w4).drew.mono HW3.out.size))).1 HY.out
          have hgr : adrP n tb 2 P = ⟨gk, ok, none⟩ := by unfold adrP; rw [ha]
          rw [hgr]
          have HW4 := Lib.hid (HW3.out.trans ((Below.refl _ w4).drew.mono HW3.out.size))
          have HDL := Lib.hid hdl
          have HDN := Lib.hid hdone
          have HYC : Hid (NodeCells w4.drew gk ok y ∧ y.In w4.drew w4.drew.heap.size) := Lib.hid (by
            obtain ⟨_, _, a3, a4, _, _, a7⟩ := HAT.out _ _ _ _ (HV.out w4.drew HW4.out).1 HNH.out
            have := (adr_cells P a7 a3 a4 HY.out).1
            rw [ha] at this
            exact ⟨this, nodeAt_in11 P a7 HY.out⟩)
          have HYH : Hid (heftN y ≤ heftN n) := Lib.hid (by rw [heft_hp, heft_hp]; exact hp_at P _ _ (at_pure P HY.out))
          have HGK : Hid (B ≤ gk ∧ gk < wr.heap.size) := Lib.hid (by
            have hF := (HV.out w4.drew HW4.out).1.hF'
            rcases hgk with e | e
            · have h1 := (HLY.out.hF' gk e)
              refine ⟨?_, h1.2⟩
              rcases h1.1 with e | e
              · exact HTF.out.1 gk e
              · have := HTF.out.2.2; omega
            · rw [e]
              exact ⟨HTF.out.2.1, HLY.out.pbW⟩)
          clear ha hG hgk hdl hdone hgr
          obtain ⟨fb, fo, e, hfb, _⟩ := HFI.out.1.kcell (i := i) hik
          obtain rfl : fka = _ := e
          have HFB : Hid (fb < B ∧ B ≤ wr.heap.size) := Lib.hid ⟨hfb, HFI.out.2⟩
          clear hfb
          have HXC : Hid (∀ V : World, Below W1.heap.size W1 V → NodeCells V fb (fo + i * 3) (fks[i]'hik) ∧ (fks[i]'hik).In V V.heap.size) := Lib.hid (fun V h => by
            have hf := (HV.out V h).2.2
            obtain ⟨b, o, e, _, c0, c1, c2⟩ := hf.kcell (i := i) hik
            have e' : (some ⟨fb, fo, none⟩ : Option Addr) = some ⟨b, o, none⟩ := e
            simp only [Option.some.injEq, Addr.mk.injEq, and_true] at e'
            obtain ⟨rfl, rfl⟩ := e'
            exact ⟨⟨c0, c1, c2⟩, hf.kid (List.getElem_mem (l := fks) hik)⟩)
          have HXH := Lib.hid (HFHK.out _ (List.getElem_mem hik))
          generalize (fks[i]'hik) = X at *
          obtain ⟨xn, xpa, xpc, xps, xka, xkc, xks⟩ := X
          obtain ⟨yn, ypa, ypc, yps, yka, ykc, yks⟩ := y
          have CM := Lib.hid (merge_own (Nd.mk xn xpa xpc xps xka xkc xks) (Nd.mk yn ypa ypc yps yka ykc yks) w4.drew HYC.out.2 (HXC.out _ HW4.out).2 (by have h1 := HYH.out; have h2 := HXH.out; have h3 := HFH.out; have h4 := HNH.out; omega))
          have HS10 : Hid (∀ V : World, (∀ a : Addr, a.block ≠ gk → a.block < w4.heap.size → V.cell? a = w4.cell? a) → V.cell? ⟨wr.heap.size, 2, none⟩ = some (.slice (some ⟨fb, fo, none⟩) fks.length fkc) ∧ V.cell? ⟨fb, fo + i * 3, none⟩ = some (.string xn) ∧ V.cell? ⟨fb, fo + i * 3 + 1, none⟩ = some (.slice xpa xps.length xpc) ∧ V.cell? ⟨fb, fo + i * 3 + 2, none⟩ = some (.slice xka xks.length xkc)) := Lib.hid (fun V h => by
            obtain ⟨c0, c1, c2⟩ := (HXC.out w4 HW3.out).1
            have hs1 := HX1.out.2
            have hs3 := HW3.out.size
            have hg := HGK.out
            have hl := HFB.out
            have hn : fb ≠ gk := by omega
            have hl4 : fb < w4.heap.size := by omega
            refine ⟨(h ⟨wr.heap.size, 2, none⟩ (by show wr.heap.size ≠ gk; omega) (by show wr.heap.size < _; omega)).trans ?_, (h ⟨fb, fo + i * 3, none⟩ hn hl4).trans c0, (h ⟨fb, fo + i * 3 + 1, none⟩ hn hl4).trans c1, (h ⟨fb, fo + i * 3 + 2, none⟩ hn hl4).trans c2⟩
            rw [Lib.cell_of_heap (HV.out w4 HW3.out).2.1]; rfl)
          simp only [Nd.val, Nd.pv, Nd.kv, Nd.name, Nd.pa, Nd.pc, Nd.props, Nd.ka, Nd.kc, Nd.kids] at CM
          have hfl := HFK.out
          go_wp2_with fail
          refine wp_region_held_drew (S := fun V => V.cell? ⟨wr.heap.size, 2, none⟩ = some (.slice (some ⟨fb, fo, none⟩) fks.length fkc) ∧ V.cell? ⟨fb, fo + i * 3, none⟩ = some (.string xn) ∧ V.cell? ⟨fb, fo + i * 3 + 1, none⟩ = some (.slice xpa xps.length xpc) ∧ V.cell? ⟨fb, fo + i * 3 + 2, none⟩ = some (.slice xka xks.length xkc)) (by kernel_rfl) (HS10.out w4 (fun _ _ _ => rfl)) (fun hHeld => ?_)
          obtain ⟨c0, c1, c2⟩ := HYC.out.1
          replace c0 : w4.drew.cell? ⟨gk, ok, none⟩ = some (.string yn) := c0
          replace c1 : w4.drew.cell? ⟨gk, ok + 1, none⟩ = some (.slice ypa yps.length ypc) := c1
          replace c2 : w4.drew.cell? ⟨gk, ok + 2, none⟩ = some (.slice yka yks.length ykc) := c2
          refine held_take 0 rfl (by kernel_rfl) (by kernel_rfl) (by kernel_rfl) (fun _ _ _ h => h) (by rfl) hHeld (v := ?_) (fun w hSw => ?_) (fun _ => ?_)
          rotate_left
          · ((try dsimp only at hSw); go_simp; (try with_reducible rfl))
          simp only [Act.put, List.setIfInBounds_toArray, List.set_cons_zero, List.set_cons_succ]
          refine held_take 1 rfl (by kernel_rfl) (by kernel_rfl) (by kernel_rfl) (fun _ _ _ h => h) (by rfl) hHeld (v := ?_) (fun w hSw => ?_) (fun _ => ?_)
          rotate_left
          · ((try dsimp only at hSw); go_simp; (try with_reducible rfl))
          simp only [Act.put, List.setIfInBounds_toArray, List.set_cons_zero, List.set_cons_succ]
          refine held_take 2 rfl (by kernel_rfl) (by kernel_rfl) (by kernel_rfl) (fun _ _ _ h => h) (by rfl) hHeld (v := ?_) (fun w hSw => ?_) (fun _ => ?_)
          rotate_left
          · ((try dsimp only at hSw); go_simp; (try with_reducible rfl))
          simp only [Act.put, List.setIfInBounds_toArray, List.set_cons_zero, List.set_cons_succ]
          refine held_take 4 rfl (by kernel_rfl) (by kernel_rfl) (by kernel_rfl) (fun _ _ _ h => h) (by rfl) hHeld (v := ?_) (fun w hSw => ?_) (fun _ => ?_)
          rotate_left
          · ((try dsimp only at hSw); go_simp; (try with_reducible rfl))
          simp only [Act.put, List.setIfInBounds_toArray, List.set_cons_zero, List.set_cons_succ]
          refine held_take 5 rfl (by kernel_rfl) (by kernel_rfl) (by kernel_rfl) (fun _ _ _ h => h) (by rfl) hHeld (v := ?_) (fun w hSw => ?_) (fun _ => ?_)
          rotate_left
          · ((try dsimp only at hSw); go_simp; (try with_reducible rfl))
          simp only [Act.put, List.setIfInBounds_toArray, List.set_cons_zero, List.set_cons_succ]
          refine held_take 6 rfl (by kernel_rfl) (by kernel_rfl) (by kernel_rfl) (fun _ _ _ h => h) (by rfl) hHeld (v := ?_) (fun w hSw => ?_) (fun _ => ?_)
          rotate_left
          · ((try dsimp only at hSw); go_simp; (try with_reducible rfl))
          simp only [Act.put, List.setIfInBounds_toArray, List.set_cons_zero, List.set_cons_succ]
          refine held_take 7 rfl (by kernel_rfl) (by kernel_rfl) (by kernel_rfl) (fun _ _ _ h => h) (by rfl) hHeld (v := ?_) (fun w hSw => ?_) (fun _ => ?_)
          rotate_left
          · ((try dsimp only at hSw); go_simp; (try with_reducible rfl))
          simp only [Act.put, List.setIfInBounds_toArray, List.set_cons_zero, List.set_cons_succ]
          refine held_take 8 rfl (by kernel_rfl) (by kernel_rfl) (by kernel_rfl) (fun _ _ _ h => h) (by rfl) hHeld (v := ?_) (fun w hSw => ?_) (fun _ => ?_)
          rotate_left
          · ((try dsimp only at hSw); go_simp; (try with_reducible rfl))
          simp only [Act.put, List.setIfInBounds_toArray, List.set_cons_zero, List.set_cons_succ]
          refine held_call 3 (by kernel_rfl) rfl (by rfl) (fun K hK => ?_)
          go_simp
          refine hK.out _ _ (HS10.out w4.drew (fun _ _ _ => rfl)) (fun hHeld => ?_)
          clear hK K
          clear c0 c1 c2
          refine held_call 9 (by kernel_rfl) rfl (by rfl) (fun K hK => ?_)
          go_simp
          refine CM.out.mono ?_
          rintro e w5 ⟨⟨m, Fm, Dm, rfl, hmp, hmo, hmF, hmD⟩, hb5⟩
          have hb5' : Below w4.heap.size w4 w5 := (Below.refl _ w4).drew.trans hb5
          dsimp only
          refine hK.out _ _ (HS10.out w5 (fun a _ hl => hb5'.cell hl)) (fun hHeld => ?_)
          clear hK K
          refine held_take 10 rfl (by kernel_rfl) (by kernel_rfl) (by kernel_rfl) (fun _ _ _ h => h) (by rfl) hHeld (v := ?_) (fun w hSw => ?_) (fun _ => ?_)
          rotate_left
          · ((try dsimp only at hSw); go_simp; (try with_reducible rfl))
          simp only [Act.put, List.setIfInBounds_toArray, List.set_cons_zero, List.set_cons_succ]
          have hput : LayN w4.drew gk ok tk curk (Nd.mk yn ypa ypc yps yka ykc yks) Gi D (((w5.setCell ⟨gk, ok, none⟩ (.string m.name)).setCell ⟨gk, ok + 1, none⟩ m.pv).setCell ⟨gk, ok + 2, none⟩ m.kv) m (fun g => Gi g ∨ Fm g) (fun g => D g ∨ Dm g) :=
            LayN.put HDL.out HYC.out.1.1 hb5 hmo hmF hmD (by
              have h1 := (merge_keeps (pureN (Nd.mk xn xpa xpc xps xka xkc xks)) (pureN (Nd.mk yn ypa ypc yps yka ykc yks))).1
              rw [← hmp, pure_name, pure_name] at h1
              exact h1)
          obtain ⟨n2, F2, hl2, hp2⟩ := HDN.out _ _ _ _ hput
          have HL2 := Lib.hid hl2
          have HKP2 : Hid (KeepsP (pureN n0) (pureN n2)) := Lib.hid (by
            have h1 := merge_keeps (pureN (Nd.mk xn xpa xpc xps xka xkc xks)) (pureN (Nd.mk yn ypa ypc yps yka ykc yks))
            rw [hp2]
            exact KeepsP.trans _ HKP.out (putAt_keeps P _ _ _ (at_pure P HY.out) (by rw [hmp]; exact h1.1) (by rw [hmp]; exact h1.2)))
          have HHF2 : Hid (heftN n2 + hs (k + 1) ≤ H0 + HO) := Lib.hid (by
            have h1 := hp_put P (pureN n) _ (pureN m) (at_pure P HY.out)
            have h2 := hp_merge (pureN (Nd.mk xn xpa xpc xps xka xkc xks)) (pureN (Nd.mk yn ypa ypc yps yka ykc yks))
            rw [← hmp] at h2
            rw [← hp2] at h1
            have h3 := HXH.out
            have h4 := HSK.out
            have h5 := HHF.out
            simp only [heft_hp] at h3 h4 h5 ⊢
            omega)
          have hfr : ∀ j, w5.frozen? ⟨gk, j, none⟩ = false := fun j => (hb5'.frozen (p := ⟨gk, j, none⟩) HDL.out.pbw).trans (HDL.out.cells.2.2 j)
          have f0 := hfr ok
          have f1 := hfr (ok + 1)
          have f2 := hfr (ok + 2)
          obtain ⟨q0, q1, q2⟩ := HYC.out.1
          have c0 : w5.cell? ⟨gk, ok, none⟩ = some (.string yn) := (hb5.cell (p := ⟨gk, ok, none⟩) HDL.out.pbw).trans q0
          have c1 : w5.cell? ⟨gk, ok + 1, none⟩ = some (.slice ypa yps.length ypc) := (hb5.cell (p := ⟨gk, ok + 1, none⟩) HDL.out.pbw).trans q1
          have c2 : w5.cell? ⟨gk, ok + 2, none⟩ = some (.slice yka yks.length ykc) := (hb5.cell (p := ⟨gk, ok + 2, none⟩) HDL.out.pbw).trans q2
          clear q0 q1 q2
          clear hput hl2 hp2 hmp hmo hmF hmD hfr HDN HDL CM
          obtain ⟨mn, mpa, mpc, mps, mka, mkc, mks⟩ := m
          simp only [Nd.val, Nd.pv, Nd.kv, Nd.name, Nd.pa, Nd.pc, Nd.props, Nd.ka, Nd.kc, Nd.kids] at HL2 ⊢
          refine held_call 11 (by kernel_rfl) rfl (by rfl) (fun K hK => ?_)
          go_simp
          refine hK.out _ _ (HS10.out _ (fun a hn hl => ?_)) (fun hHeld => ?_)
          · rw [World.cell?_setCell_other _ _ _ _ (fun e => hn (by rw [← e])), World.cell?_setCell_other _ _ _ _ (fun e => hn (by rw [← e])), World.cell?_setCell_other _ _ _ _ (fun e => hn (by rw [← e]))]
            exact hb5'.cell hl
          clear hK K
          refine wpAnyH_done (by kernel_rfl) ?_ _
          clear hHeld
          clear c0 c1 c2 f0 f1 f2
          go_wp2
          go_roundw
          case rel => exact ⟨k + 1, n2, F2, _, by have := HLT.out; omega, by go_num, HL2.out, HKP2.out, HHF2.out⟩
          case measure => have := HLT.out; simp [intOf]; omega
        · have j1 : (er != 0) = true := by rw [bne_iff_ne]; exact he
          go_wp2
          go_ret
          first | exact ⟨⟨_, rfl⟩, n, F, D, (HV.out w3 HW3.out).1, HKP.out, by have := HHF.out; omega⟩ | exact ⟨⟨_, rfl⟩, n, ⟨F, D, (HV.out w3 HW3.out).1⟩, HKP.out, by have := HHF.out; omega⟩
    · obtain rfl : k = N := by omega
      go_wp2
      go_ret
      exact ⟨⟨_, rfl⟩, n, F, D, HLY.out, HKP.out, by have := HHF.out; omega⟩
end Go.Proofs.YtihlpcbebpnmkaaGreatDoor
