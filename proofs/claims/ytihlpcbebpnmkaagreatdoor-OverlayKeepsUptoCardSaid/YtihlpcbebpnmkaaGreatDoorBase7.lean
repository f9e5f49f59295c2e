/-
  Base, part 7: what the proofs of this claim lean on.
-/
import Derived.Test.YtihlpcbebpnmkaaGreatDoorBase6
import Derived.Test.YtihlpcbebpnmkaaGreatDoorBase2
import Derived.Lib.AppendZerosOnto
import Derived.Test.YtihlpcbebpnmkaaGreatDoorBase1
import Derived.Lib.Bytes
import Derived.Lib.SmallJoins

/-! layKids: nodes laid over those right below a node at a place of the call's own. -/
namespace Go.Proofs.YtihlpcbebpnmkaaGreatDoor
open Go.RowKit Go.Maps Go.WideMaps
set_option linter.unusedVariables false
set_option linter.unusedSimpArgs false
attribute [local go_sem ↓] Go.wp_at_zero Go.wp_at_succ

theorem pure_knamesO (K : List Nd) : (K.map pureN).map PN.name = K.map Nd.name := by
  rw [List.map_map]
  exact List.map_congr_left fun k _ => by rw [Function.comp, pureN_mk]; rfl
theorem name_pure (k : Nd) : (pureN k).name = k.name := by rw [pureN_mk]; rfl
theorem set_knames {K : List Nd} {j : Nat} (hj : j < K.length) {q : Nd} (hn : q.name = K[j].name) : (K.set j q).map Nd.name = K.map Nd.name := by
  rw [List.map_set]
  apply List.ext_getElem?
  intro i
  by_cases hi : j = i
  · subst hi
    rw [List.getElem?_set_self (by simpa using hj), List.getElem?_map, List.getElem?_eq_getElem hj, hn]; rfl
  · rw [List.getElem?_set_ne hi]
theorem mergeL_one (k : PN) (l : List PN) : mergeL [k] l = updK (fun x => mergeN k x) k l := by rw [mergeL, mergeL]
theorem mergeL_next (ks : List Nd) (k : Nat) (hk : k < ks.length) (l : List PN) : mergeL ((ks.take (k + 1)).map pureN) l = updK (fun x => mergeN (pureN ks[k]) x) (pureN ks[k]) (mergeL ((ks.take k).map pureN) l) := by
  rw [take_snoc hk, List.map_append, mergeL_app]
  exact mergeL_one _ _
theorem hpL_takeO (ks : List Nd) (k : Nat) (hk : k < ks.length) : hpL ((ks.take k).map pureN) + hpN (pureN ks[k]) ≤ hpL (ks.map pureN) := by
  have app : ∀ a b : List PN, hpL (a ++ b) = hpL a + hpL b := fun a b => by
    induction a with
    | nil => simp [hpL]
    | cons x a ih => rw [List.cons_append, hpL, hpL, ih]; omega
  have e : ks.map pureN = (ks.take k).map pureN ++ (pureN ks[k] :: (ks.drop (k + 1)).map pureN) := by
    rw [← List.map_cons, ← List.map_append, ← List.drop_eq_getElem_cons hk, List.take_append_drop]
  rw [e, app, hpL]
  omega

theorem nd_val (a : ByteArray) (b : Option Addr) (c : Nat) (d : List PV) (e : Option Addr) (f : Nat) (g : List Nd) : (Nd.mk a b c d e f g).val = .agg #[.string a, .slice b d.length c, .slice e g.length f] := rfl
theorem setCell_comm (w : World) {a b : Addr} (h : a.block ≠ b.block) (x y : Value) : (w.setCell a x).setCell b y = (w.setCell b y).setCell a x := by
  unfold World.setCell
  congr 1
  apply Array.ext_getElem?
  intro i
  simp only [Array.getElem?_modify]
  by_cases h1 : a.block = i
  · have h2 : b.block ≠ i := fun e => h (h1.trans e.symm)
    simp [h1, h2]
  · by_cases h2 : b.block = i
    · simp [h1, h2]
    · simp [h1, h2]
theorem wp_mapUpdate_run {P : Program} (w : World) {o : Oper} {a : Act} {K : Act → World → Prop} {Q : Exit → Act → World → Prop} (m x v : Operand) (t : TypeId) (hop : o.op = Op.mapUpdate t m x v) (M X V : Value) (hm : a.eval m = M) (hx : a.eval x = X) (hv : a.eval v = V) {w' : World}
    (hr : (Instr.mapUpdate t M X V).run P w = .ok () w') (h : K (a.put o.dst undef) w') : o.wp P a w K Q := by
  unfold Oper.wp
  simp [execOp, hop, hm, hx, hv, hr, Result.andThen]
  exact h
theorem held_three {P : Program} {l : List Oper} {Q : Exit → Act → World → Prop} {S : World → Prop} (i j k : Nat) {oi oj ok : Oper} {fuel : Nat} {listed : Array Bool} {a : Act} {w : World} (hr : Region.ready .any l.toArray listed = [i, j, k]) (hi : l[i]? = some oi) (hj : l[j]? = some oj) (hk : l[k]? = some ok) (hwi : Region.wanted oi (yielded l.toArray a.tmps) = true) (hwj : Region.wanted oj (yielded l.toArray a.tmps) = true) (hwk : Region.wanted ok (yielded l.toArray a.tmps) = true)
    (h1 : ∀ K : Act → World → Prop, Shut (∀ a w, S w → (S w → wpAnyH P .any l.toArray Q S fuel (listed.setIfInBounds i true) a w) → K a w) → Oper.wp P oi a w K Q)
    (h2 : ∀ K : Act → World → Prop, Shut (∀ a w, S w → (S w → wpAnyH P .any l.toArray Q S fuel (listed.setIfInBounds j true) a w) → K a w) → Oper.wp P oj a w K Q)
    (h3 : ∀ K : Act → World → Prop, Shut (∀ a w, S w → (S w → wpAnyH P .any l.toArray Q S fuel (listed.setIfInBounds k true) a w) → K a w) → Oper.wp P ok a w K Q) : wpAnyH P .any l.toArray Q S (fuel + 1) listed a w :=
  wpAnyH_ready hr (by simp) (AllReadyH.cons (by simpa using hi) (fun K hK => by rw [if_pos hwi]; exact h1 K hK) (AllReadyH.cons (by simpa using hj) (fun K hK => by rw [if_pos hwj]; exact h2 K hK) (AllReadyH.cons (by simpa using hk) (fun K hK => by rw [if_pos hwk]; exact h3 K hK) AllReadyH.nil)))
/-- Beside a node of the call's own there is another one, all new. -/
theorem lay_clone {w V w4 W5 : World} {pb o : Nat} {t : TypeId} {cur : Array Value} {n n0 m : Nd} {F D F0 D0 Fk Dk : Nat → Prop} (h : LayN w pb o t cur n F D V n0 F0 D0) (hb : Below V.heap.size V w4) (ho : Own w4 Fk Dk m) (hF : ∀ q, Fk q → V.heap.size ≤ q ∧ q < w4.heap.size) (hD : ∀ q, Dk q → V.heap.size ≤ q ∧ q < w4.heap.size ∧ ¬ Fk q) (hb5 : Below w4.heap.size w4 W5) :
    LayN w pb o t cur n F D W5 n0 F0 D0 ∧ Own W5 Fk Dk m ∧ (∀ g, Fk g → w.heap.size ≤ g ∧ g < W5.heap.size ∧ ¬ F0 g ∧ ¬ D0 g ∧ ¬ Dk g) ∧ (∀ g, Dk g → w.heap.size ≤ g ∧ g < W5.heap.size ∧ ¬ F0 g) ∧ ∀ g, g < V.heap.size → W5.heap[g]? = V.heap[g]? ∧ ¬ Fk g ∧ ¬ Dk g := by
  have s1 := h.chg.size
  have s2 := hb.size
  have s3 := hb5.size
  refine ⟨(h.on hb).on hb5, ho.chg (E := fun _ => False) (Chg.ofBelow hb5) (fun _ _ e => e) (fun _ _ e => e), fun g e => ?_, fun g e => ?_, fun g hg => ⟨(hb5.block g (by omega)).trans (hb.block g hg), fun e => by have := hF g e; omega, fun e => by have := hD g e; omega⟩⟩
  · have h1 := hF g e
    exact ⟨by omega, by omega, fun e' => by have := (h.hF' g e').2; omega, fun e' => by have := (h.hD' g e').2.1; omega, fun e' => (hD g e').2.2 e⟩
  · have h1 := hD g e
    exact ⟨by omega, by omega, fun e' => by have := (h.hF' g e').2; omega⟩
theorem cutK {C P : World → Nat → ByteArray → Option Addr → Nat → List PV → Option Addr → Nat → List Nd → (Nat → Prop) → (Nat → Prop) → Prop} {Q : Prop}
    (h : (∀ W g a b c d e f i F D, C W g a b c d e f i F D → P W g a b c d e f i F D) → Q) (k : ∀ W g a b c d e f i F D, C W g a b c d e f i F D → P W g a b c d e f i F D) : Q := h k


set_option maxRecDepth 20000 in
set_option maxHeartbeats 16000000 in
theorem layKids_of (l : List Nd) (ih : ∀ k ∈ l, LayOK k) : LayKOK l := by
  intro pb o t cur n F D A c w h hl hli hA hh
  have HL0 := Lib.hid h
  have HLR := Lib.hid hl
  have HLI := Lib.hid hli
  have HAB := Lib.hid hA
  have IH := Lib.hid ih
  have HPW := Lib.hid h.pbw
  rw [hp_parts] at hh
  have HH := Lib.hid hh
  have HP0 : Hid (KRow w w.heap.size n.ka n.kids ∧ (∀ p ∈ n.kids, p.name.size ≤ 140737488351232) ∧ n.kids.length ≤ 1099511627776) := by
    obtain ⟨_, _, h3, _, _, _, G, _, _, h9⟩ := h.own.parts
    refine ⟨(krow_own h3).2.2.2, fun p hp => ?_, ?_⟩
    · obtain ⟨i, hi, rfl⟩ := List.getElem_of_mem hp
      exact (h9 i hi).parts.1
    · have := hpL_len (n.kids.map pureN)
      rw [List.length_map] at this
      omega
  have HC0 := Lib.hid h.cells.2.1
  have hlb : l.length ≤ 68719476736 := by
    have := hpL_len (l.map pureN)
    rw [List.length_map] at this
    omega
  have HSZ : Hid (∀ k (hk : k < l.length), hpL (mergeL ((l.take k).map pureN) (n.kids.map pureN)) + hpN (pureN l[k]) ≤ 1099511627776) := fun k hk => by
    have h1 := hpL_merge ((l.take k).map pureN) (n.kids.map pureN)
    have h2 := hpL_takeO l k hk
    have h3 := HH.out
    omega
  have hn1 : n.kids.length ≤ n.kc ∧ n.kc ≤ 9223372036854775807 := by
    obtain ⟨_, _, h3, _⟩ := h.own.parts
    exact ⟨(krow_own h3).2.1, (krow_own h3).2.2.1⟩
  clear h hl hli hA hh ih
  have b1 : w.cell? ⟨pb, o + 2, none⟩ = some (.slice n.ka n.kids.length n.kc) := HC0.out
  generalize hnka : n.ka = nka at *
  generalize hnkc : n.kc = nkc at *
  generalize hnks : n.kids = nks at *
  go_enter Tryz.func74, Tryz.ntmps74
  go_wp2_with fail
  refine (firstsN_any nka nkc nks w HP0.out.1 HP0.out.2.1 HP0.out.2.2).mono ?_
  rintro e w1 ⟨⟨Dm, rfl, hsz, hfm, hom⟩, hb1⟩
  have HW1 := Lib.hid hb1
  have HS1 := Lib.hid hsz
  have HF1 := Lib.hid hfm
  have HO1 := Lib.hid hom
  clear hsz hfm hom hb1 b1
  go_wp2_with fail
  go_loopw [16] (fun i wr => ∃ k : Nat, k ≤ l.length ∧ i = .int .i64 k ∧ ∃ n1 F1 D1 Dm, LayN w pb o t cur n F D wr n1 F1 D1 ∧ n1.props.map PV.pure = n.props.map PV.pure ∧ n1.kids.map pureN = mergeL ((l.take k).map pureN) (nks.map pureN) ∧ FirstsM (n1.kids.map Nd.name) Dm ∧ wr.ownsMap Tryz.prog 9 (plainElem Tryz.prog 3) w.heap.size n1.kids.length Dm ∧ ¬ F1 w.heap.size ∧ ¬ D1 w.heap.size) (fun i _ => l.length - (intOf i).toNat)
  case atStart =>
    exact ⟨0, Nat.zero_le _, rfl, n, F, D, Dm, HL0.out.on HW1.out, rfl, by rw [hnks]; simp [mergeL], by rw [hnks]; exact HF1.out, by rw [hnks]; exact HO1.out, fun e => by have := (HL0.out.hF' _ e).2; omega, fun e => by have := (HL0.out.hD' _ e).2.1; omega⟩
  case round =>
    obtain ⟨k, hk, rfl, n0, F0, D0, Dm0, hl0, hpp, hkk, hfm, hom, hmf, hmd⟩ := hrel
    have H0 := Lib.hid hl0
    have HPP := Lib.hid hpp
    have HKK := Lib.hid hkk
    have HFM0 := Lib.hid hfm
    have HOM0 := Lib.hid hom
    have HMF0 := Lib.hid hmf
    have HMD0 := Lib.hid hmd
    clear hl0 hpp hkk hfm hom hmf hmd
    by_cases hlt : k < l.length
    · have HSP : Hid (n0.kids.length ≤ 68719476736) := by
        have h1 := HSZ.out k hlt
        rw [← HKK.out] at h1
        have h2 := hpL_len (n0.kids.map pureN)
        rw [List.length_map] at h2
        show n0.kids.length ≤ _
        omega
      obtain ⟨b, oo, e, hbw, hcc⟩ := HLR.out (by omega)
      obtain rfl : A = _ := e
      have hbF := HAB.out (by omega) b oo rfl
      obtain ⟨r0, r1, r2⟩ := hcc k hlt
      replace r0 := (H0.out.chg.cell (a := ⟨b, oo + k * 3, none⟩) hbw (fun e => e.elim hbF.1 hbF.2)).trans r0
      replace r1 := (H0.out.chg.cell (a := ⟨b, oo + k * 3 + 1, none⟩) hbw (fun e => e.elim hbF.1 hbF.2)).trans r1
      replace r2 := (H0.out.chg.cell (a := ⟨b, oo + k * 3 + 2, none⟩) hbw (fun e => e.elim hbF.1 hbF.2)).trans r2
      replace r0 : _ = some (Value.string l[k].name) := r0
      replace r1 : _ = some (Value.slice l[k].pa l[k].props.length l[k].pc) := r1
      replace r2 : _ = some (Value.slice l[k].ka l[k].kids.length l[k].kc) := r2
      clear hcc hbw hbF
      have HV := Lib.hid (H0.out.arg (HLI.out _ (List.getElem_mem hlt)).1 (HLI.out _ (List.getElem_mem hlt)).2)
      have HK := Lib.hid (key_ok (HLI.out _ (List.getElem_mem hlt)).1.name_le.1)
      obtain ⟨WA, hWA⟩ : ∃ WA, wr.alloc (.cells #[Value.string l[k].name, .slice l[k].pa l[k].props.length l[k].pc, .slice l[k].ka l[k].kids.length l[k].kc] 27) = WA := ⟨_, rfl⟩
      have HA : Hid (Below wr.heap.size wr WA) := Lib.hid (by rw [← hWA]; exact Below.alloc (Below.refl wr.heap.size wr) (Nat.le_refl _) _)
      have HBA : Hid (WA.heap[wr.heap.size]? = some (.cells #[Value.string l[k].name, .slice l[k].pa l[k].props.length l[k].pc, .slice l[k].ka l[k].kids.length l[k].kc] 27 (0, 0)) ∧ WA.heap.size = wr.heap.size + 1) := Lib.hid (by rw [← hWA]; exact ⟨heap_alloc_new _ _, by simp⟩)
      have HWL : Hid (w.heap.size < wr.heap.size) := HOM0.out.lt
      have HOA := Lib.hid (ownsMap_same HOM0.out (HA.out.block w.heap.size HWL.out))
      have HLA : Hid (LayN w pb o t cur n F D WA.drew n0 F0 D0) := Lib.hid ((H0.out.on HA.out).on (Below.refl _ WA).drew)
      have q0 := cell_of_row _ wr.heap.size 0 _ _ _ HBA.out.1
      have q1 := cell_of_row _ wr.heap.size 1 _ _ _ HBA.out.1
      have q2 := cell_of_row _ wr.heap.size 2 _ _ _ HBA.out.1
      replace q0 : _ = some (Value.string l[k].name) := q0
      replace q1 : _ = some (Value.slice l[k].pa l[k].props.length l[k].pc) := q1
      replace q2 : _ = some (Value.slice l[k].ka l[k].kids.length l[k].kc) := q2
      have HNAT : Hid (¬ F0 wr.heap.size ∧ wr.heap.size ≠ pb) := Lib.hid ⟨fun e => by have := (H0.out.hF' _ e).2; omega, fun e => by have h1 := HPW.out; have h2 := HWL.out; omega⟩
      by_cases hmem : 0 ≤ idxOf (n0.kids.map Nd.name) l[k].name
      · obtain ⟨j, hje⟩ : ∃ j : Nat, idxOf (n0.kids.map Nd.name) l[k].name = (j : Int) := ⟨(idxOf (n0.kids.map Nd.name) l[k].name).toNat, by omega⟩
        have HHS : Hid (Maps.has Dm0 (keyL l[k].name) = true) := Lib.hid (by rw [(HFM0.out _).1]; simpa using hmem)
        have HATK := Lib.hid ((HFM0.out _).2 hmem)
        rw [hje] at HATK
        obtain ⟨hj1, hj2⟩ := idxOf_at _ _ _ hje
        have hj : j < n0.kids.length := by simpa using hj1
        have HUP : Hid (updK (fun x => mergeN (pureN l[k]) x) (pureN l[k]) (n0.kids.map pureN) = (n0.kids.map pureN).set j (mergeN (pureN l[k]) (pureN n0.kids[j]))) := Lib.hid (by
          obtain ⟨q, hq⟩ := updK_at (fun x => mergeN (pureN l[k]) x) (n0.kids.map pureN) (pureN l[k]) j (by rw [pure_knamesO, name_pure]; exact hje)
          rw [hq]
          congr 2
          rw [List.getElem_map])
        have HNMJ : Hid (l[k].name = n0.kids[j].name) := Lib.hid (hj2.symm.trans (List.getElem_map _))
        obtain ⟨gk, curk, Gi, eA, hFg, hgpb, hgW, hcap1, hcap2, hGi, hst, hdone⟩ := HLA.out.kid hj
        have HGK := Lib.hid (And.intro eA (And.intro hFg (And.intro hgpb hgW)))
        have HGI := Lib.hid hGi
        have HST := Lib.hid hst
        have HDN := Lib.hid hdone
        have zb := HLA.out.cells.2.1
        replace zb : _ = some (Value.slice n0.ka n0.kids.length n0.kc) := zb
        rw [eA] at zb
        have HZB := Lib.hid zb
        clear hmem hje hj1 hj2 eA hst hdone hGi hgW
        go_wp2_with (first | (at_lookup; refine look_hit _ rfl _ _ rfl w.heap.size _ _ rfl HOA.out _ _ rfl HK.out (j : Int) HHS.out HATK.out ?_) | fail)
        clear hWA
        refine wp_region_held_drew (S := fun V => V.cell? ⟨pb, o + 2, none⟩ = some (.slice (some ⟨gk, 0, none⟩) n0.kids.length n0.kc) ∧ V.cell? ⟨wr.heap.size, 0, none⟩ = some (.string l[k].name) ∧ V.cell? ⟨wr.heap.size, 1, none⟩ = some (.slice l[k].pa l[k].props.length l[k].pc) ∧ V.cell? ⟨wr.heap.size, 2, none⟩ = some (.slice l[k].ka l[k].kids.length l[k].kc)) (by kernel_rfl) (by exact ⟨HZB.out, q0, q1, q2⟩) (fun hHeld => ?_)
        refine held_take 0 rfl (by kernel_rfl) (by kernel_rfl) (by kernel_rfl) (fun _ _ _ h => h) (by rfl) hHeld (v := ?_) (fun w hSw => ?_) (fun _ => ?_)
        rotate_left
        · ((try dsimp only at hSw); go_simp; (try with_reducible rfl))
        simp only [Act.put, List.setIfInBounds_toArray, List.set_cons_zero, List.set_cons_succ]
        refine held_take 1 rfl (by kernel_rfl) (by kernel_rfl) (by kernel_rfl) (fun _ _ _ h => h) (by rfl) hHeld (v := ?_) (fun w hSw => ?_) (fun _ => ?_)
        rotate_left
        · ((try dsimp only at hSw); go_simp; (try with_reducible rfl))
        simp only [Act.put, List.setIfInBounds_toArray, List.set_cons_zero, List.set_cons_succ]
        refine held_take 2 rfl (by kernel_rfl) (by kernel_rfl) (by kernel_rfl) (fun _ _ _ h => h) (by rfl) hHeld (v := ?_) (fun w hSw => ?_) (fun _ => ?_)
        rotate_left
        · ((try dsimp only at hSw); go_simp; (try with_reducible rfl))
        simp only [Act.put, List.setIfInBounds_toArray, List.set_cons_zero, List.set_cons_succ]
        refine held_take 3 rfl (by kernel_rfl) (by kernel_rfl) (by kernel_rfl) (fun _ _ _ h => h) (by rfl) hHeld (v := ?_) (fun w hSw => ?_) (fun _ => ?_)
        rotate_left
        · ((try dsimp only at hSw); go_simp; (try with_reducible rfl))
        simp only [Act.put, List.setIfInBounds_toArray, List.set_cons_zero, List.set_cons_succ]
        refine held_take 4 rfl (by kernel_rfl) (by kernel_rfl) (by kernel_rfl) (fun _ _ _ h => h) (by rfl) hHeld (v := ?_) (fun w hSw => ?_) (fun _ => ?_)
        rotate_left
        · ((try dsimp only at hSw); go_simp; (try with_reducible rfl))
        simp only [Act.put, List.setIfInBounds_toArray, List.set_cons_zero, List.set_cons_succ]
        refine held_take 5 rfl (by kernel_rfl) (by kernel_rfl) (by kernel_rfl) (fun _ _ _ h => h) (by rfl) hHeld (v := ?_) (fun w hSw => ?_) (fun _ => ?_)
        rotate_left
        · ((try dsimp only at hSw); go_simp; (try with_reducible rfl))
        simp only [Act.put, List.setIfInBounds_toArray, List.set_cons_zero, List.set_cons_succ]
        refine held_take 6 rfl (by kernel_rfl) (by kernel_rfl) (by kernel_rfl) (fun _ _ _ h => h) (by rfl) hHeld (v := ?_) (fun w hSw => ?_) (fun _ => ?_)
        rotate_left
        · ((try dsimp only at hSw); go_simp; (try with_reducible rfl))
        simp only [Act.put, List.setIfInBounds_toArray, List.set_cons_zero, List.set_cons_succ]
        refine held_call 7 (by kernel_rfl) rfl (by rfl) (fun K hK => ?_)
        go_simp
        have HVD := Lib.hid (HV.out.1.on (HA.out.drew))
        have hAT : l[k].At (fun g => ¬ Gi g ∧ g ≠ gk) := Nd.At.mono (fun g e => ⟨fun e' => e.1.1 (HGI.out g e'), fun e' => e.1.1 (e' ▸ HGK.out.2.1)⟩) HV.out.2
        have hHP : hpN (pureN n0.kids[j]) + hpN (pureN l[k]) ≤ 1099511627776 := by
          have h1 := HSZ.out k hlt
          rw [← HKK.out] at h1
          have h2 := hpL_mem (List.mem_map.2 ⟨_, List.getElem_mem hj, rfl⟩ : pureN n0.kids[j] ∈ n0.kids.map pureN)
          omega
        refine (IH.out l[k] (List.getElem_mem hlt) gk (j * 3) _ curk n0.kids[j] Gi D0 WA.drew HST.out HVD.out hAT hHP).mono ?_
        rintro e w5 ⟨rfl, k', G', D', hl5, hp5⟩
        have HL5 := Lib.hid hl5
        have HP5 := Lib.hid hp5
        have HLK := Lib.hid (HDN.out w5 k' G' D' hl5)
        clear hl5 hp5 hAT hHP
        have z1 := (HL5.out.chg.cell (a := ⟨pb, o + 2, none⟩) HLA.out.pbW (fun e => e.elim (fun e => HLA.out.pbF' (HGI.out _ e)) (fun e => HGK.out.2.2.1 e.symm))).trans HZB.out
        have hx : ∀ i, w5.cell? ⟨wr.heap.size, i, none⟩ = WA.cell? ⟨wr.heap.size, i, none⟩ := fun i => HL5.out.chg.cell (a := ⟨wr.heap.size, i, none⟩) (by have := HBA.out.2; show wr.heap.size < WA.heap.size; omega) (fun e => e.elim (fun e => HNAT.out.1 (HGI.out _ e)) (fun e => by
          have e' : wr.heap.size = gk := e
          exact HNAT.out.1 (e' ▸ HGK.out.2.1)))
        dsimp only
        refine hK.out _ _ ⟨z1, (hx 0).trans q0, (hx 1).trans q1, (hx 2).trans q2⟩ (fun hHeld => ?_)
        clear hK K
        refine wpAnyH_done (by kernel_rfl) ?_ _
        clear hHeld z1 hx q0 q1 q2
        go_wp2
        go_roundw
        case rel =>
          refine ⟨k + 1, by omega, by go_num, _, _, D', Dm0, HLK.out, HPP.out, ?_, ?_, ?_, fun e => ?_, fun e => ?_⟩
          · show (n0.kids.set j k').map pureN = _
            rw [mergeL_next l k hlt, ← HKK.out, HUP.out, List.map_set, HP5.out]
          · show FirstsM ((n0.kids.set j k').map Nd.name) Dm0
            rw [set_knames hj HL5.out.name]
            exact HFM0.out
          · show w5.ownsMap _ _ _ _ (n0.kids.set j k').length _
            rw [List.length_set]
            exact ownsMap_same HOA.out (HL5.out.chg.block w.heap.size (by have h1 := HBA.out.2; have h2 := HWL.out; show w.heap.size < WA.heap.size; omega) (fun e => e.elim (fun e => HMF0.out (HGI.out _ e)) (fun e => HMF0.out (e ▸ HGK.out.2.1))))
          · rcases e with e | e
            · exact HMF0.out e
            · rcases (HL5.out.hF' _ e).1 with e | e
              · exact HMF0.out (HGI.out _ e)
              · have h1 := HBA.out.2
                have h2 := HWL.out
                have e' : WA.heap.size ≤ w.heap.size := e
                omega
          · rcases (HL5.out.hD' _ e).1 with e | e
            · exact HMD0.out e
            · have h1 := HBA.out.2
              have h2 := HWL.out
              have e' : WA.heap.size ≤ w.heap.size := e
              omega
        case measure => simp [intOf]; omega
      · have HHS : Hid (Maps.has Dm0 (keyL l[k].name) = false) := Lib.hid (by rw [(HFM0.out _).1]; simpa using hmem)
        have hidx : idxOf (n0.kids.map Nd.name) l[k].name < 0 := by omega
        have HFP := Lib.hid (firstsM_put HFM0.out HOM0.out.isMap hidx)
        have HUP : Hid (updK (fun x => mergeN (pureN l[k]) x) (pureN l[k]) (n0.kids.map pureN) = n0.kids.map pureN ++ [pureN l[k]]) := Lib.hid (updK_none _ _ _ (by rw [pure_knamesO, name_pure]; exact hidx))
        have zb := HLA.out.cells.2.1
        replace zb : WA.cell? ⟨pb, o + 2, none⟩ = some (Value.slice n0.ka n0.kids.length n0.kc) := zb
        have HZB := Lib.hid zb
        have hsp := HSP.out
        clear hmem hidx
        go_wp2_with (first | (at_lookup; refine look_miss _ rfl _ _ rfl w.heap.size _ _ rfl HOA.out _ _ rfl HK.out HHS.out ?_) | fail)
        clear hWA
        obtain ⟨w3, hrun, hown3, hgrow3⟩ := (show WA.drew.ownsMap Tryz.prog 9 (plainElem Tryz.prog 3) w.heap.size n0.kids.length Dm0 from HOA.out).update lawS Tryz.underlying164 (by unfold maxLen; omega) HK.out (elemI (by omega : (0 : Int) ≤ (n0.kids.length : Int)) (by omega))
        have HRUN := Lib.hid hrun
        have HO3 := Lib.hid hown3
        have HG3 := Lib.hid hgrow3
        clear hrun hown3 hgrow3
        have HWN : Hid (wr.heap.size ≠ w.heap.size) := Lib.hid (by have := HWL.out; omega)
        have HWPB : Hid (pb ≠ w.heap.size) := Lib.hid (by have := HPW.out; omega)
        have HX3 : Hid (w3.heap[wr.heap.size]? = some (.cells #[Value.string l[k].name, .slice l[k].pa l[k].props.length l[k].pc, .slice l[k].ka l[k].kids.length l[k].kc] 27 (0, 0)) ∧ wr.heap.size < w3.heap.size) := Lib.hid ⟨(HG3.out.block wr.heap.size (by have := HBA.out.2; show wr.heap.size < WA.heap.size; omega) (fun e => HWN.out (by injection e))).trans HBA.out.1, by have h1 := HBA.out.2; have h2 := HG3.out.size; have h3 : WA.drew.heap.size = WA.heap.size := rfl; omega⟩
        have HL3 : Hid (LayN w pb o t cur n F D w3 n0 F0 D0) := Lib.hid (HLA.out.kept (Chg.ofGrown (F := fun g => g = w.heap.size) HG3.out (fun g e => by injection e with e; exact e.symm)) (fun g e => by
          subst e
          exact ⟨Nat.le_refl _, HMF0.out, HMD0.out⟩))
        have HV3 : Hid (l[k].In w3 w3.heap.size) := Lib.hid (HL3.out.arg (HLI.out _ (List.getElem_mem hlt)).1 (HLI.out _ (List.getElem_mem hlt)).2).1
        have zb3 := HL3.out.cells.2.1
        replace zb3 : w3.cell? ⟨pb, o + 2, none⟩ = some (Value.slice n0.ka n0.kids.length n0.kc) := zb3
        have HZ3 := Lib.hid zb3
        have q30 := cell_of_row _ wr.heap.size 0 _ _ _ HX3.out.1
        have q31 := cell_of_row _ wr.heap.size 1 _ _ _ HX3.out.1
        have q32 := cell_of_row _ wr.heap.size 2 _ _ _ HX3.out.1
        replace q30 : _ = some (Value.string l[k].name) := q30
        replace q31 : _ = some (Value.slice l[k].pa l[k].props.length l[k].pc) := q31
        replace q32 : _ = some (Value.slice l[k].ka l[k].kids.length l[k].kc) := q32
        refine wp_region_held_drew (S := fun V => V.cell? ⟨pb, o + 2, none⟩ = some (.slice n0.ka n0.kids.length n0.kc) ∧ V.cell? ⟨wr.heap.size, 0, none⟩ = some (.string l[k].name)) (by kernel_rfl) (by exact ⟨HZB.out, q0⟩) (fun hHeld => ?_)
        refine held_take 0 rfl (by kernel_rfl) (by kernel_rfl) (by kernel_rfl) (fun _ _ _ h => h) (by rfl) hHeld (v := ?_) (fun w hSw => ?_) (fun _ => ?_)
        rotate_left
        · ((try dsimp only at hSw); go_simp; (try with_reducible rfl))
        simp only [Act.put, List.setIfInBounds_toArray, List.set_cons_zero, List.set_cons_succ]
        refine held_take 1 rfl (by kernel_rfl) (by kernel_rfl) (by kernel_rfl) (fun _ _ _ h => h) (by rfl) hHeld (v := ?_) (fun w hSw => ?_) (fun _ => ?_)
        rotate_left
        · ((try dsimp only at hSw); go_simp; (try with_reducible rfl))
        simp only [Act.put, List.setIfInBounds_toArray, List.set_cons_zero, List.set_cons_succ]
        refine held_take 2 rfl (by kernel_rfl) (by kernel_rfl) (by kernel_rfl) (fun _ _ _ h => h) (by rfl) hHeld (v := ?_) (fun w hSw => ?_) (fun _ => ?_)
        rotate_left
        · ((try dsimp only at hSw); go_simp; (try with_reducible rfl))
        simp only [Act.put, List.setIfInBounds_toArray, List.set_cons_zero, List.set_cons_succ]
        refine held_take 3 rfl (by kernel_rfl) (by kernel_rfl) (by kernel_rfl) (fun _ _ _ h => h) (by rfl) hHeld (v := ?_) (fun w hSw => ?_) (fun _ => ?_)
        rotate_left
        · ((try dsimp only at hSw); go_simp; (try with_reducible rfl))
        simp only [Act.put, List.setIfInBounds_toArray, List.set_cons_zero, List.set_cons_succ]
        refine held_take 4 rfl (by kernel_rfl) (by kernel_rfl) (by kernel_rfl) (fun _ _ _ h => h) (by rfl) hHeld (v := ?_) (fun w hSw => ?_) (fun _ => ?_)
        rotate_left
        · ((try dsimp only at hSw); go_simp; (try with_reducible rfl))
        simp only [Act.put, List.setIfInBounds_toArray, List.set_cons_zero, List.set_cons_succ]
        refine held_take 5 rfl (by kernel_rfl) (by kernel_rfl) (by kernel_rfl) (fun _ _ _ h => h) (by rfl) hHeld (v := ?_) (fun w hSw => ?_) (fun _ => ?_)
        rotate_left
        · ((try dsimp only at hSw); go_simp; (try with_reducible rfl))
        simp only [Act.put, List.setIfInBounds_toArray, List.set_cons_zero, List.set_cons_succ]
        refine held_take 6 rfl (by kernel_rfl) (by kernel_rfl) (by kernel_rfl) (fun _ _ _ h => h) (by rfl) hHeld (v := ?_) (fun w hSw => ?_) (fun _ => ?_)
        rotate_left
        · ((try dsimp only at hSw); go_simp; (try with_reducible rfl))
        simp only [Act.put, List.setIfInBounds_toArray, List.set_cons_zero, List.set_cons_succ]
        refine held_take 7 rfl (by kernel_rfl) (by kernel_rfl) (by kernel_rfl) (fun _ _ _ h => h) (by rfl) hHeld (v := ?_) (fun w hSw => ?_) (fun _ => ?_)
        rotate_left
        · ((try dsimp only at hSw); go_simp; (try with_reducible rfl))
        simp only [Act.put, List.setIfInBounds_toArray, List.set_cons_zero, List.set_cons_succ]
        refine held_call 8 (by kernel_rfl) rfl (by rfl) (fun K hK => ?_)
        refine wp_mapUpdate_run _ _ _ _ _ rfl _ _ _ rfl rfl rfl HRUN.out ?_
        refine hK.out _ _ ⟨HZ3.out, q30⟩ (fun hHeld => ?_)
        clear hK K
        refine wpAnyH_done (by kernel_rfl) ?_ _
        clear hHeld q0 q1 q2 zb
        go_wp2_with fail
        refine wp_region_held_drew (S := fun V => V.cell? ⟨wr.heap.size, 0, none⟩ = some (.string l[k].name) ∧ V.cell? ⟨wr.heap.size, 1, none⟩ = some (.slice l[k].pa l[k].props.length l[k].pc) ∧ V.cell? ⟨wr.heap.size, 2, none⟩ = some (.slice l[k].ka l[k].kids.length l[k].kc)) (by kernel_rfl) (by exact ⟨q30, q31, q32⟩) (fun hHeld => ?_)
        refine held_take 0 rfl (by kernel_rfl) (by kernel_rfl) (by kernel_rfl) (fun _ _ _ h => h) (by rfl) hHeld (v := ?_) (fun w hSw => ?_) (fun _ => ?_)
        rotate_left
        · ((try dsimp only at hSw); go_simp; (try with_reducible rfl))
        simp only [Act.put, List.setIfInBounds_toArray, List.set_cons_zero, List.set_cons_succ]
        refine held_take 1 rfl (by kernel_rfl) (by kernel_rfl) (by kernel_rfl) (fun _ _ _ h => h) (by rfl) hHeld (v := ?_) (fun w hSw => ?_) (fun _ => ?_)
        rotate_left
        · ((try dsimp only at hSw); go_simp; (try with_reducible rfl))
        simp only [Act.put, List.setIfInBounds_toArray, List.set_cons_zero, List.set_cons_succ]
        refine held_take 2 rfl (by kernel_rfl) (by kernel_rfl) (by kernel_rfl) (fun _ _ _ h => h) (by rfl) hHeld (v := ?_) (fun w hSw => ?_) (fun _ => ?_)
        rotate_left
        · ((try dsimp only at hSw); go_simp; (try with_reducible rfl))
        simp only [Act.put, List.setIfInBounds_toArray, List.set_cons_zero, List.set_cons_succ]
        refine held_take 4 rfl (by kernel_rfl) (by kernel_rfl) (by kernel_rfl) (fun _ _ _ h => h) (by rfl) hHeld (v := ?_) (fun w hSw => ?_) (fun _ => ?_)
        rotate_left
        · ((try dsimp only at hSw); go_simp; (try with_reducible rfl))
        simp only [Act.put, List.setIfInBounds_toArray, List.set_cons_zero, List.set_cons_succ]
        have HSB : Hid (∀ V : World, V.heap[wr.heap.size]? = w3.heap[wr.heap.size]? → V.cell? ⟨wr.heap.size, 0, none⟩ = some (.string l[k].name) ∧ V.cell? ⟨wr.heap.size, 1, none⟩ = some (.slice l[k].pa l[k].props.length l[k].pc) ∧ V.cell? ⟨wr.heap.size, 2, none⟩ = some (.slice l[k].ka l[k].kids.length l[k].kc)) := fun V hV =>
          ⟨(World.cell?_of_block (a := ⟨wr.heap.size, 0, none⟩) hV).trans q30, (World.cell?_of_block (a := ⟨wr.heap.size, 1, none⟩) hV).trans q31, (World.cell?_of_block (a := ⟨wr.heap.size, 2, none⟩) hV).trans q32⟩
        have HCL := Lib.hid (cloneNode_own l[k])
        have HSS := Lib.hid (HSB.out w3 rfl)
        have HBZ : Hid (Below w3.heap.size w3 (w3.alloc (.cells #[Value.string ⟨#[]⟩, .slice none 0 0, .slice none 0 0] 27))) := Lib.hid ((Below.refl _ _).alloc (Nat.le_refl _) _)
        have HSA := Lib.hid (HSB.out (w3.alloc (.cells #[Value.string ⟨#[]⟩, .slice none 0 0, .slice none 0 0] 27)) (HBZ.out.block _ HX3.out.2))
        have zba : (w3.alloc (.cells #[Value.string ⟨#[]⟩, .slice none 0 0, .slice none 0 0] 27)).cell? ⟨pb, o + 2, none⟩ = some (.slice n0.ka n0.kids.length n0.kc) := Lib.cell?_alloc_some _ HZ3.out
        have HZA := Lib.hid zba
        clear zba q30 q31 q32 zb3
        apply cutK (C := fun W5 gz a b c d e f i Fk Dk => LayN w pb o t cur n F D W5 n0 F0 D0 ∧ Own W5 Fk Dk (.mk a b c d e f i) ∧ (∀ g, Fk g → w.heap.size ≤ g ∧ g < W5.heap.size ∧ ¬ F0 g ∧ ¬ D0 g ∧ ¬ Dk g) ∧ (∀ g, Dk g → w.heap.size ≤ g ∧ g < W5.heap.size ∧ ¬ F0 g) ∧ (∀ g, g < w3.heap.size → W5.heap[g]? = w3.heap[g]? ∧ ¬ Fk g ∧ ¬ Dk g) ∧ W5.heap[gz]? = some (.cells #[Value.string ⟨#[]⟩, .slice none 0 0, .slice none 0 0] 27 (0, 0)) ∧ pureN (.mk a b c d e f i) = pureN l[k])
        case h =>
          intro key
          refine held_three 3 5 7 (by kernel_rfl) rfl rfl rfl (by rfl) (by rfl) (by rfl) (fun K hK => ?_) (fun K hK => ?_) (fun K hK => ?_)
          · have zb3 := HZ3.out
            go_simp
            refine hK.out _ _ HSS.out (fun hHeld => ?_)
            clear hK K zb3
            (try simp only [Act.put, List.setIfInBounds_toArray, List.set_cons_zero, List.set_cons_succ])
            refine held_take 6 rfl (by kernel_rfl) (by kernel_rfl) (by kernel_rfl) (fun _ _ _ h => h) (by rfl) hHeld (v := ?_) (fun w hSw => ?_) (fun _ => ?_)
            rotate_left
            · ((try dsimp only at hSw); go_simp; (try with_reducible rfl))
            simp only [Act.put, List.setIfInBounds_toArray, List.set_cons_zero, List.set_cons_succ]
            refine held_two 5 7 (by kernel_rfl) rfl rfl (by rfl) (by rfl) (fun K hK => ?_) (fun K hK => ?_)
            · go_simp
              refine (HCL.out w3.drew (by exact HV3.out.on (Below.refl _ _).drew)).mono ?_
              rintro e w4 ⟨m, Fk, Dk, rfl, hp4, ho4, hF4, hD4, hb4⟩
              have HP4 := Lib.hid hp4
              have HO4 := Lib.hid ho4
              have HF4 := Lib.hid hF4
              have HD4 := Lib.hid hD4
              have HB4 : Hid (Below w3.heap.size w3 w4) := Lib.hid ((Below.refl w3.heap.size w3).drew.trans hb4)
              have HS4 := Lib.hid (HSB.out w4 (HB4.out.block _ HX3.out.2))
              have HS4a : Hid ((w4.alloc (.cells #[Value.string ⟨#[]⟩, .slice none 0 0, .slice none 0 0] 27)).cell? ⟨wr.heap.size, 0, none⟩ = some (.string l[k].name) ∧ (w4.alloc (.cells #[Value.string ⟨#[]⟩, .slice none 0 0, .slice none 0 0] 27)).cell? ⟨wr.heap.size, 1, none⟩ = some (.slice l[k].pa l[k].props.length l[k].pc) ∧ (w4.alloc (.cells #[Value.string ⟨#[]⟩, .slice none 0 0, .slice none 0 0] 27)).cell? ⟨wr.heap.size, 2, none⟩ = some (.slice l[k].ka l[k].kids.length l[k].kc)) := Lib.hid ⟨Lib.cell?_alloc_some _ HS4.out.1, Lib.cell?_alloc_some _ HS4.out.2.1, Lib.cell?_alloc_some _ HS4.out.2.2⟩
              have HZ4 : Hid (w4.cell? ⟨pb, o + 2, none⟩ = some (.slice n0.ka n0.kids.length n0.kc)) := Lib.hid ((HB4.out.cell (p := ⟨pb, o + 2, none⟩) HL3.out.pbW).trans HZ3.out)
              have HZ4a : Hid ((w4.alloc (.cells #[Value.string ⟨#[]⟩, .slice none 0 0, .slice none 0 0] 27)).cell? ⟨pb, o + 2, none⟩ = some (.slice n0.ka n0.kids.length n0.kc)) := Lib.hid (Lib.cell?_alloc_some _ HZ4.out)
              clear hp4 ho4 hF4 hD4 hb4
              obtain ⟨mn, mpa, mpc, mps, mka, mkc, mks⟩ := m
              simp only [nd_val]
              refine hK.out _ _ HS4.out (fun hHeld => ?_)
              clear hK K
              (try simp only [Act.put, List.setIfInBounds_toArray, List.set_cons_zero, List.set_cons_succ])
              refine held_call 7 (by kernel_rfl) rfl (by rfl) (fun K hK => ?_)
              go_simp
              refine hK.out _ _ HS4a.out (fun hHeld => ?_)
              clear hK K
              (try simp only [Act.put, List.setIfInBounds_toArray, List.set_cons_zero, List.set_cons_succ])
              have hfin := lay_clone HL3.out HB4.out HO4.out HF4.out HD4.out ((Below.refl w4.heap.size w4).alloc (Nat.le_refl _) (.cells #[Value.string ⟨#[]⟩, .slice none 0 0, .slice none 0 0] 27))
              have hzz := heap_alloc_new w4 (.cells #[Value.string ⟨#[]⟩, .slice none 0 0, .slice none 0 0] 27)
              obtain ⟨W5, hW5⟩ : ∃ W5, w4.alloc (.cells #[Value.string ⟨#[]⟩, .slice none 0 0, .slice none 0 0] 27) = W5 := ⟨_, rfl⟩
              obtain ⟨gz, hgz⟩ : ∃ gz, w4.heap.size = gz := ⟨_, rfl⟩
              rw [hW5, hgz] at hzz
              rw [hW5] at hfin
              rw [hW5, hgz]
              exact key W5 gz mn mpa mpc mps mka mkc mks Fk Dk ⟨hfin.1, hfin.2.1, hfin.2.2.1, hfin.2.2.2.1, hfin.2.2.2.2, hzz, HP4.out⟩
            · go_simp
              refine hK.out _ _ HSA.out (fun hHeld => ?_)
              clear hK K
              (try simp only [Act.put, List.setIfInBounds_toArray, List.set_cons_zero, List.set_cons_succ])
              refine held_call 5 (by kernel_rfl) rfl (by rfl) (fun K hK => ?_)
              go_simp
              refine (HCL.out (w3.alloc (.cells #[Value.string ⟨#[]⟩, .slice none 0 0, .slice none 0 0] 27)).drew (by exact (HV3.out.on HBZ.out).on (Below.refl _ _).drew)).mono ?_
              rintro e w4 ⟨m, Fk, Dk, rfl, hp4, ho4, hF4, hD4, hb4⟩
              have HP4 := Lib.hid hp4
              have HO4 := Lib.hid ho4
              have HF4 := Lib.hid hF4
              have HD4 := Lib.hid hD4
              have HB4 : Hid (Below (w3.alloc (.cells #[Value.string ⟨#[]⟩, .slice none 0 0, .slice none 0 0] 27)).heap.size (w3.alloc (.cells #[Value.string ⟨#[]⟩, .slice none 0 0, .slice none 0 0] 27)) w4) := Lib.hid ((Below.refl _ _).drew.trans hb4)
              have HS4 := Lib.hid (HSB.out w4 ((HB4.out.block _ (by have := HX3.out.2; simp; omega)).trans (HBZ.out.block _ HX3.out.2)))
              have HZ4 : Hid (w4.cell? ⟨pb, o + 2, none⟩ = some (.slice n0.ka n0.kids.length n0.kc)) := Lib.hid ((HB4.out.cell (p := ⟨pb, o + 2, none⟩) (by have := HL3.out.pbW; simp; omega)).trans HZA.out)
              clear hp4 ho4 hF4 hD4 hb4
              obtain ⟨mn, mpa, mpc, mps, mka, mkc, mks⟩ := m
              simp only [nd_val]
              refine hK.out _ _ HS4.out (fun hHeld => ?_)
              clear hK K
              (try simp only [Act.put, List.setIfInBounds_toArray, List.set_cons_zero, List.set_cons_succ])
              have hfin := lay_clone (HL3.out.on HBZ.out) HB4.out HO4.out HF4.out HD4.out (Below.refl w4.heap.size w4)
              have hzz := (HB4.out.block w3.heap.size (by simp)).trans (heap_alloc_new w3 (.cells #[Value.string ⟨#[]⟩, .slice none 0 0, .slice none 0 0] 27))
              have hlow : ∀ g, g < w3.heap.size → w4.heap[g]? = w3.heap[g]? ∧ ¬ Fk g ∧ ¬ Dk g := fun g hg => by
                have h1 := hfin.2.2.2.2 g (by simp; omega)
                exact ⟨h1.1.trans (HBZ.out.block g hg), h1.2⟩
              obtain ⟨gz, hgz⟩ : ∃ gz, w3.heap.size = gz := ⟨_, rfl⟩
              rw [hgz] at hzz
              rw [hgz]
              exact key w4 gz mn mpa mpc mps mka mkc mks Fk Dk ⟨hfin.1, hfin.2.1, hfin.2.2.1, hfin.2.2.2.1, hlow, hzz, HP4.out⟩
          · go_simp
            refine (HCL.out w3.drew (by exact HV3.out.on (Below.refl _ _).drew)).mono ?_
            rintro e w4 ⟨m, Fk, Dk, rfl, hp4, ho4, hF4, hD4, hb4⟩
            have HP4 := Lib.hid hp4
            have HO4 := Lib.hid ho4
            have HF4 := Lib.hid hF4
            have HD4 := Lib.hid hD4
            have HB4 : Hid (Below w3.heap.size w3 w4) := Lib.hid ((Below.refl w3.heap.size w3).drew.trans hb4)
            have HS4 := Lib.hid (HSB.out w4 (HB4.out.block _ HX3.out.2))
            have HS4a : Hid ((w4.alloc (.cells #[Value.string ⟨#[]⟩, .slice none 0 0, .slice none 0 0] 27)).cell? ⟨wr.heap.size, 0, none⟩ = some (.string l[k].name) ∧ (w4.alloc (.cells #[Value.string ⟨#[]⟩, .slice none 0 0, .slice none 0 0] 27)).cell? ⟨wr.heap.size, 1, none⟩ = some (.slice l[k].pa l[k].props.length l[k].pc) ∧ (w4.alloc (.cells #[Value.string ⟨#[]⟩, .slice none 0 0, .slice none 0 0] 27)).cell? ⟨wr.heap.size, 2, none⟩ = some (.slice l[k].ka l[k].kids.length l[k].kc)) := Lib.hid ⟨Lib.cell?_alloc_some _ HS4.out.1, Lib.cell?_alloc_some _ HS4.out.2.1, Lib.cell?_alloc_some _ HS4.out.2.2⟩
            have HZ4 : Hid (w4.cell? ⟨pb, o + 2, none⟩ = some (.slice n0.ka n0.kids.length n0.kc)) := Lib.hid ((HB4.out.cell (p := ⟨pb, o + 2, none⟩) HL3.out.pbW).trans HZ3.out)
            have HZ4a : Hid ((w4.alloc (.cells #[Value.string ⟨#[]⟩, .slice none 0 0, .slice none 0 0] 27)).cell? ⟨pb, o + 2, none⟩ = some (.slice n0.ka n0.kids.length n0.kc)) := Lib.hid (Lib.cell?_alloc_some _ HZ4.out)
            clear hp4 ho4 hF4 hD4 hb4
            obtain ⟨mn, mpa, mpc, mps, mka, mkc, mks⟩ := m
            simp only [nd_val]
            refine hK.out _ _ HS4.out (fun hHeld => ?_)
            clear hK K
            (try simp only [Act.put, List.setIfInBounds_toArray, List.set_cons_zero, List.set_cons_succ])
            refine held_two 3 7 (by kernel_rfl) rfl rfl (by rfl) (by rfl) (fun K hK => ?_) (fun K hK => ?_)
            · have zb4 := HZ4.out
              go_simp
              refine hK.out _ _ HS4.out (fun hHeld => ?_)
              clear hK K zb4
              (try simp only [Act.put, List.setIfInBounds_toArray, List.set_cons_zero, List.set_cons_succ])
              refine held_take 6 rfl (by kernel_rfl) (by kernel_rfl) (by kernel_rfl) (fun _ _ _ h => h) (by rfl) hHeld (v := ?_) (fun w hSw => ?_) (fun _ => ?_)
              rotate_left
              · ((try dsimp only at hSw); go_simp; (try with_reducible rfl))
              simp only [Act.put, List.setIfInBounds_toArray, List.set_cons_zero, List.set_cons_succ]
              refine held_call 7 (by kernel_rfl) rfl (by rfl) (fun K hK => ?_)
              go_simp
              refine hK.out _ _ HS4a.out (fun hHeld => ?_)
              clear hK K
              (try simp only [Act.put, List.setIfInBounds_toArray, List.set_cons_zero, List.set_cons_succ])
              have hfin := lay_clone HL3.out HB4.out HO4.out HF4.out HD4.out ((Below.refl w4.heap.size w4).alloc (Nat.le_refl _) (.cells #[Value.string ⟨#[]⟩, .slice none 0 0, .slice none 0 0] 27))
              have hzz := heap_alloc_new w4 (.cells #[Value.string ⟨#[]⟩, .slice none 0 0, .slice none 0 0] 27)
              obtain ⟨W5, hW5⟩ : ∃ W5, w4.alloc (.cells #[Value.string ⟨#[]⟩, .slice none 0 0, .slice none 0 0] 27) = W5 := ⟨_, rfl⟩
              obtain ⟨gz, hgz⟩ : ∃ gz, w4.heap.size = gz := ⟨_, rfl⟩
              rw [hW5, hgz] at hzz
              rw [hW5] at hfin
              rw [hW5, hgz]
              exact key W5 gz mn mpa mpc mps mka mkc mks Fk Dk ⟨hfin.1, hfin.2.1, hfin.2.2.1, hfin.2.2.2.1, hfin.2.2.2.2, hzz, HP4.out⟩
            · go_simp
              refine hK.out _ _ HS4a.out (fun hHeld => ?_)
              clear hK K
              (try simp only [Act.put, List.setIfInBounds_toArray, List.set_cons_zero, List.set_cons_succ])
              have zb4 := HZ4a.out
              refine held_call 3 (by kernel_rfl) rfl (by rfl) (fun K hK => ?_)
              go_simp
              refine hK.out _ _ HS4a.out (fun hHeld => ?_)
              clear hK K zb4
              (try simp only [Act.put, List.setIfInBounds_toArray, List.set_cons_zero, List.set_cons_succ])
              refine held_take 6 rfl (by kernel_rfl) (by kernel_rfl) (by kernel_rfl) (fun _ _ _ h => h) (by rfl) hHeld (v := ?_) (fun w hSw => ?_) (fun _ => ?_)
              rotate_left
              · ((try dsimp only at hSw); go_simp; (try with_reducible rfl))
              simp only [Act.put, List.setIfInBounds_toArray, List.set_cons_zero, List.set_cons_succ]
              have hfin := lay_clone HL3.out HB4.out HO4.out HF4.out HD4.out ((Below.refl w4.heap.size w4).alloc (Nat.le_refl _) (.cells #[Value.string ⟨#[]⟩, .slice none 0 0, .slice none 0 0] 27))
              have hzz := heap_alloc_new w4 (.cells #[Value.string ⟨#[]⟩, .slice none 0 0, .slice none 0 0] 27)
              obtain ⟨W5, hW5⟩ : ∃ W5, w4.alloc (.cells #[Value.string ⟨#[]⟩, .slice none 0 0, .slice none 0 0] 27) = W5 := ⟨_, rfl⟩
              obtain ⟨gz, hgz⟩ : ∃ gz, w4.heap.size = gz := ⟨_, rfl⟩
              rw [hW5, hgz] at hzz
              rw [hW5] at hfin
              rw [hW5, hgz]
              exact key W5 gz mn mpa mpc mps mka mkc mks Fk Dk ⟨hfin.1, hfin.2.1, hfin.2.2.1, hfin.2.2.2.1, hfin.2.2.2.2, hzz, HP4.out⟩
          · go_simp
            refine hK.out _ _ HSA.out (fun hHeld => ?_)
            clear hK K
            (try simp only [Act.put, List.setIfInBounds_toArray, List.set_cons_zero, List.set_cons_succ])
            refine held_two 3 5 (by kernel_rfl) rfl rfl (by rfl) (by rfl) (fun K hK => ?_) (fun K hK => ?_)
            · have zba := HZA.out
              go_simp
              refine hK.out _ _ HSA.out (fun hHeld => ?_)
              clear hK K zba
              (try simp only [Act.put, List.setIfInBounds_toArray, List.set_cons_zero, List.set_cons_succ])
              refine held_take 6 rfl (by kernel_rfl) (by kernel_rfl) (by kernel_rfl) (fun _ _ _ h => h) (by rfl) hHeld (v := ?_) (fun w hSw => ?_) (fun _ => ?_)
              rotate_left
              · ((try dsimp only at hSw); go_simp; (try with_reducible rfl))
              simp only [Act.put, List.setIfInBounds_toArray, List.set_cons_zero, List.set_cons_succ]
              refine held_call 5 (by kernel_rfl) rfl (by rfl) (fun K hK => ?_)
              go_simp
              refine (HCL.out (w3.alloc (.cells #[Value.string ⟨#[]⟩, .slice none 0 0, .slice none 0 0] 27)).drew (by exact (HV3.out.on HBZ.out).on (Below.refl _ _).drew)).mono ?_
              rintro e w4 ⟨m, Fk, Dk, rfl, hp4, ho4, hF4, hD4, hb4⟩
              have HP4 := Lib.hid hp4
              have HO4 := Lib.hid ho4
              have HF4 := Lib.hid hF4
              have HD4 := Lib.hid hD4
              have HB4 : Hid (Below (w3.alloc (.cells #[Value.string ⟨#[]⟩, .slice none 0 0, .slice none 0 0] 27)).heap.size (w3.alloc (.cells #[Value.string ⟨#[]⟩, .slice none 0 0, .slice none 0 0] 27)) w4) := Lib.hid ((Below.refl _ _).drew.trans hb4)
              have HS4 := Lib.hid (HSB.out w4 ((HB4.out.block _ (by have := HX3.out.2; simp; omega)).trans (HBZ.out.block _ HX3.out.2)))
              have HZ4 : Hid (w4.cell? ⟨pb, o + 2, none⟩ = some (.slice n0.ka n0.kids.length n0.kc)) := Lib.hid ((HB4.out.cell (p := ⟨pb, o + 2, none⟩) (by have := HL3.out.pbW; simp; omega)).trans HZA.out)
              clear hp4 ho4 hF4 hD4 hb4
              obtain ⟨mn, mpa, mpc, mps, mka, mkc, mks⟩ := m
              simp only [nd_val]
              refine hK.out _ _ HS4.out (fun hHeld => ?_)
              clear hK K
              (try simp only [Act.put, List.setIfInBounds_toArray, List.set_cons_zero, List.set_cons_succ])
              have hfin := lay_clone (HL3.out.on HBZ.out) HB4.out HO4.out HF4.out HD4.out (Below.refl w4.heap.size w4)
              have hzz := (HB4.out.block w3.heap.size (by simp)).trans (heap_alloc_new w3 (.cells #[Value.string ⟨#[]⟩, .slice none 0 0, .slice none 0 0] 27))
              have hlow : ∀ g, g < w3.heap.size → w4.heap[g]? = w3.heap[g]? ∧ ¬ Fk g ∧ ¬ Dk g := fun g hg => by
                have h1 := hfin.2.2.2.2 g (by simp; omega)
                exact ⟨h1.1.trans (HBZ.out.block g hg), h1.2⟩
              obtain ⟨gz, hgz⟩ : ∃ gz, w3.heap.size = gz := ⟨_, rfl⟩
              rw [hgz] at hzz
              rw [hgz]
              exact key w4 gz mn mpa mpc mps mka mkc mks Fk Dk ⟨hfin.1, hfin.2.1, hfin.2.2.1, hfin.2.2.2.1, hlow, hzz, HP4.out⟩
            · go_simp
              refine (HCL.out (w3.alloc (.cells #[Value.string ⟨#[]⟩, .slice none 0 0, .slice none 0 0] 27)).drew (by exact (HV3.out.on HBZ.out).on (Below.refl _ _).drew)).mono ?_
              rintro e w4 ⟨m, Fk, Dk, rfl, hp4, ho4, hF4, hD4, hb4⟩
              have HP4 := Lib.hid hp4
              have HO4 := Lib.hid ho4
              have HF4 := Lib.hid hF4
              have HD4 := Lib.hid hD4
              have HB4 : Hid (Below (w3.alloc (.cells #[Value.string ⟨#[]⟩, .slice none 0 0, .slice none 0 0] 27)).heap.size (w3.alloc (.cells #[Value.string ⟨#[]⟩, .slice none 0 0, .slice none 0 0] 27)) w4) := Lib.hid ((Below.refl _ _).drew.trans hb4)
              have HS4 := Lib.hid (HSB.out w4 ((HB4.out.block _ (by have := HX3.out.2; simp; omega)).trans (HBZ.out.block _ HX3.out.2)))
              have HZ4 : Hid (w4.cell? ⟨pb, o + 2, none⟩ = some (.slice n0.ka n0.kids.length n0.kc)) := Lib.hid ((HB4.out.cell (p := ⟨pb, o + 2, none⟩) (by have := HL3.out.pbW; simp; omega)).trans HZA.out)
              clear hp4 ho4 hF4 hD4 hb4
              obtain ⟨mn, mpa, mpc, mps, mka, mkc, mks⟩ := m
              simp only [nd_val]
              refine hK.out _ _ HS4.out (fun hHeld => ?_)
              clear hK K
              (try simp only [Act.put, List.setIfInBounds_toArray, List.set_cons_zero, List.set_cons_succ])
              have zb4 := HZ4.out
              refine held_call 3 (by kernel_rfl) rfl (by rfl) (fun K hK => ?_)
              go_simp
              refine hK.out _ _ HS4.out (fun hHeld => ?_)
              clear hK K zb4
              (try simp only [Act.put, List.setIfInBounds_toArray, List.set_cons_zero, List.set_cons_succ])
              refine held_take 6 rfl (by kernel_rfl) (by kernel_rfl) (by kernel_rfl) (fun _ _ _ h => h) (by rfl) hHeld (v := ?_) (fun w hSw => ?_) (fun _ => ?_)
              rotate_left
              · ((try dsimp only at hSw); go_simp; (try with_reducible rfl))
              simp only [Act.put, List.setIfInBounds_toArray, List.set_cons_zero, List.set_cons_succ]
              have hfin := lay_clone (HL3.out.on HBZ.out) HB4.out HO4.out HF4.out HD4.out (Below.refl w4.heap.size w4)
              have hzz := (HB4.out.block w3.heap.size (by simp)).trans (heap_alloc_new w3 (.cells #[Value.string ⟨#[]⟩, .slice none 0 0, .slice none 0 0] 27))
              have hlow : ∀ g, g < w3.heap.size → w4.heap[g]? = w3.heap[g]? ∧ ¬ Fk g ∧ ¬ Dk g := fun g hg => by
                have h1 := hfin.2.2.2.2 g (by simp; omega)
                exact ⟨h1.1.trans (HBZ.out.block g hg), h1.2⟩
              obtain ⟨gz, hgz⟩ : ∃ gz, w3.heap.size = gz := ⟨_, rfl⟩
              rw [hgz] at hzz
              rw [hgz]
              exact key w4 gz mn mpa mpc mps mka mkc mks Fk Dk ⟨hfin.1, hfin.2.1, hfin.2.2.1, hfin.2.2.2.1, hlow, hzz, HP4.out⟩
        case k =>
          rintro W5 gz mn mpa mpc mps mka mkc mks Fk Dk ⟨hl5, ho5, hFk, hDk, hlow, hz5, hp5⟩
          obtain ⟨g', c1, w6, hrun, hc1, hc2, hchg, hgp, hg', hfz, z0, z1, z2, x1, xf, hl6⟩ := hl5.app ho5 hFk hDk hz5 (by omega) 25
          replace hrun : (Builtin.append_ #[25, 25] 25 #[.slice n0.ka n0.kids.length n0.kc, .slice (some ⟨gz, 0, none⟩) 1 1]).run Tryz.prog W5 = .ok (.slice (some ⟨g', 0, none⟩) (n0.kids.length + 1) c1) w6 := hrun
          replace x1 : w6.cell? ⟨pb, o + 2, none⟩ = some (Value.slice n0.ka n0.kids.length n0.kc) := x1
          have HRUN6 := Lib.hid hrun
          have HLOW := Lib.hid hlow
          have HP5 := Lib.hid hp5
          have HF5 := Lib.hid hFk
          have HCH := Lib.hid hchg
          have HGP := Lib.hid (And.intro hgp hg')
          have HEL := Lib.hid (And.intro (And.intro z0 (hfz (n0.kids.length * 3))) (And.intro (And.intro z1 (hfz (n0.kids.length * 3 + 1))) (And.intro z2 (hfz (n0.kids.length * 3 + 2)))))
          have HHD := Lib.hid (And.intro x1 xf)
          have HL6 : Hid (LayN w pb o t cur n F D ((((w6.setCell ⟨g', n0.kids.length * 3, none⟩ (.string mn)).setCell ⟨g', n0.kids.length * 3 + 1, none⟩ (.slice mpa mps.length mpc)).setCell ⟨g', n0.kids.length * 3 + 2, none⟩ (.slice mka mks.length mkc)).setCell ⟨pb, o + 2, none⟩ (.slice (some ⟨g', 0, none⟩) (n0.kids.length + 1) c1)) _ _ _) := Lib.hid hl6
          have HW5 : Hid (w3.heap.size ≤ W5.heap.size ∧ wr.heap.size ≠ g' ∧ w.heap.size ≠ g') := by
            have e1 : wr.heap.size < W5.heap.size := by
              have h := (hlow wr.heap.size HX3.out.2).1
              rw [HX3.out.1] at h
              exact (Array.getElem?_eq_some_iff.1 h).1
            have e0 : w3.heap.size ≤ W5.heap.size := by
              rcases Nat.lt_or_ge W5.heap.size w3.heap.size with h | h
              · have h1 := (hlow W5.heap.size h).1
                rw [Array.getElem?_eq_none (Nat.le_refl _), Array.getElem?_eq_getElem h] at h1
                cases h1
              · exact h
            refine ⟨e0, fun e => ?_, fun e => ?_⟩
            · rcases hg' with h | h
              · exact HNAT.out.1 (e ▸ h)
              · omega
            · rcases hg' with h | h
              · exact HMF0.out (e ▸ h)
              · have := HWL.out; omega
          have HB6 : Hid (∀ V : World, (∀ q, q ≠ g' → q ≠ pb → V.heap[q]? = w6.heap[q]?) → (V.cell? ⟨wr.heap.size, 0, none⟩ = some (.string l[k].name) ∧ V.cell? ⟨wr.heap.size, 1, none⟩ = some (.slice l[k].pa l[k].props.length l[k].pc) ∧ V.cell? ⟨wr.heap.size, 2, none⟩ = some (.slice l[k].ka l[k].kids.length l[k].kc))) := fun V hV =>
            HSB.out V ((hV wr.heap.size HW5.out.2.1 HNAT.out.2).trans ((HCH.out.block wr.heap.size (by have h1 := HW5.out.1; have h2 := HX3.out.2; omega) HNAT.out.1).trans (HLOW.out wr.heap.size HX3.out.2).1))
          clear hrun hlow hp5 hFk hDk hchg hgp hg' hl6 hfz z0 z1 z2 x1 xf hz5 ho5 hl5
          refine held_call 8 (by kernel_rfl) rfl (by rfl) (fun K hK => ?_)
          refine Lib.wp_append_run_sl _ _ _ _ rfl _ _ rfl rfl HRUN6.out ?_
          refine hK.out _ _ (HB6.out w6 (fun _ _ _ => rfl)) (fun hHeld => ?_)
          clear hK K
          simp only [Act.put, List.setIfInBounds_toArray, List.set_cons_zero, List.set_cons_succ]
          have hlen1 : (n0.kids.length : Int) < (n0.kids.length : Int) + 1 := by omega
          refine held_take 9 rfl (by kernel_rfl) (by kernel_rfl) (by kernel_rfl) (fun _ _ _ h => h) (by rfl) hHeld (v := ?_) (fun w hSw => ?_) (fun _ => ?_)
          rotate_left
          · ((try dsimp only at hSw); go_simp; (try with_reducible rfl))
          simp only [Act.put, List.setIfInBounds_toArray, List.set_cons_zero, List.set_cons_succ]
          refine held_take 11 rfl (by kernel_rfl) (by kernel_rfl) (by kernel_rfl) (fun _ _ _ h => h) (by rfl) hHeld (v := ?_) (fun w hSw => ?_) (fun _ => ?_)
          rotate_left
          · ((try dsimp only at hSw); go_simp; (try with_reducible rfl))
          simp only [Act.put, List.setIfInBounds_toArray, List.set_cons_zero, List.set_cons_succ]
          refine held_take 12 rfl (by kernel_rfl) (by kernel_rfl) (by kernel_rfl) (fun _ _ _ h => h) (by rfl) hHeld (v := ?_) (fun w hSw => ?_) (fun _ => ?_)
          rotate_left
          · ((try dsimp only at hSw); go_simp; (try with_reducible rfl))
          simp only [Act.put, List.setIfInBounds_toArray, List.set_cons_zero, List.set_cons_succ]
          have s1 : ∀ {q : Nat} {V : World} {i : Nat} {v : Value}, q ≠ g' → (V.setCell ⟨g', i, none⟩ v).heap[q]? = V.heap[q]? := fun h => heap_setCell_other _ _ _ _ h
          have s2 : ∀ {q : Nat} {V : World} {i : Nat} {v : Value}, q ≠ pb → (V.setCell ⟨pb, i, none⟩ v).heap[q]? = V.heap[q]? := fun h => heap_setCell_other _ _ _ _ h
          have HC1 : Hid (∀ (V : World) (i : Nat) (v : Value) (j : Nat) (u : Value), (V.setCell ⟨pb, j, none⟩ u).setCell ⟨g', i, none⟩ v = (V.setCell ⟨g', i, none⟩ v).setCell ⟨pb, j, none⟩ u) := fun V i v j u => setCell_comm V (fun e => HGP.out.1 e.symm) u v
          apply cutO
          case h =>
            intro key
            refine held_two 10 13 (by kernel_rfl) rfl rfl (by rfl) (by rfl) (fun K hK => ?_) (fun K hK => ?_)
            · obtain ⟨⟨z0, f0⟩, ⟨z1, f1⟩, z2, f2⟩ := HEL.out
              go_simp
              refine hK.out _ _ (HB6.out _ (fun q h1 h2 => (s1 h1).trans ((s1 h1).trans (s1 h1)))) (fun hHeld => ?_)
              clear hK K z0 z1 z2 f0 f1 f2
              (try simp only [Act.put, List.setIfInBounds_toArray, List.set_cons_zero, List.set_cons_succ])
              have x1 := (World.cell?_of_block (a := ⟨pb, o + 2, none⟩) ((s1 (V := ((w6.setCell ⟨g', n0.kids.length * 3, none⟩ (.string mn)).setCell ⟨g', n0.kids.length * 3 + 1, none⟩ (.slice mpa mps.length mpc))) (i := n0.kids.length * 3 + 2) (v := .slice mka mks.length mkc) (Ne.symm HGP.out.1)).trans ((s1 (Ne.symm HGP.out.1)).trans (s1 (Ne.symm HGP.out.1))))).trans HHD.out.1
              have xf := (World.frozen?_of_block (a := ⟨pb, o + 2, none⟩) ((s1 (V := ((w6.setCell ⟨g', n0.kids.length * 3, none⟩ (.string mn)).setCell ⟨g', n0.kids.length * 3 + 1, none⟩ (.slice mpa mps.length mpc))) (i := n0.kids.length * 3 + 2) (v := .slice mka mks.length mkc) (Ne.symm HGP.out.1)).trans ((s1 (Ne.symm HGP.out.1)).trans (s1 (Ne.symm HGP.out.1))))).trans HHD.out.2
              refine held_call 13 (by kernel_rfl) rfl (by rfl) (fun K hK => ?_)
              go_simp
              refine hK.out _ _ (HB6.out _ (fun q h1 h2 => (s2 h2).trans ((s1 h1).trans ((s1 h1).trans (s1 h1))))) (fun hHeld => ?_)
              clear hK K x1 xf
              exact key
            · obtain ⟨x1, xf⟩ := HHD.out
              go_simp
              refine hK.out _ _ (HB6.out _ (fun q h1 h2 => s2 h2)) (fun hHeld => ?_)
              clear hK K x1 xf
              (try simp only [Act.put, List.setIfInBounds_toArray, List.set_cons_zero, List.set_cons_succ])
              have z0 := (World.cell?_of_block (a := ⟨g', n0.kids.length * 3, none⟩) (s2 (V := w6) (i := o + 2) (v := .slice (some ⟨g', 0, none⟩) (n0.kids.length + 1) c1) HGP.out.1)).trans HEL.out.1.1
              have f0 := (World.frozen?_of_block (a := ⟨g', n0.kids.length * 3, none⟩) (s2 (V := w6) (i := o + 2) (v := .slice (some ⟨g', 0, none⟩) (n0.kids.length + 1) c1) HGP.out.1)).trans HEL.out.1.2
              have z1 := (World.cell?_of_block (a := ⟨g', n0.kids.length * 3 + 1, none⟩) (s2 (V := w6) (i := o + 2) (v := .slice (some ⟨g', 0, none⟩) (n0.kids.length + 1) c1) HGP.out.1)).trans HEL.out.2.1.1
              have f1 := (World.frozen?_of_block (a := ⟨g', n0.kids.length * 3 + 1, none⟩) (s2 (V := w6) (i := o + 2) (v := .slice (some ⟨g', 0, none⟩) (n0.kids.length + 1) c1) HGP.out.1)).trans HEL.out.2.1.2
              have z2 := (World.cell?_of_block (a := ⟨g', n0.kids.length * 3 + 2, none⟩) (s2 (V := w6) (i := o + 2) (v := .slice (some ⟨g', 0, none⟩) (n0.kids.length + 1) c1) HGP.out.1)).trans HEL.out.2.2.1
              have f2 := (World.frozen?_of_block (a := ⟨g', n0.kids.length * 3 + 2, none⟩) (s2 (V := w6) (i := o + 2) (v := .slice (some ⟨g', 0, none⟩) (n0.kids.length + 1) c1) HGP.out.1)).trans HEL.out.2.2.2
              refine held_call 10 (by kernel_rfl) rfl (by rfl) (fun K hK => ?_)
              go_simp
              rw [HC1.out, HC1.out, HC1.out]
              refine hK.out _ _ (HB6.out _ (fun q h1 h2 => (s2 h2).trans ((s1 h1).trans ((s1 h1).trans (s1 h1))))) (fun hHeld => ?_)
              clear hK K z0 z1 z2 f0 f1 f2
              exact key
          case k =>
            refine wpAnyH_done (by kernel_rfl) ?_ _
            clear s1 s2
            go_wp2
            go_roundw
            case rel =>
              have hnm : mn = l[k].name := by
                have h := congrArg PN.name HP5.out
                rw [name_pure, name_pure] at h
                exact h
              refine ⟨k + 1, by omega, by go_num, _, _, _, Dm0.put (keyL l[k].name) (.lit (.int .i64 n0.kids.length)), HL6.out, HPP.out, ?_, ?_, ?_, fun e => ?_, fun e => ?_⟩
              · show (n0.kids ++ [_]).map pureN = _
                rw [mergeL_next l k hlt, ← HKK.out, HUP.out, List.map_append, List.map_cons, List.map_nil, HP5.out]
              · show FirstsM ((n0.kids ++ [_]).map Nd.name) _
                have h := HFP.out
                rw [List.length_map] at h
                rw [List.map_append]
                show FirstsM (n0.kids.map Nd.name ++ [mn]) _
                rw [hnm]
                exact h
              · show World.ownsMap _ _ _ _ _ (n0.kids ++ [_]).length _
                rw [List.length_append]
                refine ownsMap_same HO3.out ?_
                have h1 := (HCH.out.block w.heap.size (by have h1 := HW5.out.1; have h2 := HX3.out.2; have h3 := HWL.out; omega) HMF0.out).trans (HLOW.out w.heap.size (by have h2 := HX3.out.2; have h3 := HWL.out; omega)).1
                rw [heap_setCell_other _ _ _ _ (fun e => HWPB.out e.symm), heap_setCell_other _ _ _ _ (fun e => HW5.out.2.2 e), heap_setCell_other _ _ _ _ (fun e => HW5.out.2.2 e), heap_setCell_other _ _ _ _ (fun e => HW5.out.2.2 e)]
                exact h1
              · rcases e with e | e | e
                · exact HMF0.out e
                · exact HW5.out.2.2 e
                · exact (HLOW.out w.heap.size (by have h2 := HX3.out.2; have h3 := HWL.out; omega)).2.1 e
              · rcases e with e | e
                · exact HMD0.out e
                · exact (HLOW.out w.heap.size (by have h2 := HX3.out.2; have h3 := HWL.out; omega)).2.2 e
            case measure => simp [intOf]; omega
    · obtain rfl : k = l.length := by omega
      go_wp2
      go_end0
      refine ⟨rfl, n0, F0, D0, H0.out, ?_⟩
      rw [pureN_mk, H0.out.name, HPP.out, HKK.out, List.take_length]
end Go.Proofs.YtihlpcbebpnmkaaGreatDoor

/-! Layers 1, 5: bytes put together: slices.Concat, words.Put, words.Put64, of any bytes that a blob may have. -/
namespace Go.Proofs.YtihlpcbebpnmkaaGreatDoor
open Go.RowKit
set_option linter.unusedVariables false
set_option linter.unusedSimpArgs false

set_option maxHeartbeats 400000 in
theorem cell_any (v : Int) (w : World) (h0 : 0 ≤ v) (h1 : v ≤ 4294967295) :
    Calls Tryz.prog 131 #[.int .u32 v] w fun e w' => e = .returned (.slice (some ⟨w.heap.size, 0, none⟩) 4 4) ∧ w' = w.alloc (.cells #[.int .u8 (v / 16777216), .int .u8 (v / 65536 % 256), .int .u8 (v / 256 % 256), .int .u8 (v % 256)] 5) := by
  go_enter Tryz.func131, Tryz.ntmps131
  go_wp2
  go_ret
  exact ⟨rfl, rfl⟩

set_option maxHeartbeats 400000 in
theorem grow_nil (n : Nat) (w : World) (hn : n ≤ 1073741824) :
    Calls Tryz.prog 148 #[.slice none 0 0, .int .i64 n] w fun e w' => ∃ v, e = .returned v ∧ w'.ownsRow w.heap.size 5 1 v 0 [] ∧ Below w.heap.size w w' := by
  obtain ⟨i0, hi0, hz0, hz1, hz2⟩ := info_parts info_u8
  rcases Nat.eq_zero_or_pos n with rfl | h0
  · go_enter Tryz.func148, Tryz.ntmps148
    go_wp2
    go_ret
    exact ⟨_, rfl, World.ownsRow_nil _ _ _ _, Below.refl _ _⟩
  · have h1 : ¬ ((n : Int) < 0) := by omega
    have h2 : ((n : Int) > 0) := by omega
    have hrz : ∀ ty, (Builtin.append_ #[59, 3] ty #[.slice none 0 0, .int .i64 (n : Int)]).run Tryz.prog w = .ok (.slice (some ⟨w.heap.size, 0, none⟩) n (grownCap w n 0 5)) (w.drew.alloc (.cells (Builtin.zeroCells (Value.int .u8 0).cells n ++ Builtin.zeroCells (Value.int .u8 0).cells (grownCap w n 0 5 - n)) 5)) := fun ty => by
      have h := Lib.run_append_grow_zeros (P := Tryz.prog) w 59 3 ty 5 i0 (.int .u8 0) .i64 .i64 Tryz.underlying59 Tryz.underlying3 hi0 hz0 none 0 0 [] (run_firstCells_none w.drew i0.size 0 0 0) n h0 (by omega) (by omega) (by omega) (by rw [hz2]; omega) (by rw [hz2]; exact growslice_fits (by omega) (by omega))
      simpa using h
    have hG : n ≤ grownCap w n 0 5 := grownCap_ge w _ _ _
    have hG2 := grownCap_le_maxLen w n 0 5 (by unfold maxLen; omega)
    generalize hGe : grownCap w n 0 5 = G at hrz hG hG2
    clear hGe hi0 hz0 hz1 hz2
    have hG3 : G ≤ 9223372036854775807 := by unfold maxLen at hG2; omega
    go_enter Tryz.func148, Tryz.ntmps148
    go_wp2_with (at_builtin; refine Lib.wpList_append_run _ rfl _ _ _ _ rfl _ _ rfl rfl _ _ (hrz _) ?_)
    go_ret
    refine ⟨_, rfl, World.ownsRow_made _ _ _ (by simp) hG2 ?_, ?_⟩
    · simp [Builtin.zeroCells]; omega
    · exact (Below.refl _ _).drew.alloc (by simp) _


/-- One of the slices that are put together: its address, length, capacity, and bytes. -/
abbrev Piece := Option Addr × Nat × Nat × List Int
def sumLen : List Piece → Nat
  | [] => 0
  | p :: r => p.2.1 + sumLen r
def joined : List Piece → List Int
  | [] => []
  | p :: r => p.2.2.2 ++ joined r
theorem sumLen_append (a b : List Piece) : sumLen (a ++ b) = sumLen a + sumLen b := by
  induction a with
  | nil => simp [sumLen]
  | cons p r ih => simp only [List.cons_append, sumLen, ih]; omega
theorem joined_append (a b : List Piece) : joined (a ++ b) = joined a ++ joined b := by
  induction a with
  | nil => simp [joined]
  | cons p r ih => simp only [List.cons_append, joined, ih, List.append_assoc]
theorem take_one_more {α : Type} (l : List α) (j : Nat) (p : α) (h : l[j]? = some p) : l.take (j + 1) = l.take j ++ [p] := by
  rw [List.take_add_one, h]; rfl
theorem sumLen_next (l : List Piece) (j : Nat) (p : Piece) (h : l[j]? = some p) : sumLen (l.take (j + 1)) = sumLen (l.take j) + p.2.1 := by
  rw [take_one_more l j p h, sumLen_append]; simp [sumLen]
theorem joined_next (l : List Piece) (j : Nat) (p : Piece) (h : l[j]? = some p) : joined (l.take (j + 1)) = joined (l.take j) ++ p.2.2.2 := by
  rw [take_one_more l j p h, joined_append]; simp [joined]
theorem sumLen_take (l : List Piece) (j : Nat) : sumLen (l.take j) ≤ sumLen l := by
  conv => rhs; rw [← List.take_append_drop j l, sumLen_append]
  omega

set_option maxHeartbeats 400000 in
theorem concat_any (g m cap : Nat) (ps : List Piece) (w : World) (hl : ps.length = m) (hm : m ≤ 100) (hmc : m ≤ cap) (hcap : cap ≤ 100) (hcell : ∀ i p, ps[i]? = some p → w.cell? ⟨g, i, none⟩ = some (.slice p.1 p.2.1 p.2.2.1))
    (hg : g < w.heap.size) (hs : ∀ p ∈ ps, Shows w w.heap.size p.1 p.2.1 p.2.2.2) (htot : sumLen ps ≤ 1073741824) :
    Calls Tryz.prog 130 #[.slice (some ⟨g, 0, none⟩) m cap] w fun e w' => ∃ v, e = .returned v ∧ w'.ownsRow w.heap.size 5 1 v (sumLen ps) (u8s (joined ps)) ∧ Below w.heap.size w w' := by
  obtain ⟨i0, hi0, hz0, hz1, hz2⟩ := info_parts info_u8
  have HC := Lib.hid hcell
  have HL := Lib.hid hl
  have HS := Lib.hid hs
  have HI : Hid (Tryz.prog.info? 5 = some i0 ∧ i0.zero = some (.int .u8 0) ∧ i0.size = 1 ∧ i0.bytes = 1) := ⟨hi0, hz0, hz1, hz2⟩
  clear hcell hl hs hi0 hz0 hz1 hz2
  go_enter Tryz.func130, Tryz.ntmps130
  go_wp2
  go_loop [3, 11] (fun s i => ∃ j : Nat, j ≤ m ∧ i = .int .i64 j ∧ s = .int .i64 (sumLen (ps.take j))) (fun _ i => m - (intOf i).toNat)
  case atStart => exact ⟨0, by omega, rfl, rfl⟩
  case round =>
    obtain ⟨j, hj, rfl, rfl⟩ := hrel
    by_cases hlt : j < m
    · obtain ⟨p, hp⟩ : ∃ p, ps[j]? = some p := ⟨_, List.getElem?_eq_getElem (by rw [HL.out]; exact hlt)⟩
      have hc := HC.out j p hp
      have h1 := sumLen_take ps j
      have h2 := sumLen_take ps (j + 1)
      have HN := Lib.hid (sumLen_next ps j p hp)
      rw [HN.out] at h2
      clear hp
      go_wp2
      go_round
      case rel => exact ⟨j + 1, by omega, by go_num, by rw [HN.out]; go_num⟩
      case measure => simp [intOf]; omega
    · obtain rfl : j = m := by omega
      have HT : Hid (ps.take j = ps) := List.take_of_length_le (by rw [HL.out]; exact Nat.le_refl _)
      rw [HT.out]
      go_wp2_with (go_at_call 148; refine (grow_nil (sumLen ps) _ (by omega)).mono ?_; rintro e w1 ⟨v1, rfl, hown1, hb1⟩)
      go_loopw [6, 27] (fun v i wr => ∃ k : Nat, k ≤ j ∧ i = .int .i64 k ∧ wr.ownsRow w.heap.size 5 1 v (sumLen (ps.take k)) (u8s (joined (ps.take k))) ∧ Below w.heap.size w wr) (fun _ i _ => j - (intOf i).toNat)
      case atStart => exact ⟨0, by omega, rfl, hown1, hb1⟩
      case round =>
        obtain ⟨k, hk, rfl, hown, hbel⟩ := hrel
        by_cases hlt : k < j
        · obtain ⟨p, hp⟩ : ∃ p, ps[k]? = some p := ⟨_, List.getElem?_eq_getElem (by rw [HL.out]; exact hlt)⟩
          have hc : wr.cell? ⟨g, k, none⟩ = some (.slice p.1 p.2.1 p.2.2.1) := (hbel.cell (p := ⟨g, k, none⟩) hg).trans (HC.out k p hp)
          have h2 := sumLen_take ps (k + 1)
          have HN := Lib.hid (sumLen_next ps k p hp)
          have HJ := Lib.hid (joined_next ps k p hp)
          rw [HN.out] at h2
          have hsh := (HS.out p (List.mem_of_getElem? hp)).below hbel
          obtain ⟨i1, i2, i3, i4⟩ := HI.out
          obtain ⟨v', w', hrun, hown', hgr⟩ := run_append_shown wr i0 i1 i2 i3 i4 w.heap.size u6 _ _ hown w.heap.size p.1 p.2.1 p.2.2.1 p.2.2.2 hsh (by omega) hbel.size 59
          have hbel' := hbel.grown hgr.1 hbel.size (fun q hq => (hown.lt q hq).1)
          have HO := Lib.hid hown'
          have HB := Lib.hid hbel'
          clear hp i1 i2 i3 i4 hsh hgr hown hown' hbel hbel'
          go_wp2_with (at_builtin; refine Lib.wpList_append_run_sl _ rfl _ _ _ rfl _ _ rfl rfl hrun ?_)
          go_roundw
          case rel => exact ⟨k + 1, by omega, by go_num, by rw [HN.out, HJ.out, u8s, List.map_append]; exact HO.out, HB.out⟩
          case measure => simp [intOf]; omega
        · obtain rfl : k = j := by omega
          rw [HT.out] at hown
          have HO := Lib.hid hown
          have HB := Lib.hid hbel
          clear hown hbel
          go_wp2
          go_ret
          exact ⟨_, rfl, HO.out, HB.out⟩

theorem shows_new (w : World) (zs : List Int) (n : Nat) (cs : Array Value) (hn : zs.length = n) (hz : ∀ z ∈ zs, 0 ≤ z ∧ z < 256) (hcs : cs = (u8s zs).toArray) (t : TypeId) :
    Shows (w.alloc (.cells cs t)) (w.heap.size + 1) (some ⟨w.heap.size, 0, none⟩) n zs := by
  subst hcs
  refine ⟨hn, hz, fun h0 => ⟨w.heap.size, 0, rfl, by omega, fun i hi => ?_⟩⟩
  rw [Nat.zero_add, cell_of_row (w.alloc (.cells (u8s zs).toArray t)) w.heap.size i _ t (0, 0) (heap_alloc_new w _)]
  have hi' : i < zs.length := by omega
  simp [List.getD, List.getElem?_eq_getElem hi']

theorem four_shows (w : World) (v : Int) (h0 : 0 ≤ v) (h1 : v ≤ 4294967295) :
    Shows (w.alloc (.cells #[.int .u8 (v / 16777216), .int .u8 (v / 65536 % 256), .int .u8 (v / 256 % 256), .int .u8 (v % 256)] 5)) (w.heap.size + 1) (some ⟨w.heap.size, 0, none⟩) 4 (four v) :=
  shows_new w (four v) 4 _ rfl (fun z hz => by simp only [four, List.mem_cons, List.not_mem_nil, or_false] at hz; omega) rfl _

theorem own_shows {w : World} {base n : Nat} {t : TypeId} {v : Value} {zs : List Int} (h : w.ownsRow base t 1 v n (u8s zs)) (hz : ∀ z ∈ zs, 0 ≤ z ∧ z < 256) :
    ∃ A c, v = .slice A n c ∧ Shows w w.heap.size A n zs ∧ n ≤ c ∧ c ≤ maxLen := by
  have hl : zs.length = n := by simpa using h.1
  rcases h.2 with ⟨rfl, rfl⟩ | ⟨g, cap, cur, rfl, _, hh, hnc, hcm, _, ht⟩
  · exact ⟨_, _, rfl, ⟨hl, hz, fun h0 => absurd h0 (by omega)⟩, Nat.le_refl _, by unfold maxLen; omega⟩
  · refine ⟨_, _, rfl, ⟨hl, hz, fun h0 => ⟨g, 0, rfl, ?_, fun i hi => ?_⟩⟩, hnc, hcm⟩
    · exact (Array.getElem?_eq_some_iff.1 hh).1
    · rw [Nat.zero_add, cell_of_row w g i cur t (0, 0) hh]
      have hi' : i < zs.length := by omega
      have e : (cur.toList.take (n * 1))[i]? = (u8s zs)[i]? := by rw [ht]
      rw [List.getElem?_take_of_lt (by omega), List.getElem?_map, List.getElem?_eq_getElem hi'] at e
      rw [← Array.getElem?_toList, e]
      simp [List.getD, List.getElem?_eq_getElem hi']
theorem joined_bytes : ∀ (ps : List Piece), (∀ p ∈ ps, ∀ z ∈ p.2.2.2, 0 ≤ z ∧ z < 256) → ∀ z ∈ joined ps, 0 ≤ z ∧ z < 256
  | [], _, z, hz => by simp [joined] at hz
  | p :: r, h, z, hz => by
    rcases List.mem_append.1 hz with h1 | h1
    · exact h p (by simp) z h1
    · exact joined_bytes r (fun q hq => h q (by simp [hq])) z h1

/-- The slices lie in one new row: what slices.Concat gives. -/
theorem concat_new (w : World) (g : Nat) (hg : g = w.heap.size) (ps : List Piece) (m : Nat) (cs : Array Value) (t : TypeId) (hl : ps.length = m) (hm : m ≤ 100) (hcs : cs = (ps.map fun p => Value.slice p.1 p.2.1 p.2.2.1).toArray)
    (hs : ∀ p ∈ ps, Shows w w.heap.size p.1 p.2.1 p.2.2.2) (htot : sumLen ps ≤ 1073741824) :
    Calls Tryz.prog 130 #[.slice (some ⟨g, 0, none⟩) m m] (w.alloc (.cells cs t)) fun e w' => ∃ A c, e = .returned (.slice A (sumLen ps) c) ∧ Shows w' w'.heap.size A (sumLen ps) (joined ps) ∧ sumLen ps ≤ c ∧ c ≤ maxLen ∧ Below w.heap.size w w' := by
  subst hcs hg
  refine (concat_any w.heap.size m m ps _ hl hm (Nat.le_refl _) hm ?_ (by simp) ?_ htot).mono ?_
  · intro i p hp
    rw [cell_of_row _ w.heap.size i _ t (0, 0) (heap_alloc_new w _)]
    simp [List.getElem?_map, hp]
  · intro p hp
    exact ((hs p hp).below ((Below.refl _ _).alloc (Nat.le_refl _) _)).more (by simp)
  · rintro e w' ⟨v, rfl, h1, h2⟩
    obtain ⟨A, c, rfl, h3, h4, h5⟩ := own_shows h1 (joined_bytes ps fun p hp => (hs p hp).2.1)
    exact ⟨A, c, rfl, h3, h4, h5, ((Below.refl _ w).alloc (Nat.le_refl _) _).trans (h2.mono (by simp))⟩

set_option maxHeartbeats 400000 in
theorem put_any (A : Option Addr) (n c : Nat) (zs : List Int) (v : Int) (w : World) (hs : Shows w w.heap.size A n zs) (hn : n ≤ 536870912) (h0 : 0 ≤ v) (h1 : v ≤ 4294967295) :
    Calls Tryz.prog 108 #[.slice A n c, .int .u32 v] w fun e w' => ∃ A' c', e = .returned (.slice A' (n + 4) c') ∧ Shows w' w'.heap.size A' (n + 4) (zs ++ four v) ∧ n + 4 ≤ c' ∧ c' ≤ maxLen ∧ Below w.heap.size w w' := by
  have hb1 : ∀ o, Below w.heap.size w (w.alloc o) := fun o => (Below.refl _ w).alloc (Nat.le_refl _) o
  have H := concat_new (w.alloc (.cells #[.int .u8 (v / 16777216), .int .u8 (v / 65536 % 256), .int .u8 (v / 256 % 256), .int .u8 (v % 256)] 5)) (w.heap.size + 1) (by simp) [(A, n, c, zs), (some ⟨w.heap.size, 0, none⟩, 4, 4, four v)] 2
    #[Value.slice A n c, Value.slice (some ⟨w.heap.size, 0, none⟩) 4 4] 59 rfl (by omega) rfl
    (fun p hp => by
      simp only [List.mem_cons, List.not_mem_nil, or_false] at hp
      rcases hp with rfl | rfl
      · exact (hs.below (hb1 _)).more (by simp)
      · exact (four_shows w v h0 h1).more (by simp))
    (by simp [sumLen]; omega)
  have HK := Lib.hid H
  clear hs H
  have HB := Lib.hid hb1
  clear hb1
  go_enter Tryz.func108, Tryz.ntmps108
  go_wp2_with (go_at_call 131; refine (cell_any v _ h0 h1).mono ?_; rintro e w' ⟨rfl, rfl⟩)
  refine HK.out.mono ?_
  rintro e w' ⟨A', c', rfl, hown, hc1, hc2, hbel⟩
  have HO := Lib.hid (And.intro hown (And.intro hc1 (And.intro hc2 hbel)))
  clear hown hc1 hc2 hbel
  simp only [sumLen, joined, List.append_nil, Nat.add_zero] at HO ⊢
  go_wp2
  go_ret
  obtain ⟨h1, h2, h3, h4⟩ := HO.out
  exact ⟨A', c', rfl, h1, h2, h3, (HB.out _).trans (h4.mono (by simp))⟩

end Go.Proofs.YtihlpcbebpnmkaaGreatDoor

/-! Texts of bytes that are shown; bytes.Equal. -/
namespace Go.Proofs.YtihlpcbebpnmkaaGreatDoor
open Go.RowKit
set_option linter.unusedVariables false
set_option linter.unusedSimpArgs false

/-- 'string(b)' of bytes that are shown. -/
theorem run_string {w : World} {B n : Nat} {A : Option Addr} {zs : List Int} (h : Shows w B A n zs) (c : Nat) :
    (convert 59 9 (.slice A n c)).run Tryz.prog w = .ok (.string (strOfNums zs)) w := by
  rcases Nat.eq_zero_or_pos n with rfl | h0
  · obtain rfl : zs = [] := List.eq_nil_of_length_eq_zero h.1
    rcases A with _ | ⟨b, o, s⟩
    · exact run_convert_bytes_nil w 59 5 Tryz.underlying59 Tryz.underlying5 0 c _ Tryz.underlying9
    · rw [run_convert_bytes_string w 59 9 5 _ 0 c Tryz.underlying59 Tryz.underlying5 Tryz.underlying9,
        run_bytesToString w _ 0 c [] (by simpa using run_loadCells_list (P := Tryz.prog) w ⟨b, o, s⟩ [] (by simp))]
      rfl
  · obtain ⟨b, o, rfl, _, hc⟩ := h.at_ h0
    exact run_convert_bytes_arg w 59 5 Tryz.underlying59 Tryz.underlying5 b o n c zs h.1 hc _ Tryz.underlying9

theorem nums_inj : ∀ {xs ys : List Int}, (∀ z ∈ xs, 0 ≤ z ∧ z < 256) → (∀ z ∈ ys, 0 ≤ z ∧ z < 256) → (xs.map fun n => UInt8.ofNat n.toNat) = (ys.map fun n => UInt8.ofNat n.toNat) → xs = ys
  | [], [], _, _, _ => rfl
  | [], _ :: _, _, _, h => by simp at h
  | _ :: _, [], _, _, h => by simp at h
  | x :: xs, y :: ys, hx, hy, h => by
    simp only [List.map_cons, List.cons.injEq] at h
    have h1 := hx x (List.mem_cons_self ..)
    have h2 := hy y (List.mem_cons_self ..)
    have h3 := congrArg UInt8.toNat h.1
    simp only [UInt8.toNat_ofNat'] at h3
    rw [nums_inj (fun z hz => hx z (List.mem_cons_of_mem _ hz)) (fun z hz => hy z (List.mem_cons_of_mem _ hz)) h.2]
    congr 1
    omega

/-- Texts of bytes are the same just if the bytes are. -/
theorem str_eqz {xs ys : List Int} (hx : ∀ z ∈ xs, 0 ≤ z ∧ z < 256) (hy : ∀ z ∈ ys, 0 ≤ z ∧ z < 256) : ((strOfNums xs).toList == (strOfNums ys).toList) = decide (xs = ys) := by
  rw [Lib.toList_data, Lib.toList_data, strOfNums_data, strOfNums_data, Bool.eq_iff_iff, beq_iff_eq, decide_eq_true_iff]
  exact ⟨nums_inj hx hy, fun h => by rw [h]⟩
theorem str_eqb (x y : ByteArray) : (x.toList == y.toList) = decide (x = y) := by
  by_cases h : x = y
  · subst h; simp
  · rw [str_ne h, decide_eq_false h]

theorem bequal_any (A A' : Option Addr) (n n' c c' B B' : Nat) (xs ys : List Int) (w : World) (hx : Shows w B A n xs) (hy : Shows w B' A' n' ys) (r : Bool) (hr : decide (xs = ys) = r) :
    Calls Tryz.prog 109 #[.slice A n c, .slice A' n' c'] w fun e w' => e = .returned (.bool r) ∧ w' = w := by
  have e1 := run_string hx c
  have e2 := run_string hy c'
  have hr' : ((strOfNums xs).toList == (strOfNums ys).toList) = r := (str_eqz hx.2.1 hy.2.1).trans hr
  clear hx hy hr
  go_enter Tryz.func109, Tryz.ntmps109
  go_wp2
  go_ret
  exact ⟨rfl, rfl⟩
end Go.Proofs.YtihlpcbebpnmkaaGreatDoor

/-! The document's numbers and texts, of bytes of any length. -/
namespace Go.Proofs.YtihlpcbebpnmkaaGreatDoor
open Go.RowKit
set_option linter.unusedVariables false
set_option linter.unusedSimpArgs false

/-- The first nought from a on, below n, is at i. -/
def HitAt (zs : List Int) (a n i : Nat) : Prop := a ≤ i ∧ i < n ∧ zs.getD i 0 = 0 ∧ ∀ j, a ≤ j → j < i → zs.getD j 0 ≠ 0
/-- There is none. -/
def NoHit (zs : List Int) (a n : Nat) : Prop := ∀ j, a ≤ j → j < n → zs.getD j 0 ≠ 0

theorem hit_or_not (zs : List Int) (a : Nat) : ∀ k, NoHit zs a (a + k) ∨ ∃ i, HitAt zs a (a + k) i
  | 0 => .inl fun j h1 h2 => by omega
  | k + 1 => by
    rcases hit_or_not zs a k with h | ⟨i, h1, h2, h3, h4⟩
    · by_cases h0 : zs.getD (a + k) 0 = 0
      · exact .inr ⟨a + k, by omega, by omega, h0, fun j h1 h2 => h j h1 (by omega)⟩
      · refine .inl fun j h1 h2 => ?_
        by_cases e : j = a + k
        · rw [e]; exact h0
        · exact h j h1 (by omega)
    · exact .inr ⟨i, h1, by omega, h3, h4⟩

set_option maxHeartbeats 400000 in
theorem number_no (A : Option Addr) (n c : Nat) (at_ k : Int) (w : World) (h : at_ < 0 ∨ n < at_ ∨ n - at_ < k) (hn : n ≤ 9223372036854775807) (hk : k = 4 ∨ k = 8) (ha : -9223372036854775808 ≤ at_ ∧ at_ ≤ 9223372036854775807) :
    Calls Tryz.prog 51 #[.slice A n c, .int .i64 at_, .int .i64 k] w fun e w' => e = .returned (.tuple #[.int .u64 0, .bool false]) ∧ w = w' := by
  obtain ⟨a0, a1⟩ := ha
  by_cases h0 : at_ < 0
  · go_enter Tryz.func51, Tryz.ntmps51
    go_wp2
    go_ret2
    exact ⟨rfl, rfl⟩
  · by_cases h1 : (n : Int) < at_
    · go_enter Tryz.func51, Tryz.ntmps51
      go_wp2
      go_ret2
      exact ⟨rfl, rfl⟩
    · have h2 : n - at_ < k := by omega
      go_enter Tryz.func51, Tryz.ntmps51
      go_wp2
      go_ret2
      exact ⟨rfl, rfl⟩

set_option maxHeartbeats 400000 in
theorem number_yes (A : Option Addr) (n c k a : Nat) (zs : List Int) (w : World) (B : Nat) (hs : Shows w B A n zs) (h : a + k ≤ n) (hn : n ≤ 140737488351232) (hk0 : 0 < k) (hk : k ≤ 8) :
    Calls Tryz.prog 51 #[.slice A n c, .int .i64 a, .int .i64 k] w fun e w' => e = .returned (.tuple #[.int .u64 (numTo zs a k), .bool true]) ∧ w = w' := by
  obtain ⟨b, o, rfl, _, hc⟩ := hs.at_ (by omega)
  have hz := hs.byte
  have h0 : ¬ ((a : Int) < 0) := by omega
  have h1 : ¬ ((n : Int) < (a : Int)) := by omega
  have h2 : ¬ ((n : Int) - (a : Int) < (k : Int)) := by omega
  clear hs
  have HC := Lib.hid hc
  have HZ := Lib.hid hz
  clear hc hz
  go_enter Tryz.func51, Tryz.ntmps51
  go_wp2
  go_loop [8, 27] (fun v i => ∃ j : Nat, j ≤ k ∧ i = .int .i64 j ∧ v = .int .u64 (numTo zs a j)) (fun _ i => k - (intOf i).toNat)
  case atStart => exact ⟨0, by omega, rfl, rfl⟩
  case round =>
    obtain ⟨j, hj, rfl, rfl⟩ := hrel
    by_cases hlt : j < k
    · have hcell := HC.out (a + j) (by omega)
      have hzb := HZ.out (a + j)
      have hb := numTo_lt64 zs a j HZ.out (by omega)
      have hb2 := numTo_lt64 zs a (j + 1) HZ.out (by omega)
      simp only [numTo] at hb2
      go_wp2
      go_round
      case rel => exact ⟨j + 1, by omega, by go_num, by
        have e : zs[a + j]?.getD 0 = zs.getD (a + j) 0 := by simp [List.getD]
        rw [e, IntWalk.u64_in (zs.getD (a + j) 0) (by omega), IntWalk.u64_in _ hb2]; rfl⟩
      case measure => simp [intOf]; omega
    · obtain rfl : j = k := by omega
      go_wp2
      go_ret2
      exact ⟨rfl, rfl⟩

theorem take_while_hit {zs : List Int} {a i : Nat} (h : HitAt zs a zs.length i) : (0 : Int) ∈ zs.drop a ∧ ((zs.drop a).takeWhile fun z => decide (z ≠ 0)) = (zs.drop a).take (i - a) := by
  obtain ⟨h1, h2, h3, h4⟩ := h
  have hget : ∀ j, a ≤ j → j < zs.length → (zs.drop a)[j - a]? = some (zs.getD j 0) := fun j hj hl => by
    rw [List.getElem?_drop, show a + (j - a) = j by omega]
    simp [List.getD, List.getElem?_eq_getElem hl]
  refine ⟨List.mem_of_getElem? ((hget i h1 h2).trans (congrArg some h3)), ?_⟩
  have hsplit : zs.drop a = (zs.drop a).take (i - a) ++ (0 :: (zs.drop a).drop (i - a + 1)) := by
    conv => lhs; rw [← List.take_append_drop (i - a) (zs.drop a)]
    congr 1
    rw [List.drop_eq_getElem_cons (by rw [List.length_drop]; omega)]
    congr 1
    have := hget i h1 h2
    rw [List.getElem?_eq_getElem (by rw [List.length_drop]; omega), h3] at this
    exact Option.some.inj this
  conv => lhs; rw [hsplit]
  rw [List.takeWhile_append_of_pos]
  · simp
  · intro z hz
    obtain ⟨j, hj, rfl⟩ := List.getElem_of_mem hz
    rw [List.length_take, List.length_drop] at hj
    have h5 := hget (a + j) (by omega) (by omega)
    rw [show a + j - a = j by omega] at h5
    have h6 : ((zs.drop a).take (i - a))[j]? = some (zs.getD (a + j) 0) := by
      rw [List.getElem?_take_of_lt (by omega)]; exact h5
    rw [List.getElem?_eq_getElem (by rw [List.length_take, List.length_drop]; omega)] at h6
    rw [Option.some.inj h6]
    exact decide_eq_true (h4 (a + j) (by omega) (by omega))
theorem text_hit {zs : List Int} {a i : Nat} (h : HitAt zs a zs.length i) : textFrom zs a = some ((zs.drop a).take (i - a)) := by
  obtain ⟨h1, h2⟩ := take_while_hit h
  rw [textFrom, if_pos h1, h2]
theorem text_nohit {zs : List Int} {a : Nat} (h : NoHit zs a zs.length) : textFrom zs a = none := by
  rw [textFrom, if_neg]
  intro h0
  obtain ⟨j, e⟩ := List.getElem?_of_mem h0
  have hj : j < zs.length - a := by have := (List.getElem?_eq_some_iff.1 e).1; rwa [List.length_drop] at this
  rw [List.getElem?_drop, List.getElem?_eq_getElem (by omega)] at e
  refine h (a + j) (by omega) (by omega) ?_
  simp [List.getD, List.getElem?_eq_getElem (show a + j < zs.length by omega), Option.some.inj e]

/-- What the document's Text answers: the bytes up to the next nought, or that there is none. -/
def TextOut (e : Ending) (o : Option (List Int)) : Prop := e = .returned (.tuple #[.string (match o with | none => ByteArray.empty | some s => strOfNums s), .bool o.isSome])
end Go.Proofs.YtihlpcbebpnmkaaGreatDoor
