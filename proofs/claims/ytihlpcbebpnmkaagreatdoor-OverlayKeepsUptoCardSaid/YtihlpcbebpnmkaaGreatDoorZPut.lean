/-
  Layer 11: Merge, and what is its own; a node put at its place.
-/
import Derived.Test.YtihlpcbebpnmkaaGreatDoorZAt
import Derived.Test.YtihlpcbebpnmkaaGreatDoorBase11
namespace Go.Proofs.YtihlpcbebpnmkaaGreatDoor
open Go.RowKit
set_option linter.unusedVariables false
set_option linter.unusedSimpArgs false

theorem at_pure : ∀ (P : List Nat) {n y : Nd}, nodeAt n P = some y → atP P (pureN n) = some (pureN y)
  | [], n, y, h => by
    rw [nodeAt] at h
    obtain rfl := Option.some.inj h
    rw [atP]
  | i :: P, n, y, h => by
    obtain ⟨hi, e⟩ := nodeAt_some h
    rw [atP, pure_kids, List.getElem?_map, List.getElem?_eq_getElem hi]
    exact at_pure P e
theorem hpL_set : ∀ (l : List PN) (i : Nat) (hi : i < l.length) (x : PN), hpL (l.set i x) + hpN l[i] = hpL l + hpN x
  | y :: l, 0, hi, x => by rw [List.set_cons_zero, hpL, hpL, List.getElem_cons_zero]; omega
  | y :: l, i + 1, hi, x => by
    have := hpL_set l i (by simpa using hi) x
    rw [List.set_cons_succ, hpL, hpL, List.getElem_cons_succ]
    omega
theorem hp_put : ∀ (P : List Nat) (n y x : PN), atP P n = some y → hpN (putAt P n x) + hpN y = hpN n + hpN x
  | [], n, y, x, h => by
    rw [atP] at h
    obtain rfl := Option.some.inj h
    rw [putAt]
    omega
  | i :: P, .mk nm ps ks, y, x, h => by
    rw [atP] at h
    rw [putAt]
    simp only [PN.kids, PN.name, PN.props] at h ⊢
    rcases hi : ks[i]? with _ | k
    · rw [hi] at h; cases h
    · rw [hi] at h
      obtain ⟨hlt, hik⟩ := List.getElem?_eq_some_iff.1 hi
      have ih := hp_put P k y x h
      have hs := hpL_set ks i hlt (putAt P k x)
      simp only [hpN]
      rw [hik] at hs
      omega

set_option maxRecDepth 20000 in
set_option maxHeartbeats 4000000 in
theorem merge_own (b a : Nd) (w : World) (hina : a.In w w.heap.size) (hinb : b.In w w.heap.size) (hh : heftN a + heftN b ≤ 1073741824) :
    Calls Tryz.prog 30 #[a.val, b.val] w fun e w' => (∃ (n : Nd) (F D : Nat → Prop), e = .returned n.val ∧ pureN n = mergeN (pureN b) (pureN a) ∧ Own w' F D n ∧ (∀ g, F g → w.heap.size ≤ g ∧ g < w'.heap.size) ∧ (∀ g, D g → w.heap.size ≤ g ∧ g < w'.heap.size ∧ ¬ F g)) ∧ Below w.heap.size w w' := by
  have HA := Lib.hid hina
  have HB := Lib.hid hinb
  have HH : Hid (hpN (pureN a) + hpN (pureN b) ≤ 1073741824) := Lib.hid (by rw [← heft_hp, ← heft_hp]; exact hh)
  have HLO := Lib.hid (lay_all b)
  have HCL := Lib.hid (cloneNode_own a)
  clear hina hinb hh
  obtain ⟨an, apa, apc, aps, aka, akc, aks⟩ := a
  obtain ⟨bn, bpa, bpc, bps, bka, bkc, bks⟩ := b
  obtain ⟨W0, hW0⟩ : ∃ W0, (((w.alloc (.cells #[Value.string an, .slice apa aps.length apc, .slice aka aks.length akc] 27)).alloc (.cells #[Value.string bn, .slice bpa bps.length bpc, .slice bka bks.length bkc] 27)).alloc (.cells #[Value.string ⟨#[]⟩, .slice none 0 0, .slice none 0 0] 27)) = W0 := ⟨_, rfl⟩
  have h3 := allocs3 w (.cells #[Value.string an, .slice apa aps.length apc, .slice aka aks.length akc] 27) (.cells #[Value.string bn, .slice bpa bps.length bpc, .slice bka bks.length bkc] 27) (.cells #[Value.string ⟨#[]⟩, .slice none 0 0, .slice none 0 0] 27)
  rw [hW0] at h3
  obtain ⟨_, s0, n0, n1, n2, bel⟩ := h3
  have HS0 := Lib.hid s0
  have HN1 := Lib.hid n1
  have HN2 := Lib.hid n2
  have HBE := Lib.hid bel
  have y0 := cell_of_row _ w.heap.size 0 _ _ _ n0
  have y1 := cell_of_row _ w.heap.size 1 _ _ _ n0
  have y2 := cell_of_row _ w.heap.size 2 _ _ _ n0
  replace y0 : _ = some (Value.string an) := y0
  replace y1 : _ = some (Value.slice apa aps.length apc) := y1
  replace y2 : _ = some (Value.slice aka aks.length akc) := y2
  clear s0 n0 n1 n2 bel
  show Calls _ _ #[.agg #[.string an, .slice apa aps.length apc, .slice aka aks.length akc], .agg #[.string bn, .slice bpa bps.length bpc, .slice bka bks.length bkc]] _ _
  go_enter Tryz.func30, Tryz.ntmps30
  go_wp2_with fail
  refine (HCL.out W0 (HA.out.on HBE.out)).mono ?_
  rintro e w1 ⟨m, F, D, rfl, hp, hown, hF, hD, hb⟩
  clear hW0 y0 y1 y2
  obtain ⟨mn, mpa, mpc, mps, mka, mkc, mks⟩ := m
  dsimp only [Nd.val, Nd.name, Nd.pv, Nd.kv, Nd.pa, Nd.pc, Nd.props, Nd.ka, Nd.kc, Nd.kids]
  have HP := Lib.hid hp
  have HF := Lib.hid hF
  have HD := Lib.hid hD
  have HB1 := Lib.hid hb
  have HO := Lib.hid hown
  obtain ⟨W2, hW2⟩ : ∃ W2, w1.alloc (.cells #[Value.string mn, .slice mpa mps.length mpc, .slice mka mks.length mkc] 27) = W2 := ⟨_, rfl⟩
  have HB2 : Hid (Below w1.heap.size w1 W2) := Lib.hid (by rw [← hW2]; exact (Below.refl _ _).alloc (Nat.le_refl _) _)
  have HX2 : Hid (W2.heap[w1.heap.size]? = some (.cells #[Value.string mn, .slice mpa mps.length mpc, .slice mka mks.length mkc] 27 (0, 0)) ∧ W2.heap.size = w1.heap.size + 1) := Lib.hid (by rw [← hW2]; exact ⟨heap_alloc_new _ _, by simp⟩)
  have HR1 := Lib.hid ((HB2.out.block (w.heap.size + 1) (by have h1 := HS0.out; have h2 := HB1.out.size; omega)).trans ((HB1.out.block (w.heap.size + 1) (by have h1 := HS0.out; omega)).trans HN1.out))
  have HR2 := Lib.hid ((HB2.out.block (w.heap.size + 2) (by have h1 := HS0.out; have h2 := HB1.out.size; omega)).trans ((HB1.out.block (w.heap.size + 2) (by have h1 := HS0.out; omega)).trans HN2.out))
  have y0 := cell_of_row _ (w.heap.size + 1) 0 _ _ _ HR1.out
  have y1 := cell_of_row _ (w.heap.size + 1) 1 _ _ _ HR1.out
  have y2 := cell_of_row _ (w.heap.size + 1) 2 _ _ _ HR1.out
  replace y0 : _ = some (Value.string bn) := y0
  replace y1 : _ = some (Value.slice bpa bps.length bpc) := y1
  replace y2 : _ = some (Value.slice bka bks.length bkc) := y2
  have HST : Hid (LayN W2 w1.heap.size 0 27 _ (.mk mn mpa mpc mps mka mkc mks) F D W2 (.mk mn mpa mpc mps mka mkc mks) F D) := Lib.hid (LayN.start (HO.out.chg (E := fun _ => False) (Chg.ofBelow HB2.out) (fun _ _ e => e) (fun _ _ e => e)) (fun g e => by have h1 := HF.out g e; have h2 := HX2.out.2; omega) (fun g e => by
    have h1 := HD.out g e
    have h2 := HX2.out.2
    exact ⟨by omega, h1.2.2⟩) HX2.out.1 rfl rfl (fun e => by have := HF.out _ e; omega) (fun e => by have := HD.out _ e; omega))
  have HIB : Hid ((Nd.mk bn bpa bpc bps bka bkc bks).In W2 W2.heap.size ∧ (Nd.mk bn bpa bpc bps bka bkc bks).At (fun g => ¬ F g ∧ g ≠ w1.heap.size)) := Lib.hid ⟨((HB.out.on HBE.out).on HB1.out).on HB2.out, Nd.At.mono (fun g hg => by
    have h1 := hg.2
    have h2 := HS0.out
    have h3 := HB1.out.size
    exact ⟨fun e => by have := HF.out g e; omega, by omega⟩) (Nd.At.lows HB.out (Nd.At.all _))⟩
  clear hp hown hF hD hb
  go_wp2_with fail
  clear hW2 y0 y1 y2
  refine (HLO.out w1.heap.size 0 _ _ _ F D W2 HST.out HIB.out.1 HIB.out.2 (by rw [HP.out]; have := HH.out; omega)).mono ?_
  rintro e w3 ⟨rfl, n', F', D', hl, hp3⟩
  have HL := Lib.hid hl
  have HP3 := Lib.hid hp3
  clear hl hp3
  obtain ⟨nn, npa, npc, nps, nka, nkc, nks⟩ := n'
  have hnn : nn = mn := HL.out.name
  subst hnn
  have HW3 := Lib.hid (HL.out.chg.block (w.heap.size + 2) (by have h1 := HS0.out; have h2 := HB1.out.size; have h3 := HX2.out.2; omega) (fun e => by
    have h1 := HS0.out
    have h2 := HB1.out.size
    rcases e with e | e
    · have := HF.out _ e; omega
    · omega))
  have HR3 := Lib.hid (HW3.out.trans HR2.out)
  have HBX := Lib.hid HL.out.box
  have x0 := cell_of_row _ w1.heap.size 0 _ _ _ HBX.out
  have x1 := cell_of_row _ w1.heap.size 1 _ _ _ HBX.out
  have x2 := cell_of_row _ w1.heap.size 2 _ _ _ HBX.out
  replace x0 : _ = some (Value.string nn) := x0
  replace x1 : _ = some (Value.slice npa nps.length npc) := x1
  replace x2 : _ = some (Value.slice nka nks.length nkc) := x2
  have t0 := cell_of_row _ (w.heap.size + 2) 0 _ _ _ HR3.out
  have t1 := cell_of_row _ (w.heap.size + 2) 1 _ _ _ HR3.out
  have t2 := cell_of_row _ (w.heap.size + 2) 2 _ _ _ HR3.out
  replace t0 : _ = some (Value.string ⟨#[]⟩) := t0
  replace t1 : _ = some (Value.slice none 0 0) := t1
  replace t2 : _ = some (Value.slice none 0 0) := t2
  have f0 := frozen_of_row _ (w.heap.size + 2) 0 _ _ HR3.out
  have f1 := frozen_of_row _ (w.heap.size + 2) 1 _ _ HR3.out
  have f2 := frozen_of_row _ (w.heap.size + 2) 2 _ _ HR3.out
  go_wp2_with fail
  have BF := Lib.hid (heap_setCell_same _ (w.heap.size + 2) 2 _ _ (.slice nka nks.length nkc) (heap_setCell_same _ (w.heap.size + 2) 1 _ _ (.slice npa nps.length npc) (heap_setCell_same _ (w.heap.size + 2) 0 _ _ (.string nn) HR3.out)))
  have d0 := cell_of_row _ (w.heap.size + 2) 0 _ _ _ BF.out
  have d1 := cell_of_row _ (w.heap.size + 2) 1 _ _ _ BF.out
  have d2 := cell_of_row _ (w.heap.size + 2) 2 _ _ _ BF.out
  replace d0 : _ = some (Value.string nn) := d0
  replace d1 : _ = some (Value.slice npa nps.length npc) := d1
  replace d2 : _ = some (Value.slice nka nks.length nkc) := d2
  have HCF := Lib.hid ((((Chg.refl (fun q => q = w.heap.size + 2) w3).setCell (a := ⟨w.heap.size + 2, 0, none⟩) (.inl rfl) (.string nn)).setCell (a := ⟨w.heap.size + 2, 1, none⟩) (.inl rfl) (.slice npa nps.length npc)).setCell (a := ⟨w.heap.size + 2, 2, none⟩) (.inl rfl) (.slice nka nks.length nkc))
  clear t0 t1 t2 f0 f1 f2 x0 x1 x2
  refine bodyPost_ret (v := .agg #[.string nn, .slice npa nps.length npc, .slice nka nks.length nkc]) (by simp [results, Tryz.results30, go_sem, d0, d1, d2]; try rfl) rfl ?_
  have h1 := HS0.out
  have h2 := HB1.out.size
  have h3 := HX2.out.2
  have h4 := HL.out.chg.size
  have hcs := HCF.out.size
  refine ⟨⟨_, F', D', rfl, by rw [HP3.out, HP.out], HL.out.own.chg HCF.out (fun q e e' => ?_) (fun q e e' => ?_), fun q e => ?_, fun q e => ?_⟩, ?_⟩
  · rcases (HL.out.hF' q e).1 with e | e
    · have := (HF.out q e).1; omega
    · omega
  · rcases (HL.out.hD' q e).1 with e | e
    · have := (HD.out q e).1; omega
    · omega
  · have hl := (HL.out.hF' q e).2
    refine ⟨?_, Nat.lt_of_lt_of_le hl HCF.out.size⟩
    rcases (HL.out.hF' q e).1 with e | e
    · have := (HF.out q e).1; omega
    · omega
  · have hl := (HL.out.hD' q e).2
    refine ⟨?_, Nat.lt_of_lt_of_le hl.1 HCF.out.size, hl.2⟩
    rcases (HL.out.hD' q e).1 with e | e
    · have := (HD.out q e).1; omega
    · omega
  · refine HBE.out.trans ((HB1.out.mono (by omega)).trans ((HB2.out.mono (by omega)).trans ?_))
    have c : Chg (fun q => w.heap.size ≤ q) W2 _ := (HL.out.chg.mono (F' := fun q => w.heap.size ≤ q) (fun g _ e => by
      rcases e with e | e
      · have := (HF.out g e).1; omega
      · omega)).trans HCF.out (fun g _ e => by omega)
    exact c.below (by omega) (fun q e => e)

theorem cells_put {curk : Array Value} {ok : Nat} {y m : Nd} (hc : (nCells curk ok y)[ok]? = some (.string y.name)) (hn : m.name = y.name) : (((nCells curk ok y).setIfInBounds ok (.string m.name)).setIfInBounds (ok + 1) m.pv).setIfInBounds (ok + 2) m.kv = nCells curk ok m := by
  have e : (nCells curk ok y).setIfInBounds ok (.string m.name) = nCells curk ok y := by
    obtain ⟨c, hcc⟩ : ∃ c, nCells curk ok y = c := ⟨_, rfl⟩
    rw [hcc] at hc ⊢
    rw [hn]
    clear hcc
    apply Array.ext_getElem?
    intro j
    by_cases hj : ok = j
    · subst hj
      rw [Array.getElem?_setIfInBounds_self_of_lt (Array.getElem?_eq_some_iff.1 hc).1, hc]
    · rw [Array.getElem?_setIfInBounds_ne hj]
  rw [e]
  have e2 := nCells_twice (cur := curk) (o := ok) y m
  conv at e2 => lhs; unfold nCells
  conv => lhs; unfold nCells
  exact e2
section
variable {W W1 : World} {gk ok : Nat} {tk : TypeId} {curk : Array Value} {y m : Nd} {Gi D Fm Dm : Nat → Prop}
/-- Another node is put at its place. -/
theorem LayN.put (h : LayN W gk ok tk curk y Gi D W y Gi D) (hnm : W.cell? ⟨gk, ok, none⟩ = some (.string y.name)) (hb : Below W.heap.size W W1) (hm : Own W1 Fm Dm m) (hFm : ∀ g, Fm g → W.heap.size ≤ g ∧ g < W1.heap.size) (hDm : ∀ g, Dm g → W.heap.size ≤ g ∧ g < W1.heap.size ∧ ¬ Fm g) (hn : m.name = y.name) :
    LayN W gk ok tk curk y Gi D (((W1.setCell ⟨gk, ok, none⟩ (.string m.name)).setCell ⟨gk, ok + 1, none⟩ m.pv).setCell ⟨gk, ok + 2, none⟩ m.kv) m (fun g => Gi g ∨ Fm g) (fun g => D g ∨ Dm g) := by
  have hbox := h.box
  rw [← hb.block gk h.pbw] at hbox
  have hc := hnm
  rw [cell_of_row W gk ok _ _ _ h.box] at hc
  have hch : Chg (fun q => q = gk) W1 (((W1.setCell ⟨gk, ok, none⟩ (.string m.name)).setCell ⟨gk, ok + 1, none⟩ m.pv).setCell ⟨gk, ok + 2, none⟩ m.kv) :=
    (((Chg.refl (fun q => q = gk) W1).setCell (a := ⟨gk, ok, none⟩) (.inl rfl) _).setCell (a := ⟨gk, ok + 1, none⟩) (.inl rfl) _).setCell (a := ⟨gk, ok + 2, none⟩) (.inl rfl) _
  have hlt := h.pbw
  have hs := hb.size
  have hz : (((W1.setCell ⟨gk, ok, none⟩ (.string m.name)).setCell ⟨gk, ok + 1, none⟩ m.pv).setCell ⟨gk, ok + 2, none⟩ m.kv).heap.size = W1.heap.size := by simp
  refine ⟨(hm.chg hch (fun g e e' => by have := (hFm g e).1; omega) (fun g e e' => by have := (hDm g e).1; omega)).mono (fun g e => .inr e) (fun g e => .inr e), hn, fun g e => .inl e, fun g e => ?_, fun g e => .inl e, fun g e => ?_, ?_, (Chg.ofBelow hb).trans hch (fun g _ e => .inr e), h.pbw, h.pbF, h.pbD, h.oin⟩
  · rw [hz]
    rcases e with e | e
    · exact ⟨.inl e, by have := (h.hF' g e).2; omega⟩
    · exact ⟨.inr (hFm g e).1, (hFm g e).2⟩
  · rw [hz]
    rcases e with e | e
    · have h1 := h.hD' g e
      exact ⟨.inl e, by omega, fun e' => e'.elim h1.2.2 (fun e2 => by have := (hFm g e2).1; omega)⟩
    · have h1 := hDm g e
      exact ⟨.inr h1.1, h1.2.1, fun e' => e'.elim (fun e2 => by have := (h.hF' g e2).2; omega) h1.2.2⟩
  · have b3 := heap_setCell_same _ gk (ok + 2) _ _ m.kv (heap_setCell_same _ gk (ok + 1) _ _ m.pv (heap_setCell_same _ gk ok _ _ (.string m.name) hbox))
    rw [b3]
    exact congrArg (fun q => some (Obj.cells q tk (0, 0))) (cells_put hc hn)
end
end Go.Proofs.YtihlpcbebpnmkaaGreatDoor
