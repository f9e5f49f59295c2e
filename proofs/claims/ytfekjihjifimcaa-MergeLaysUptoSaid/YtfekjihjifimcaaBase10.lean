/-
  Base, part 10: what the proofs of this claim lean on.
-/
import Derived.Test.YtfekjihjifimcaaBase9
import Derived.Test.YtfekjihjifimcaaBase7
import Derived.Test.YtfekjihjifimcaaRows
import Derived.Test.YtfekjihjifimcaaBase5
import Derived.Test.YtfekjihjifimcaaBase2

/-! A node at a place, of the call's own: one more node comes behind those right below it. -/
namespace Go.Proofs.Ytfekjihjifimcaa
open Go.RowKit
set_option linter.unusedVariables false
set_option linter.unusedSimpArgs false

section
variable {w W : World} {pb o : Nat} {t : TypeId} {cur : Array Value} {n n' : Nd} {F D F' D' : Nat → Prop}
/-- append of a zero node, then that node written, then the row kept. -/
theorem LayN.app (h : LayN w pb o t cur n F D W n' F' D') {k : Nd} {Fk Dk : Nat → Prop} (hk : Own W Fk Dk k) (hFk : ∀ g, Fk g → w.heap.size ≤ g ∧ g < W.heap.size ∧ ¬ F' g ∧ ¬ D' g ∧ ¬ Dk g) (hDk : ∀ g, Dk g → w.heap.size ≤ g ∧ g < W.heap.size ∧ ¬ F' g)
    {gz : Nat} (hz : W.heap[gz]? = some (.cells #[.string ⟨#[]⟩, .slice none 0 0, .slice none 0 0] 25 (0, 0))) (hbig : n'.kids.length ≤ 1099511627776) (ty : TypeId) :
    ∃ g' c'' w2, (Builtin.append_ #[23, 23] ty #[n'.kv, .slice (some ⟨gz, 0, none⟩) 1 1]).run Try.prog W = .ok (.slice (some ⟨g', 0, none⟩) (n'.kids.length + 1) c'') w2 ∧
      n'.kids.length + 1 ≤ c'' ∧ c'' ≤ 9223372036854775807 ∧ Chg F' W w2 ∧ g' ≠ pb ∧ (F' g' ∨ g' = W.heap.size) ∧ (∀ i, w2.frozen? ⟨g', i, none⟩ = false) ∧
      w2.cell? ⟨g', n'.kids.length * 3, none⟩ = some (.string ⟨#[]⟩) ∧ w2.cell? ⟨g', n'.kids.length * 3 + 1, none⟩ = some (.slice none 0 0) ∧ w2.cell? ⟨g', n'.kids.length * 3 + 2, none⟩ = some (.slice none 0 0) ∧
      w2.cell? ⟨pb, o + 2, none⟩ = some n'.kv ∧ w2.frozen? ⟨pb, o + 2, none⟩ = false ∧
      LayN w pb o t cur n F D ((((w2.setCell ⟨g', n'.kids.length * 3, none⟩ (.string k.name)).setCell ⟨g', n'.kids.length * 3 + 1, none⟩ k.pv).setCell ⟨g', n'.kids.length * 3 + 2, none⟩ k.kv).setCell ⟨pb, o + 2, none⟩ (.slice (some ⟨g', 0, none⟩) (n'.kids.length + 1) c''))
        (.mk n'.name n'.pa n'.pc n'.props (some ⟨g', 0, none⟩) c'' (n'.kids ++ [k])) (fun g => F' g ∨ g = g' ∨ Fk g) (fun g => D' g ∨ Dk g) := by
  obtain ⟨i0, hi0, hz0, hz1, hz2⟩ := info_any info_node
  obtain ⟨_, h2, h3, fp, fk, _⟩ := h.own.parts
  have gzW := (Array.getElem?_eq_some_iff.1 hz).1
  obtain ⟨v', w2, run, o2, g2, _, e2⟩ := run_append_own_at (P := Try.prog) W 0 23 ty 25 i0 _ 3 64 Try.underlying23 hi0 hz0 hz1 hz2 rfl (by omega) n'.kv _ (n'.kids.flatMap kC) h3 ⟨gz, 0, none⟩ 1 1 [.string ⟨#[]⟩, .slice none 0 0, .slice none 0 0] rfl
    (fun j u hu => by
      rw [addr_add, Nat.zero_add, cell_of_row W gz j _ _ _ hz]
      rw [List.getElem?_toArray]
      exact hu)
    (fun u hu => by
      simp only [List.mem_cons, List.not_mem_nil, or_false] at hu
      rcases hu with rfl | rfl | rfl <;> rfl) (by unfold maxLen; omega) (by omega) (Nat.zero_le _)
  obtain ⟨g', c'', ef⟩ := Joins.ownsRow_form o2 (Nat.succ_pos _)
  subst ef
  have e3 : F' g' ∨ g' = W.heap.size := by
    rcases e2 with e | e
    · exact .inl (fk g' (by rw [← e]; rfl))
    · exact .inr (by simpa [Value.ownBlock] using e)
  have e4 : n'.kv.ownBlock = some g' ∨ W.heap.size ≤ g' := by
    rcases e2 with e | e
    · exact .inl (by rw [← e]; rfl)
    · exact .inr (by have : g' = W.heap.size := by simpa [Value.ownBlock] using e
                     omega)
  have hgp : g' ≠ pb := fun e => by
    rcases e3 with e' | e'
    · exact h.pbF' (e ▸ e')
    · have := h.pbW; omega
  have hgFk : ¬ Fk g' := fun e => by
    rcases e3 with e' | e'
    · exact (hFk g' e).2.2.1 e'
    · have := (hFk g' e).2.1; omega
  have hcap : n'.kids.length + 1 ≤ c'' ∧ c'' ≤ 9223372036854775807 := by
    rcases o2.2 with ⟨e1, _⟩ | ⟨g1, cap, cur1, e1, hb, hg, h1, h2, _⟩
    · cases e1
    · simp only [Value.slice.injEq, true_and] at e1
      obtain ⟨_, rfl⟩ := e1
      exact ⟨h1, h2⟩
  have l1 : (n'.kids.flatMap kC).length = n'.kids.length * 3 := flat_len kC_len _
  have cz : ∀ r v, ([.string ⟨#[]⟩, .slice none 0 0, .slice none 0 0] : List Value)[r]? = some v → w2.cell? ⟨g', n'.kids.length * 3 + r, none⟩ = some v := fun r v hv => by
    have := o2.cells (g := g') rfl (n'.kids.length * 3 + r) v (by rw [List.getElem?_append_right (by omega), l1, Nat.add_sub_cancel_left]; exact hv)
    rw [addr_add, Nat.zero_add] at this
    exact this
  have hfz : ∀ i, w2.frozen? ⟨g', i, none⟩ = false := fun i => World.ownsRow.frozenAt o2 i
  have c2 : Chg F' W w2 := Chg.ofGrown g2 (fun g e => fk g e)
  have box2 := (c2.block pb h.pbW h.pbF').trans h.box
  have hcell2 : w2.cell? ⟨pb, o + 2, none⟩ = some n'.kv := (c2.cell (a := ⟨pb, o + 2, none⟩) h.pbW h.pbF').trans h.cells.2.1
  -- the new element is written
  obtain ⟨s1, q1⟩ := o2.stored (n'.kids.length * 3) (.string k.name)
  obtain ⟨s2, q2⟩ := s1.stored (n'.kids.length * 3 + 1) k.pv
  obtain ⟨s3, q3⟩ := s2.stored (n'.kids.length * 3 + 2) k.kv
  have hrow : (((n'.kids.flatMap kC ++ [Value.string ⟨#[]⟩, .slice none 0 0, .slice none 0 0]).set (n'.kids.length * 3) (.string k.name)).set (n'.kids.length * 3 + 1) k.pv).set (n'.kids.length * 3 + 2) k.kv = (n'.kids ++ [k]).flatMap kC := by
    rw [List.flatMap_append, List.set_append_right _ _ (by omega), List.set_append_right _ _ (by omega), List.set_append_right _ _ (by omega), l1]
    simp [kC, Nat.add_sub_cancel_left]
  rw [hrow] at s3
  obtain ⟨W2, hW2⟩ : ∃ W2, (((w2.setCell ⟨g', n'.kids.length * 3, none⟩ (.string k.name)).setCell ⟨g', n'.kids.length * 3 + 1, none⟩ k.pv).setCell ⟨g', n'.kids.length * 3 + 2, none⟩ k.kv) = W2 := ⟨_, rfl⟩
  rw [hW2] at s3 q3
  have q : w2.grownBy W2 (some g') := (q1.thenG q2).thenG q3
  have c23 : Chg (fun g => n'.kv.ownBlock = some g ∨ g = g') W W2 := (Chg.ofGrown (F := fun g => n'.kv.ownBlock = some g ∨ g = g') g2 (fun g e => .inl e)).trans (F' := fun g => g = g') (Chg.ofGrown q (fun g e => by injection e with e; exact e.symm)) (fun g _ e => .inr e)
  have box3 : W2.heap[pb]? = some (.cells (nCells cur o n') t (0, 0)) := (q.block pb (Nat.lt_of_lt_of_le h.pbW c2.size) (fun e => hgp (by injection e with e; exact e.symm))).trans box2
  have box4 := heap_setCell_same W2 pb (o + 2) _ _ (.slice (some ⟨g', 0, none⟩) (n'.kids.length + 1) c'') box3
  have c4 : Chg (fun g => (n'.kv.ownBlock = some g ∨ g = g') ∨ g = pb) W (W2.setCell ⟨pb, o + 2, none⟩ (.slice (some ⟨g', 0, none⟩) (n'.kids.length + 1) c'')) := (c23.mono (fun _ _ e => .inl e)).setCell (.inl (.inr rfl)) _
  have g2s : g' < W2.heap.size := (s3.lt g' rfl).2
  have sz4 : (W2.setCell ⟨pb, o + 2, none⟩ (.slice (some ⟨g', 0, none⟩) (n'.kids.length + 1) c'')).heap.size = W2.heap.size := by simp
  have s02 := c23.size
  have sw := h.chg.size
  have notE : ∀ g, ((n'.kv.ownBlock = some g ∨ g = g') ∨ g = pb) → (F' g ∨ g = W.heap.size ∨ g = pb) := fun g e => by
    rcases e with (e | e) | e
    · exact .inl (fk g e)
    · subst e
      rcases e3 with e | e
      · exact .inl e
      · exact .inr (.inl e)
    · exact .inr (.inr e)
  have hk4 : Own (W2.setCell ⟨pb, o + 2, none⟩ (.slice (some ⟨g', 0, none⟩) (n'.kids.length + 1) c'')) Fk (fun g => D' g ∨ Dk g) k := by
    refine (hk.chg c4 (fun g e e' => ?_) (fun g e e' => ?_)).mono (fun _ e => e) (fun _ e => .inr e)
    · rcases notE g e' with e1 | e1 | e1
      · exact (hFk g e).2.2.1 e1
      · have := (hFk g e).2.1; omega
      · have h1 := (hFk g e).1; have := h.pbw; omega
    · rcases notE g e' with e1 | e1 | e1
      · exact (hDk g e).2.2 e1
      · have := (hDk g e).2.1; omega
      · have h1 := (hDk g e).1; have := h.pbw; omega
  refine ⟨g', c'', w2, run, hcap.1, hcap.2, c2, hgp, e3, hfz, cz 0 _ rfl, cz 1 _ rfl, cz 2 _ rfl, hcell2, frozen_of_row w2 pb _ _ _ box2, ?_⟩
  rw [hW2]
  refine ⟨?_, h.name, fun g e => .inl (h.hF g e), fun g e => ?_, fun g e => .inl (h.hD g e), fun g e => ?_, ?_, h.chg.trans c4 (fun g hg e => ?_), h.pbw, h.pbF, h.pbD, h.oin⟩
  · have l : (n'.kids ++ [k]).length = n'.kids.length + 1 := by simp
    refine h.own.addKid (G' := Fk) (fun g e => (h.hF' g e).2) c4 (fun g e => ⟨fun e' => ?_, fun e' => ?_⟩) (by
      rw [l]
      exact own_same s3 (fun g e => heap_setCell_other _ _ _ _ (fun e' => hgp (by
        have : g' = g := by simpa [Value.ownBlock] using e
        rw [this, e'])))) (fun g e => ?_) hk4 (fun g e => ⟨.inr (.inr e), ?_⟩) (fun _ e => .inl e) (fun _ e => .inl e)
    · rcases notE g e with e1 | e1 | e1
      · exact (h.hD' g e').2.2 e1
      · have := (h.hD' g e').2.1; omega
      · exact h.pbD' (e1 ▸ e')
    · rcases e with (e | e) | e
      · exact e
      · subst e
        rcases e4 with e4 | e4
        · exact e4
        · have := (h.hF' g e').2; omega
      · exact absurd (e ▸ e') h.pbF'
    · have : g' = g := by simpa [Value.ownBlock] using e
      subst this
      exact ⟨.inr (.inl rfl), hgFk, e4⟩
    · exact (hFk g e).2.2.1
  · have g2s' : g' < (W2.setCell ⟨pb, o + 2, none⟩ (.slice (some ⟨g', 0, none⟩) (n'.kids.length + 1) c'')).heap.size := by rw [sz4]; exact g2s
    rcases e with e | rfl | e
    · exact ⟨(h.hF' g e).1, by have := (h.hF' g e).2; omega⟩
    · refine ⟨?_, g2s'⟩
      rcases e3 with e' | e'
      · exact (h.hF' g e').1
      · exact .inr (by omega)
    · exact ⟨.inr (hFk g e).1, by have := (hFk g e).2.1; omega⟩
  · rcases e with e | e
    · refine ⟨(h.hD' g e).1, by have := (h.hD' g e).2.1; omega, fun e' => ?_⟩
      rcases e' with e' | rfl | e'
      · exact (h.hD' g e).2.2 e'
      · rcases e3 with e' | e'
        · exact (h.hD' g e).2.2 e'
        · have := (h.hD' g e).2.1; omega
      · exact (hFk g e').2.2.2.1 e
    · refine ⟨.inr (hDk g e).1, by have := (hDk g e).2.1; omega, fun e' => ?_⟩
      rcases e' with e' | rfl | e'
      · exact (hDk g e).2.2 e'
      · rcases e3 with e' | e'
        · exact (hDk g e).2.2 e'
        · have := (hDk g e).2.1; omega
      · exact (hFk g e').2.2.2.2 e
  · rw [box4]
    congr 2
    unfold nCells
    show _ = (cur.setIfInBounds (o + 1) (.slice n'.pa n'.props.length n'.pc)).setIfInBounds (o + 2) (.slice (some ⟨g', 0, none⟩) (n'.kids ++ [k]).length c'')
    rw [Array.setIfInBounds_setIfInBounds, List.length_append]
    rfl
  · rcases notE g e with e1 | e1 | e1
    · rcases (h.hF' g e1).1 with e2 | e2
      · exact .inl e2
      · omega
    · omega
    · exact .inr e1
end
end Go.Proofs.Ytfekjihjifimcaa

/-! layKids: nodes laid over those right below a node at a place of the call's own. -/
namespace Go.Proofs.Ytfekjihjifimcaa
open Go.RowKit Go.Maps Go.WideMaps
set_option linter.unusedVariables false
set_option linter.unusedSimpArgs false
attribute [local go_sem ↓] Go.wp_at_zero Go.wp_at_succ

theorem pure_knamesO (K : List Nd) : (K.map pureN).map PN.name = K.map Nd.name := by
  rw [List.map_map]
  exact List.map_congr_left fun k _ => by rw [Function.comp, pureN_mk]; rfl
theorem name_pure (k : Nd) : (pureN k).name = k.name := by rw [pureN_mk]; rfl
theorem set_knames {K : List Nd} {j : Nat} (hj : j < K.length) {q : Nd} (hn : q.name = K[j].name) : (K.set j q).map Nd.name = K.map Nd.name := by
  rw [List.map_set]
  apply List.ext_getElem?
  intro i
  by_cases hi : j = i
  · subst hi
    rw [List.getElem?_set_self (by simpa using hj), List.getElem?_map, List.getElem?_eq_getElem hj, hn]; rfl
  · rw [List.getElem?_set_ne hi]
theorem mergeL_one (k : PN) (l : List PN) : mergeL [k] l = updK (fun x => mergeN k x) k l := by rw [mergeL, mergeL]
theorem mergeL_next (ks : List Nd) (k : Nat) (hk : k < ks.length) (l : List PN) : mergeL ((ks.take (k + 1)).map pureN) l = updK (fun x => mergeN (pureN ks[k]) x) (pureN ks[k]) (mergeL ((ks.take k).map pureN) l) := by
  rw [take_snoc hk, List.map_append, mergeL_app]
  exact mergeL_one _ _
theorem hpL_takeO (ks : List Nd) (k : Nat) (hk : k < ks.length) : hpL ((ks.take k).map pureN) + hpN (pureN ks[k]) ≤ hpL (ks.map pureN) := by
  have app : ∀ a b : List PN, hpL (a ++ b) = hpL a + hpL b := fun a b => by
    induction a with
    | nil => simp [hpL]
    | cons x a ih => rw [List.cons_append, hpL, hpL, ih]; omega
  have e : ks.map pureN = (ks.take k).map pureN ++ (pureN ks[k] :: (ks.drop (k + 1)).map pureN) := by
    rw [← List.map_cons, ← List.map_append, ← List.drop_eq_getElem_cons hk, List.take_append_drop]
  rw [e, app, hpL]
  omega

theorem nd_val (a : ByteArray) (b : Option Addr) (c : Nat) (d : List PV) (e : Option Addr) (f : Nat) (g : List Nd) : (Nd.mk a b c d e f g).val = .agg #[.string a, .slice b d.length c, .slice e g.length f] := rfl
theorem setCell_comm (w : World) {a b : Addr} (h : a.block ≠ b.block) (x y : Value) : (w.setCell a x).setCell b y = (w.setCell b y).setCell a x := by
  unfold World.setCell
  congr 1
  apply Array.ext_getElem?
  intro i
  simp only [Array.getElem?_modify]
  by_cases h1 : a.block = i
  · have h2 : b.block ≠ i := fun e => h (h1.trans e.symm)
    simp [h1, h2]
  · by_cases h2 : b.block = i
    · simp [h1, h2]
    · simp [h1, h2]
theorem wp_mapUpdate_run {P : Program} (w : World) {o : Oper} {a : Act} {K : Act → World → Prop} {Q : Exit → Act → World → Prop} (m x v : Operand) (t : TypeId) (hop : o.op = Op.mapUpdate t m x v) (M X V : Value) (hm : a.eval m = M) (hx : a.eval x = X) (hv : a.eval v = V) {w' : World}
    (hr : (Instr.mapUpdate t M X V).run P w = .ok () w') (h : K (a.put o.dst undef) w') : o.wp P a w K Q := by
  unfold Oper.wp
  simp [execOp, hop, hm, hx, hv, hr, Result.andThen]
  exact h
theorem held_three {P : Program} {l : List Oper} {Q : Exit → Act → World → Prop} {S : World → Prop} (i j k : Nat) {oi oj ok : Oper} {fuel : Nat} {listed : Array Bool} {a : Act} {w : World} (hr : Region.ready .any l.toArray listed = [i, j, k]) (hi : l[i]? = some oi) (hj : l[j]? = some oj) (hk : l[k]? = some ok) (hwi : Region.wanted oi (yielded l.toArray a.tmps) = true) (hwj : Region.wanted oj (yielded l.toArray a.tmps) = true) (hwk : Region.wanted ok (yielded l.toArray a.tmps) = true)
    (h1 : ∀ K : Act → World → Prop, Shut (∀ a w, S w → (S w → wpAnyH P .any l.toArray Q S fuel (listed.setIfInBounds i true) a w) → K a w) → Oper.wp P oi a w K Q)
    (h2 : ∀ K : Act → World → Prop, Shut (∀ a w, S w → (S w → wpAnyH P .any l.toArray Q S fuel (listed.setIfInBounds j true) a w) → K a w) → Oper.wp P oj a w K Q)
    (h3 : ∀ K : Act → World → Prop, Shut (∀ a w, S w → (S w → wpAnyH P .any l.toArray Q S fuel (listed.setIfInBounds k true) a w) → K a w) → Oper.wp P ok a w K Q) : wpAnyH P .any l.toArray Q S (fuel + 1) listed a w :=
  wpAnyH_ready hr (by simp) (AllReadyH.cons (by simpa using hi) (fun K hK => by rw [if_pos hwi]; exact h1 K hK) (AllReadyH.cons (by simpa using hj) (fun K hK => by rw [if_pos hwj]; exact h2 K hK) (AllReadyH.cons (by simpa using hk) (fun K hK => by rw [if_pos hwk]; exact h3 K hK) AllReadyH.nil)))
/-- Beside a node of the call's own there is another one, all new. -/
theorem lay_clone {w V w4 W5 : World} {pb o : Nat} {t : TypeId} {cur : Array Value} {n n0 m : Nd} {F D F0 D0 Fk Dk : Nat → Prop} (h : LayN w pb o t cur n F D V n0 F0 D0) (hb : Below V.heap.size V w4) (ho : Own w4 Fk Dk m) (hF : ∀ q, Fk q → V.heap.size ≤ q ∧ q < w4.heap.size) (hD : ∀ q, Dk q → V.heap.size ≤ q ∧ q < w4.heap.size ∧ ¬ Fk q) (hb5 : Below w4.heap.size w4 W5) :
    LayN w pb o t cur n F D W5 n0 F0 D0 ∧ Own W5 Fk Dk m ∧ (∀ g, Fk g → w.heap.size ≤ g ∧ g < W5.heap.size ∧ ¬ F0 g ∧ ¬ D0 g ∧ ¬ Dk g) ∧ (∀ g, Dk g → w.heap.size ≤ g ∧ g < W5.heap.size ∧ ¬ F0 g) ∧ ∀ g, g < V.heap.size → W5.heap[g]? = V.heap[g]? ∧ ¬ Fk g ∧ ¬ Dk g := by
  have s1 := h.chg.size
  have s2 := hb.size
  have s3 := hb5.size
  refine ⟨(h.on hb).on hb5, ho.chg (E := fun _ => False) (Chg.ofBelow hb5) (fun _ _ e => e) (fun _ _ e => e), fun g e => ?_, fun g e => ?_, fun g hg => ⟨(hb5.block g (by omega)).trans (hb.block g hg), fun e => by have := hF g e; omega, fun e => by have := hD g e; omega⟩⟩
  · have h1 := hF g e
    exact ⟨by omega, by omega, fun e' => by have := (h.hF' g e').2; omega, fun e' => by have := (h.hD' g e').2.1; omega, fun e' => (hD g e').2.2 e⟩
  · have h1 := hD g e
    exact ⟨by omega, by omega, fun e' => by have := (h.hF' g e').2; omega⟩
theorem cutK {C P : World → Nat → ByteArray → Option Addr → Nat → List PV → Option Addr → Nat → List Nd → (Nat → Prop) → (Nat → Prop) → Prop} {Q : Prop}
    (h : (∀ W g a b c d e f i F D, C W g a b c d e f i F D → P W g a b c d e f i F D) → Q) (k : ∀ W g a b c d e f i F D, C W g a b c d e f i F D → P W g a b c d e f i F D) : Q := h k


set_option maxRecDepth 20000 in
set_option maxHeartbeats 16000000 in
theorem layKids_of (l : List Nd) (ih : ∀ k ∈ l, LayOK k) : LayKOK l := by
  intro pb o t cur n F D A c w h hl hli hA hh
  have HL0 := Lib.hid h
  have HLR := Lib.hid hl
  have HLI := Lib.hid hli
  have HAB := Lib.hid hA
  have IH := Lib.hid ih
  have HPW := Lib.hid h.pbw
  rw [hp_parts] at hh
  have HH := Lib.hid hh
  have HP0 : Hid (KRow w w.heap.size n.ka n.kids ∧ (∀ p ∈ n.kids, p.name.size ≤ 140737488351232) ∧ n.kids.length ≤ 1099511627776) := by
    obtain ⟨_, _, h3, _, _, _, G, _, _, h9⟩ := h.own.parts
    refine ⟨(krow_own h3).2.2.2, fun p hp => ?_, ?_⟩
    · obtain ⟨i, hi, rfl⟩ := List.getElem_of_mem hp
      exact (h9 i hi).parts.1
    · have := hpL_len (n.kids.map pureN)
      rw [List.length_map] at this
      omega
  have HC0 := Lib.hid h.cells.2.1
  have hlb : l.length ≤ 68719476736 := by
    have := hpL_len (l.map pureN)
    rw [List.length_map] at this
    omega
  have HSZ : Hid (∀ k (hk : k < l.length), hpL (mergeL ((l.take k).map pureN) (n.kids.map pureN)) + hpN (pureN l[k]) ≤ 1099511627776) := fun k hk => by
    have h1 := hpL_merge ((l.take k).map pureN) (n.kids.map pureN)
    have h2 := hpL_takeO l k hk
    have h3 := HH.out
    omega
  have hn1 : n.kids.length ≤ n.kc ∧ n.kc ≤ 9223372036854775807 := by
    obtain ⟨_, _, h3, _⟩ := h.own.parts
    exact ⟨(krow_own h3).2.1, (krow_own h3).2.2.1⟩
  clear h hl hli hA hh ih
  have b1 : w.cell? ⟨pb, o + 2, none⟩ = some (.slice n.ka n.kids.length n.kc) := HC0.out
  generalize hnka : n.ka = nka at *
  generalize hnkc : n.kc = nkc at *
  generalize hnks : n.kids = nks at *
  go_enter Try.func22, Try.ntmps22
  go_wp2_with fail
  refine (firstsN_any nka nkc nks w HP0.out.1 HP0.out.2.1 HP0.out.2.2).mono ?_
  rintro e w1 ⟨⟨Dm, rfl, hsz, hfm, hom⟩, hb1⟩
  have HW1 := Lib.hid hb1
  have HS1 := Lib.hid hsz
  have HF1 := Lib.hid hfm
  have HO1 := Lib.hid hom
  clear hsz hfm hom hb1 b1
  go_wp2_with fail
  go_loopw [16] (fun i wr => ∃ k : Nat, k ≤ l.length ∧ i = .int .i64 k ∧ ∃ n1 F1 D1 Dm, LayN w pb o t cur n F D wr n1 F1 D1 ∧ n1.props.map PV.pure = n.props.map PV.pure ∧ n1.kids.map pureN = mergeL ((l.take k).map pureN) (nks.map pureN) ∧ FirstsM (n1.kids.map Nd.name) Dm ∧ wr.ownsMap Try.prog 9 (plainElem Try.prog 3) w.heap.size n1.kids.length Dm ∧ ¬ F1 w.heap.size ∧ ¬ D1 w.heap.size) (fun i _ => l.length - (intOf i).toNat)
  case atStart =>
    exact ⟨0, Nat.zero_le _, rfl, n, F, D, Dm, HL0.out.on HW1.out, rfl, by rw [hnks]; simp [mergeL], by rw [hnks]; exact HF1.out, by rw [hnks]; exact HO1.out, fun e => by have := (HL0.out.hF' _ e).2; omega, fun e => by have := (HL0.out.hD' _ e).2.1; omega⟩
  case round =>
    obtain ⟨k, hk, rfl, n0, F0, D0, Dm0, hl0, hpp, hkk, hfm, hom, hmf, hmd⟩ := hrel
    have H0 := Lib.hid hl0
    have HPP := Lib.hid hpp
    have HKK := Lib.hid hkk
    have HFM0 := Lib.hid hfm
    have HOM0 := Lib.hid hom
    have HMF0 := Lib.hid hmf
    have HMD0 := Lib.hid hmd
    clear hl0 hpp hkk hfm hom hmf hmd
    by_cases hlt : k < l.length
    · have HSP : Hid (n0.kids.length ≤ 68719476736) := by
        have h1 := HSZ.out k hlt
        rw [← HKK.out] at h1
        have h2 := hpL_len (n0.kids.map pureN)
        rw [List.length_map] at h2
        show n0.kids.length ≤ _
        omega
      obtain ⟨b, oo, e, hbw, hcc⟩ := HLR.out (by omega)
      obtain rfl : A = _ := e
      have hbF := HAB.out (by omega) b oo rfl
      obtain ⟨r0, r1, r2⟩ := hcc k hlt
      replace r0 := (H0.out.chg.cell (a := ⟨b, oo + k * 3, none⟩) hbw (fun e => e.elim hbF.1 hbF.2)).trans r0
      replace r1 := (H0.out.chg.cell (a := ⟨b, oo + k * 3 + 1, none⟩) hbw (fun e => e.elim hbF.1 hbF.2)).trans r1
      replace r2 := (H0.out.chg.cell (a := ⟨b, oo + k * 3 + 2, none⟩) hbw (fun e => e.elim hbF.1 hbF.2)).trans r2
      replace r0 : _ = some (Value.string l[k].name) := r0
      replace r1 : _ = some (Value.slice l[k].pa l[k].props.length l[k].pc) := r1
      replace r2 : _ = some (Value.slice l[k].ka l[k].kids.length l[k].kc) := r2
      clear hcc hbw hbF
      have HV := Lib.hid (H0.out.arg (HLI.out _ (List.getElem_mem hlt)).1 (HLI.out _ (List.getElem_mem hlt)).2)
      have HK := Lib.hid (key_ok (HLI.out _ (List.getElem_mem hlt)).1.name_le.1)
      obtain ⟨WA, hWA⟩ : ∃ WA, wr.alloc (.cells #[Value.string l[k].name, .slice l[k].pa l[k].props.length l[k].pc, .slice l[k].ka l[k].kids.length l[k].kc] 25) = WA := ⟨_, rfl⟩
      have HA : Hid (Below wr.heap.size wr WA) := Lib.hid (by rw [← hWA]; exact Below.alloc (Below.refl wr.heap.size wr) (Nat.le_refl _) _)
      have HBA : Hid (WA.heap[wr.heap.size]? = some (.cells #[Value.string l[k].name, .slice l[k].pa l[k].props.length l[k].pc, .slice l[k].ka l[k].kids.length l[k].kc] 25 (0, 0)) ∧ WA.heap.size = wr.heap.size + 1) := Lib.hid (by rw [← hWA]; exact ⟨heap_alloc_new _ _, by simp⟩)
      have HWL : Hid (w.heap.size < wr.heap.size) := HOM0.out.lt
      have HOA := Lib.hid (ownsMap_same HOM0.out (HA.out.block w.heap.size HWL.out))
      have HLA : Hid (LayN w pb o t cur n F D WA.drew n0 F0 D0) := Lib.hid ((H0.out.on HA.out).on (Below.refl _ WA).drew)
      have q0 := cell_of_row _ wr.heap.size 0 _ _ _ HBA.out.1
      have q1 := cell_of_row _ wr.heap.size 1 _ _ _ HBA.out.1
      have q2 := cell_of_row _ wr.heap.size 2 _ _ _ HBA.out.1
      replace q0 : _ = some (Value.string l[k].name) := q0
      replace q1 : _ = some (Value.slice l[k].pa l[k].props.length l[k].pc) := q1
      replace q2 : _ = some (Value.slice l[k].ka l[k].kids.length l[k].kc) := q2
      have HNAT : Hid (¬ F0 wr.heap.size ∧ wr.heap.size ≠ pb) := Lib.hid ⟨fun e => by have := (H0.out.hF' _ e).2; omega, fun e => by have h1 := HPW.out; have h2 := HWL.out; omega⟩
      by_cases hmem : 0 ≤ idxOf (n0.kids.map Nd.name) l[k].name
      · obtain ⟨j, hje⟩ : ∃ j : Nat, idxOf (n0.kids.map Nd.name) l[k].name = (j : Int) := ⟨(idxOf (n0.kids.map Nd.name) l[k].name).toNat, by omega⟩
        have HHS : Hid (Maps.has Dm0 (keyL l[k].name) = true) := Lib.hid (by rw [(HFM0.out _).1]; simpa using hmem)
        have HATK := Lib.hid ((HFM0.out _).2 hmem)
        rw [hje] at HATK
        obtain ⟨hj1, hj2⟩ := idxOf_at _ _ _ hje
        have hj : j < n0.kids.length := by simpa using hj1
        have HUP : Hid (updK (fun x => mergeN (pureN l[k]) x) (pureN l[k]) (n0.kids.map pureN) = (n0.kids.map pureN).set j (mergeN (pureN l[k]) (pureN n0.kids[j]))) := Lib.hid (by
          obtain ⟨q, hq⟩ := updK_at (fun x => mergeN (pureN l[k]) x) (n0.kids.map pureN) (pureN l[k]) j (by rw [pure_knamesO, name_pure]; exact hje)
          rw [hq]
          congr 2
          rw [List.getElem_map])
        have HNMJ : Hid (l[k].name = n0.kids[j].name) := Lib.hid (hj2.symm.trans (List.getElem_map _))
        obtain ⟨gk, curk, Gi, eA, hFg, hgpb, hgW, hcap1, hcap2, hGi, hst, hdone⟩ := HLA.out.kid hj
        have HGK := Lib.hid (And.intro eA (And.intro hFg (And.intro hgpb hgW)))
        have HGI := Lib.hid hGi
        have HST := Lib.hid hst
        have HDN := Lib.hid hdone
        have zb := HLA.out.cells.2.1
        replace zb : _ = some (Value.slice n0.ka n0.kids.length n0.kc) := zb
        rw [eA] at zb
        have HZB := Lib.hid zb
        clear hmem hje hj1 hj2 eA hst hdone hGi hgW
        go_wp2_with (first | (at_lookup; refine look_hit _ rfl _ _ rfl w.heap.size _ _ rfl HOA.out _ _ rfl HK.out (j : Int) HHS.out HATK.out ?_) | fail)
        clear hWA
        refine wp_region_held_drew (S := fun V => V.cell? ⟨pb, o + 2, none⟩ = some (.slice (some ⟨gk, 0, none⟩) n0.kids.length n0.kc) ∧ V.cell? ⟨wr.heap.size, 0, none⟩ = some (.string l[k].name) ∧ V.cell? ⟨wr.heap.size, 1, none⟩ = some (.slice l[k].pa l[k].props.length l[k].pc) ∧ V.cell? ⟨wr.heap.size, 2, none⟩ = some (.slice l[k].ka l[k].kids.length l[k].kc)) (by kernel_rfl) (by exact ⟨HZB.out, q0, q1, q2⟩) (fun hHeld => ?_)
        refine held_take 0 rfl (by kernel_rfl) (by kernel_rfl) (by kernel_rfl) (fun _ _ _ h => h) (by rfl) hHeld (v := ?_) (fun w hSw => ?_) (fun _ => ?_)
        rotate_left
        · ((try dsimp only at hSw); go_simp; (try with_reducible rfl))
        simp only [Act.put, List.setIfInBounds_toArray, List.set_cons_zero, List.set_cons_succ]
        refine held_take 1 rfl (by kernel_rfl) (by kernel_rfl) (by kernel_rfl) (fun _ _ _ h => h) (by rfl) hHeld (v := ?_) (fun w hSw => ?_) (fun _ => ?_)
        rotate_left
        · ((try dsimp only at hSw); go_simp; (try with_reducible rfl))
        simp only [Act.put, List.setIfInBounds_toArray, List.set_cons_zero, List.set_cons_succ]
        refine held_take 2 rfl (by kernel_rfl) (by kernel_rfl) (by kernel_rfl) (fun _ _ _ h => h) (by rfl) hHeld (v := ?_) (fun w hSw => ?_) (fun _ => ?_)
        rotate_left
        · ((try dsimp only at hSw); go_simp; (try with_reducible rfl))
        simp only [Act.put, List.setIfInBounds_toArray, List.set_cons_zero, List.set_cons_succ]
        refine held_take 3 rfl (by kernel_rfl) (by kernel_rfl) (by kernel_rfl) (fun _ _ _ h => h) (by rfl) hHeld (v := ?_) (fun w hSw => ?_) (fun _ => ?_)
        rotate_left
        · ((try dsimp only at hSw); go_simp; (try with_reducible rfl))
        simp only [Act.put, List.setIfInBounds_toArray, List.set_cons_zero, List.set_cons_succ]
        refine held_take 4 rfl (by kernel_rfl) (by kernel_rfl) (by kernel_rfl) (fun _ _ _ h => h) (by rfl) hHeld (v := ?_) (fun w hSw => ?_) (fun _ => ?_)
        rotate_left
        · ((try dsimp only at hSw); go_simp; (try with_reducible rfl))
        simp only [Act.put, List.setIfInBounds_toArray, List.set_cons_zero, List.set_cons_succ]
        refine held_take 5 rfl (by kernel_rfl) (by kernel_rfl) (by kernel_rfl) (fun _ _ _ h => h) (by rfl) hHeld (v := ?_) (fun w hSw => ?_) (fun _ => ?_)
        rotate_left
        · ((try dsimp only at hSw); go_simp; (try with_reducible rfl))
        simp only [Act.put, List.setIfInBounds_toArray, List.set_cons_zero, List.set_cons_succ]
        refine held_take 6 rfl (by kernel_rfl) (by kernel_rfl) (by kernel_rfl) (fun _ _ _ h => h) (by rfl) hHeld (v := ?_) (fun w hSw => ?_) (fun _ => ?_)
        rotate_left
        · ((try dsimp only at hSw); go_simp; (try with_reducible rfl))
        simp only [Act.put, List.setIfInBounds_toArray, List.set_cons_zero, List.set_cons_succ]
        refine held_call 7 (by kernel_rfl) rfl (by rfl) (fun K hK => ?_)
        go_simp
        have HVD := Lib.hid (HV.out.1.on (HA.out.drew))
        have hAT : l[k].At (fun g => ¬ Gi g ∧ g ≠ gk) := Nd.At.mono (fun g e => ⟨fun e' => e.1.1 (HGI.out g e'), fun e' => e.1.1 (e' ▸ HGK.out.2.1)⟩) HV.out.2
        have hHP : hpN (pureN n0.kids[j]) + hpN (pureN l[k]) ≤ 1099511627776 := by
          have h1 := HSZ.out k hlt
          rw [← HKK.out] at h1
          have h2 := hpL_mem (List.mem_map.2 ⟨_, List.getElem_mem hj, rfl⟩ : pureN n0.kids[j] ∈ n0.kids.map pureN)
          omega
        refine (IH.out l[k] (List.getElem_mem hlt) gk (j * 3) _ curk n0.kids[j] Gi D0 WA.drew HST.out HVD.out hAT hHP).mono ?_
        rintro e w5 ⟨rfl, k', G', D', hl5, hp5⟩
        have HL5 := Lib.hid hl5
        have HP5 := Lib.hid hp5
        have HLK := Lib.hid (HDN.out w5 k' G' D' hl5)
        clear hl5 hp5 hAT hHP
        have z1 := (HL5.out.chg.cell (a := ⟨pb, o + 2, none⟩) HLA.out.pbW (fun e => e.elim (fun e => HLA.out.pbF' (HGI.out _ e)) (fun e => HGK.out.2.2.1 e.symm))).trans HZB.out
        have hx : ∀ i, w5.cell? ⟨wr.heap.size, i, none⟩ = WA.cell? ⟨wr.heap.size, i, none⟩ := fun i => HL5.out.chg.cell (a := ⟨wr.heap.size, i, none⟩) (by have := HBA.out.2; show wr.heap.size < WA.heap.size; omega) (fun e => e.elim (fun e => HNAT.out.1 (HGI.out _ e)) (fun e => by
          have e' : wr.heap.size = gk := e
          exact HNAT.out.1 (e' ▸ HGK.out.2.1)))
        dsimp only
        refine hK.out _ _ ⟨z1, (hx 0).trans q0, (hx 1).trans q1, (hx 2).trans q2⟩ (fun hHeld => ?_)
        clear hK K
        refine wpAnyH_done (by kernel_rfl) ?_ _
        clear hHeld z1 hx q0 q1 q2
        go_wp2
        go_roundw
        case rel =>
          refine ⟨k + 1, by omega, by go_num, _, _, D', Dm0, HLK.out, HPP.out, ?_, ?_, ?_, fun e => ?_, fun e => ?_⟩
          · show (n0.kids.set j k').map pureN = _
            rw [mergeL_next l k hlt, ← HKK.out, HUP.out, List.map_set, HP5.out]
          · show FirstsM ((n0.kids.set j k').map Nd.name) Dm0
            rw [set_knames hj HL5.out.name]
            exact HFM0.out
          · show w5.ownsMap _ _ _ _ (n0.kids.set j k').length _
            rw [List.length_set]
            exact ownsMap_same HOA.out (HL5.out.chg.block w.heap.size (by have h1 := HBA.out.2; have h2 := HWL.out; show w.heap.size < WA.heap.size; omega) (fun e => e.elim (fun e => HMF0.out (HGI.out _ e)) (fun e => HMF0.out (e ▸ HGK.out.2.1))))
          · rcases e with e | e
            · exact HMF0.out e
            · rcases (HL5.out.hF' _ e).1 with e | e
              · exact HMF0.out (HGI.out _ e)
              · have h1 := HBA.out.2
                have h2 := HWL.out
                have e' : WA.heap.size ≤ w.heap.size := e
                omega
          · rcases (HL5.out.hD' _ e).1 with e | e
            · exact HMD0.out e
            · have h1 := HBA.out.2
              have h2 := HWL.out
              have e' : WA.heap.size ≤ w.heap.size := e
              omega
        case measure => simp [intOf]; omega
      · have HHS : Hid (Maps.has Dm0 (keyL l[k].name) = false) := Lib.hid (by rw [(HFM0.out _).1]; simpa using hmem)
        have hidx : idxOf (n0.kids.map Nd.name) l[k].name < 0 := by omega
        have HFP := Lib.hid (firstsM_put HFM0.out HOM0.out.isMap hidx)
        have HUP : Hid (updK (fun x => mergeN (pureN l[k]) x) (pureN l[k]) (n0.kids.map pureN) = n0.kids.map pureN ++ [pureN l[k]]) := Lib.hid (updK_none _ _ _ (by rw [pure_knamesO, name_pure]; exact hidx))
        have zb := HLA.out.cells.2.1
        replace zb : WA.cell? ⟨pb, o + 2, none⟩ = some (Value.slice n0.ka n0.kids.length n0.kc) := zb
        have HZB := Lib.hid zb
        have hsp := HSP.out
        clear hmem hidx
        go_wp2_with (first | (at_lookup; refine look_miss _ rfl _ _ rfl w.heap.size _ _ rfl HOA.out _ _ rfl HK.out HHS.out ?_) | fail)
        clear hWA
        obtain ⟨w3, hrun, hown3, hgrow3⟩ := (show WA.drew.ownsMap Try.prog 9 (plainElem Try.prog 3) w.heap.size n0.kids.length Dm0 from HOA.out).update lawS Try.underlying48 (by unfold maxLen; omega) HK.out (elemI (by omega : (0 : Int) ≤ (n0.kids.length : Int)) (by omega))
        have HRUN := Lib.hid hrun
        have HO3 := Lib.hid hown3
        have HG3 := Lib.hid hgrow3
        clear hrun hown3 hgrow3
        have HWN : Hid (wr.heap.size ≠ w.heap.size) := Lib.hid (by have := HWL.out; omega)
        have HWPB : Hid (pb ≠ w.heap.size) := Lib.hid (by have := HPW.out; omega)
        have HX3 : Hid (w3.heap[wr.heap.size]? = some (.cells #[Value.string l[k].name, .slice l[k].pa l[k].props.length l[k].pc, .slice l[k].ka l[k].kids.length l[k].kc] 25 (0, 0)) ∧ wr.heap.size < w3.heap.size) := Lib.hid ⟨(HG3.out.block wr.heap.size (by have := HBA.out.2; show wr.heap.size < WA.heap.size; omega) (fun e => HWN.out (by injection e))).trans HBA.out.1, by have h1 := HBA.out.2; have h2 := HG3.out.size; have h3 : WA.drew.heap.size = WA.heap.size := rfl; omega⟩
        have HL3 : Hid (LayN w pb o t cur n F D w3 n0 F0 D0) := Lib.hid (HLA.out.kept (Chg.ofGrown (F := fun g => g = w.heap.size) HG3.out (fun g e => by injection e with e; exact e.symm)) (fun g e => by
          subst e
          exact ⟨Nat.le_refl _, HMF0.out, HMD0.out⟩))
        have HV3 : Hid (l[k].In w3 w3.heap.size) := Lib.hid (HL3.out.arg (HLI.out _ (List.getElem_mem hlt)).1 (HLI.out _ (List.getElem_mem hlt)).2).1
        have zb3 := HL3.out.cells.2.1
        replace zb3 : w3.cell? ⟨pb, o + 2, none⟩ = some (Value.slice n0.ka n0.kids.length n0.kc) := zb3
        have HZ3 := Lib.hid zb3
        have q30 := cell_of_row _ wr.heap.size 0 _ _ _ HX3.out.1
        have q31 := cell_of_row _ wr.heap.size 1 _ _ _ HX3.out.1
        have q32 := cell_of_row _ wr.heap.size 2 _ _ _ HX3.out.1
        replace q30 : _ = some (Value.string l[k].name) := q30
        replace q31 : _ = some (Value.slice l[k].pa l[k].props.length l[k].pc) := q31
        replace q32 : _ = some (Value.slice l[k].ka l[k].kids.length l[k].kc) := q32
        refine wp_region_held_drew (S := fun V => V.cell? ⟨pb, o + 2, none⟩ = some (.slice n0.ka n0.kids.length n0.kc) ∧ V.cell? ⟨wr.heap.size, 0, none⟩ = some (.string l[k].name)) (by kernel_rfl) (by exact ⟨HZB.out, q0⟩) (fun hHeld => ?_)
        refine held_take 0 rfl (by kernel_rfl) (by kernel_rfl) (by kernel_rfl) (fun _ _ _ h => h) (by rfl) hHeld (v := ?_) (fun w hSw => ?_) (fun _ => ?_)
        rotate_left
        · ((try dsimp only at hSw); go_simp; (try with_reducible rfl))
        simp only [Act.put, List.setIfInBounds_toArray, List.set_cons_zero, List.set_cons_succ]
        refine held_take 1 rfl (by kernel_rfl) (by kernel_rfl) (by kernel_rfl) (fun _ _ _ h => h) (by rfl) hHeld (v := ?_) (fun w hSw => ?_) (fun _ => ?_)
        rotate_left
        · ((try dsimp only at hSw); go_simp; (try with_reducible rfl))
        simp only [Act.put, List.setIfInBounds_toArray, List.set_cons_zero, List.set_cons_succ]
        refine held_take 2 rfl (by kernel_rfl) (by kernel_rfl) (by kernel_rfl) (fun _ _ _ h => h) (by rfl) hHeld (v := ?_) (fun w hSw => ?_) (fun _ => ?_)
        rotate_left
        · ((try dsimp only at hSw); go_simp; (try with_reducible rfl))
        simp only [Act.put, List.setIfInBounds_toArray, List.set_cons_zero, List.set_cons_succ]
        refine held_take 3 rfl (by kernel_rfl) (by kernel_rfl) (by kernel_rfl) (fun _ _ _ h => h) (by rfl) hHeld (v := ?_) (fun w hSw => ?_) (fun _ => ?_)
        rotate_left
        · ((try dsimp only at hSw); go_simp; (try with_reducible rfl))
        simp only [Act.put, List.setIfInBounds_toArray, List.set_cons_zero, List.set_cons_succ]
        refine held_take 4 rfl (by kernel_rfl) (by kernel_rfl) (by kernel_rfl) (fun _ _ _ h => h) (by rfl) hHeld (v := ?_) (fun w hSw => ?_) (fun _ => ?_)
        rotate_left
        · ((try dsimp only at hSw); go_simp; (try with_reducible rfl))
        simp only [Act.put, List.setIfInBounds_toArray, List.set_cons_zero, List.set_cons_succ]
        refine held_take 5 rfl (by kernel_rfl) (by kernel_rfl) (by kernel_rfl) (fun _ _ _ h => h) (by rfl) hHeld (v := ?_) (fun w hSw => ?_) (fun _ => ?_)
        rotate_left
        · ((try dsimp only at hSw); go_simp; (try with_reducible rfl))
        simp only [Act.put, List.setIfInBounds_toArray, List.set_cons_zero, List.set_cons_succ]
        refine held_take 6 rfl (by kernel_rfl) (by kernel_rfl) (by kernel_rfl) (fun _ _ _ h => h) (by rfl) hHeld (v := ?_) (fun w hSw => ?_) (fun _ => ?_)
        rotate_left
        · ((try dsimp only at hSw); go_simp; (try with_reducible rfl))
        simp only [Act.put, List.setIfInBounds_toArray, List.set_cons_zero, List.set_cons_succ]
        refine held_take 7 rfl (by kernel_rfl) (by kernel_rfl) (by kernel_rfl) (fun _ _ _ h => h) (by rfl) hHeld (v := ?_) (fun w hSw => ?_) (fun _ => ?_)
        rotate_left
        · ((try dsimp only at hSw); go_simp; (try with_reducible rfl))
        simp only [Act.put, List.setIfInBounds_toArray, List.set_cons_zero, List.set_cons_succ]
        refine held_call 8 (by kernel_rfl) rfl (by rfl) (fun K hK => ?_)
        refine wp_mapUpdate_run _ _ _ _ _ rfl _ _ _ rfl rfl rfl HRUN.out ?_
        refine hK.out _ _ ⟨HZ3.out, q30⟩ (fun hHeld => ?_)
        clear hK K
        refine wpAnyH_done (by kernel_rfl) ?_ _
        clear hHeld q0 q1 q2 zb
        go_wp2_with fail
        refine wp_region_held_drew (S := fun V => V.cell? ⟨wr.heap.size, 0, none⟩ = some (.string l[k].name) ∧ V.cell? ⟨wr.heap.size, 1, none⟩ = some (.slice l[k].pa l[k].props.length l[k].pc) ∧ V.cell? ⟨wr.heap.size, 2, none⟩ = some (.slice l[k].ka l[k].kids.length l[k].kc)) (by kernel_rfl) (by exact ⟨q30, q31, q32⟩) (fun hHeld => ?_)
        refine held_take 0 rfl (by kernel_rfl) (by kernel_rfl) (by kernel_rfl) (fun _ _ _ h => h) (by rfl) hHeld (v := ?_) (fun w hSw => ?_) (fun _ => ?_)
        rotate_left
        · ((try dsimp only at hSw); go_simp; (try with_reducible rfl))
        simp only [Act.put, List.setIfInBounds_toArray, List.set_cons_zero, List.set_cons_succ]
        refine held_take 1 rfl (by kernel_rfl) (by kernel_rfl) (by kernel_rfl) (fun _ _ _ h => h) (by rfl) hHeld (v := ?_) (fun w hSw => ?_) (fun _ => ?_)
        rotate_left
        · ((try dsimp only at hSw); go_simp; (try with_reducible rfl))
        simp only [Act.put, List.setIfInBounds_toArray, List.set_cons_zero, List.set_cons_succ]
        refine held_take 2 rfl (by kernel_rfl) (by kernel_rfl) (by kernel_rfl) (fun _ _ _ h => h) (by rfl) hHeld (v := ?_) (fun w hSw => ?_) (fun _ => ?_)
        rotate_left
        · ((try dsimp only at hSw); go_simp; (try with_reducible rfl))
        simp only [Act.put, List.setIfInBounds_toArray, List.set_cons_zero, List.set_cons_succ]
        refine held_take 4 rfl (by kernel_rfl) (by kernel_rfl) (by kernel_rfl) (fun _ _ _ h => h) (by rfl) hHeld (v := ?_) (fun w hSw => ?_) (fun _ => ?_)
        rotate_left
        · ((try dsimp only at hSw); go_simp; (try with_reducible rfl))
        simp only [Act.put, List.setIfInBounds_toArray, List.set_cons_zero, List.set_cons_succ]
        have HSB : Hid (∀ V : World, V.heap[wr.heap.size]? = w3.heap[wr.heap.size]? → V.cell? ⟨wr.heap.size, 0, none⟩ = some (.string l[k].name) ∧ V.cell? ⟨wr.heap.size, 1, none⟩ = some (.slice l[k].pa l[k].props.length l[k].pc) ∧ V.cell? ⟨wr.heap.size, 2, none⟩ = some (.slice l[k].ka l[k].kids.length l[k].kc)) := fun V hV =>
          ⟨(World.cell?_of_block (a := ⟨wr.heap.size, 0, none⟩) hV).trans q30, (World.cell?_of_block (a := ⟨wr.heap.size, 1, none⟩) hV).trans q31, (World.cell?_of_block (a := ⟨wr.heap.size, 2, none⟩) hV).trans q32⟩
        have HCL := Lib.hid (cloneNode_own l[k])
        have HSS := Lib.hid (HSB.out w3 rfl)
        have HBZ : Hid (Below w3.heap.size w3 (w3.alloc (.cells #[Value.string ⟨#[]⟩, .slice none 0 0, .slice none 0 0] 25))) := Lib.hid ((Below.refl _ _).alloc (Nat.le_refl _) _)
        have HSA := Lib.hid (HSB.out (w3.alloc (.cells #[Value.string ⟨#[]⟩, .slice none 0 0, .slice none 0 0] 25)) (HBZ.out.block _ HX3.out.2))
        have zba : (w3.alloc (.cells #[Value.string ⟨#[]⟩, .slice none 0 0, .slice none 0 0] 25)).cell? ⟨pb, o + 2, none⟩ = some (.slice n0.ka n0.kids.length n0.kc) := Lib.cell?_alloc_some _ HZ3.out
        have HZA := Lib.hid zba
        clear zba q30 q31 q32 zb3
        apply cutK (C := fun W5 gz a b c d e f i Fk Dk => LayN w pb o t cur n F D W5 n0 F0 D0 ∧ Own W5 Fk Dk (.mk a b c d e f i) ∧ (∀ g, Fk g → w.heap.size ≤ g ∧ g < W5.heap.size ∧ ¬ F0 g ∧ ¬ D0 g ∧ ¬ Dk g) ∧ (∀ g, Dk g → w.heap.size ≤ g ∧ g < W5.heap.size ∧ ¬ F0 g) ∧ (∀ g, g < w3.heap.size → W5.heap[g]? = w3.heap[g]? ∧ ¬ Fk g ∧ ¬ Dk g) ∧ W5.heap[gz]? = some (.cells #[Value.string ⟨#[]⟩, .slice none 0 0, .slice none 0 0] 25 (0, 0)) ∧ pureN (.mk a b c d e f i) = pureN l[k])
        case h =>
          intro key
          refine held_three 3 5 7 (by kernel_rfl) rfl rfl rfl (by rfl) (by rfl) (by rfl) (fun K hK => ?_) (fun K hK => ?_) (fun K hK => ?_)
          · have zb3 := HZ3.out
            go_simp
            refine hK.out _ _ HSS.out (fun hHeld => ?_)
            clear hK K zb3
            (try simp only [Act.put, List.setIfInBounds_toArray, List.set_cons_zero, List.set_cons_succ])
            refine held_take 6 rfl (by kernel_rfl) (by kernel_rfl) (by kernel_rfl) (fun _ _ _ h => h) (by rfl) hHeld (v := ?_) (fun w hSw => ?_) (fun _ => ?_)
            rotate_left
            · ((try dsimp only at hSw); go_simp; (try with_reducible rfl))
            simp only [Act.put, List.setIfInBounds_toArray, List.set_cons_zero, List.set_cons_succ]
            refine held_two 5 7 (by kernel_rfl) rfl rfl (by rfl) (by rfl) (fun K hK => ?_) (fun K hK => ?_)
            · go_simp
              refine (HCL.out w3.drew (by exact HV3.out.on (Below.refl _ _).drew)).mono ?_
              rintro e w4 ⟨m, Fk, Dk, rfl, hp4, ho4, hF4, hD4, hb4⟩
              have HP4 := Lib.hid hp4
              have HO4 := Lib.hid ho4
              have HF4 := Lib.hid hF4
              have HD4 := Lib.hid hD4
              have HB4 : Hid (Below w3.heap.size w3 w4) := Lib.hid ((Below.refl w3.heap.size w3).drew.trans hb4)
              have HS4 := Lib.hid (HSB.out w4 (HB4.out.block _ HX3.out.2))
              have HS4a : Hid ((w4.alloc (.cells #[Value.string ⟨#[]⟩, .slice none 0 0, .slice none 0 0] 25)).cell? ⟨wr.heap.size, 0, none⟩ = some (.string l[k].name) ∧ (w4.alloc (.cells #[Value.string ⟨#[]⟩, .slice none 0 0, .slice none 0 0] 25)).cell? ⟨wr.heap.size, 1, none⟩ = some (.slice l[k].pa l[k].props.length l[k].pc) ∧ (w4.alloc (.cells #[Value.string ⟨#[]⟩, .slice none 0 0, .slice none 0 0] 25)).cell? ⟨wr.heap.size, 2, none⟩ = some (.slice l[k].ka l[k].kids.length l[k].kc)) := Lib.hid ⟨Lib.cell?_alloc_some _ HS4.out.1, Lib.cell?_alloc_some _ HS4.out.2.1, Lib.cell?_alloc_some _ HS4.out.2.2⟩
              have HZ4 : Hid (w4.cell? ⟨pb, o + 2, none⟩ = some (.slice n0.ka n0.kids.length n0.kc)) := Lib.hid ((HB4.out.cell (p := ⟨pb, o + 2, none⟩) HL3.out.pbW).trans HZ3.out)
              have HZ4a : Hid ((w4.alloc (.cells #[Value.string ⟨#[]⟩, .slice none 0 0, .slice none 0 0] 25)).cell? ⟨pb, o + 2, none⟩ = some (.slice n0.ka n0.kids.length n0.kc)) := Lib.hid (Lib.cell?_alloc_some _ HZ4.out)
              clear hp4 ho4 hF4 hD4 hb4
              obtain ⟨mn, mpa, mpc, mps, mka, mkc, mks⟩ := m
              simp only [nd_val]
              refine hK.out _ _ HS4.out (fun hHeld => ?_)
              clear hK K
              (try simp only [Act.put, List.setIfInBounds_toArray, List.set_cons_zero, List.set_cons_succ])
              refine held_call 7 (by kernel_rfl) rfl (by rfl) (fun K hK => ?_)
              go_simp
              refine hK.out _ _ HS4a.out (fun hHeld => ?_)
              clear hK K
              (try simp only [Act.put, List.setIfInBounds_toArray, List.set_cons_zero, List.set_cons_succ])
              have hfin := lay_clone HL3.out HB4.out HO4.out HF4.out HD4.out ((Below.refl w4.heap.size w4).alloc (Nat.le_refl _) (.cells #[Value.string ⟨#[]⟩, .slice none 0 0, .slice none 0 0] 25))
              have hzz := heap_alloc_new w4 (.cells #[Value.string ⟨#[]⟩, .slice none 0 0, .slice none 0 0] 25)
              obtain ⟨W5, hW5⟩ : ∃ W5, w4.alloc (.cells #[Value.string ⟨#[]⟩, .slice none 0 0, .slice none 0 0] 25) = W5 := ⟨_, rfl⟩
              obtain ⟨gz, hgz⟩ : ∃ gz, w4.heap.size = gz := ⟨_, rfl⟩
              rw [hW5, hgz] at hzz
              rw [hW5] at hfin
              rw [hW5, hgz]
              exact key W5 gz mn mpa mpc mps mka mkc mks Fk Dk ⟨hfin.1, hfin.2.1, hfin.2.2.1, hfin.2.2.2.1, hfin.2.2.2.2, hzz, HP4.out⟩
            · go_simp
              refine hK.out _ _ HSA.out (fun hHeld => ?_)
              clear hK K
              (try simp only [Act.put, List.setIfInBounds_toArray, List.set_cons_zero, List.set_cons_succ])
              refine held_call 5 (by kernel_rfl) rfl (by rfl) (fun K hK => ?_)
              go_simp
              refine (HCL.out (w3.alloc (.cells #[Value.string ⟨#[]⟩, .slice none 0 0, .slice none 0 0] 25)).drew (by exact (HV3.out.on HBZ.out).on (Below.refl _ _).drew)).mono ?_
              rintro e w4 ⟨m, Fk, Dk, rfl, hp4, ho4, hF4, hD4, hb4⟩
              have HP4 := Lib.hid hp4
              have HO4 := Lib.hid ho4
              have HF4 := Lib.hid hF4
              have HD4 := Lib.hid hD4
              have HB4 : Hid (Below (w3.alloc (.cells #[Value.string ⟨#[]⟩, .slice none 0 0, .slice none 0 0] 25)).heap.size (w3.alloc (.cells #[Value.string ⟨#[]⟩, .slice none 0 0, .slice none 0 0] 25)) w4) := Lib.hid ((Below.refl _ _).drew.trans hb4)
              have HS4 := Lib.hid (HSB.out w4 ((HB4.out.block _ (by have := HX3.out.2; simp; omega)).trans (HBZ.out.block _ HX3.out.2)))
              have HZ4 : Hid (w4.cell? ⟨pb, o + 2, none⟩ = some (.slice n0.ka n0.kids.length n0.kc)) := Lib.hid ((HB4.out.cell (p := ⟨pb, o + 2, none⟩) (by have := HL3.out.pbW; simp; omega)).trans HZA.out)
              clear hp4 ho4 hF4 hD4 hb4
              obtain ⟨mn, mpa, mpc, mps, mka, mkc, mks⟩ := m
              simp only [nd_val]
              refine hK.out _ _ HS4.out (fun hHeld => ?_)
              clear hK K
              (try simp only [Act.put, List.setIfInBounds_toArray, List.set_cons_zero, List.set_cons_succ])
              have hfin := lay_clone (HL3.out.on HBZ.out) HB4.out HO4.out HF4.out HD4.out (Below.refl w4.heap.size w4)
              have hzz := (HB4.out.block w3.heap.size (by simp)).trans (heap_alloc_new w3 (.cells #[Value.string ⟨#[]⟩, .slice none 0 0, .slice none 0 0] 25))
              have hlow : ∀ g, g < w3.heap.size → w4.heap[g]? = w3.heap[g]? ∧ ¬ Fk g ∧ ¬ Dk g := fun g hg => by
                have h1 := hfin.2.2.2.2 g (by simp; omega)
                exact ⟨h1.1.trans (HBZ.out.block g hg), h1.2⟩
              obtain ⟨gz, hgz⟩ : ∃ gz, w3.heap.size = gz := ⟨_, rfl⟩
              rw [hgz] at hzz
              rw [hgz]
              exact key w4 gz mn mpa mpc mps mka mkc mks Fk Dk ⟨hfin.1, hfin.2.1, hfin.2.2.1, hfin.2.2.2.1, hlow, hzz, HP4.out⟩
          · go_simp
            refine (HCL.out w3.drew (by exact HV3.out.on (Below.refl _ _).drew)).mono ?_
            rintro e w4 ⟨m, Fk, Dk, rfl, hp4, ho4, hF4, hD4, hb4⟩
            have HP4 := Lib.hid hp4
            have HO4 := Lib.hid ho4
            have HF4 := Lib.hid hF4
            have HD4 := Lib.hid hD4
            have HB4 : Hid (Below w3.heap.size w3 w4) := Lib.hid ((Below.refl w3.heap.size w3).drew.trans hb4)
            have HS4 := Lib.hid (HSB.out w4 (HB4.out.block _ HX3.out.2))
            have HS4a : Hid ((w4.alloc (.cells #[Value.string ⟨#[]⟩, .slice none 0 0, .slice none 0 0] 25)).cell? ⟨wr.heap.size, 0, none⟩ = some (.string l[k].name) ∧ (w4.alloc (.cells #[Value.string ⟨#[]⟩, .slice none 0 0, .slice none 0 0] 25)).cell? ⟨wr.heap.size, 1, none⟩ = some (.slice l[k].pa l[k].props.length l[k].pc) ∧ (w4.alloc (.cells #[Value.string ⟨#[]⟩, .slice none 0 0, .slice none 0 0] 25)).cell? ⟨wr.heap.size, 2, none⟩ = some (.slice l[k].ka l[k].kids.length l[k].kc)) := Lib.hid ⟨Lib.cell?_alloc_some _ HS4.out.1, Lib.cell?_alloc_some _ HS4.out.2.1, Lib.cell?_alloc_some _ HS4.out.2.2⟩
            have HZ4 : Hid (w4.cell? ⟨pb, o + 2, none⟩ = some (.slice n0.ka n0.kids.length n0.kc)) := Lib.hid ((HB4.out.cell (p := ⟨pb, o + 2, none⟩) HL3.out.pbW).trans HZ3.out)
            have HZ4a : Hid ((w4.alloc (.cells #[Value.string ⟨#[]⟩, .slice none 0 0, .slice none 0 0] 25)).cell? ⟨pb, o + 2, none⟩ = some (.slice n0.ka n0.kids.length n0.kc)) := Lib.hid (Lib.cell?_alloc_some _ HZ4.out)
            clear hp4 ho4 hF4 hD4 hb4
            obtain ⟨mn, mpa, mpc, mps, mka, mkc, mks⟩ := m
            simp only [nd_val]
            refine hK.out _ _ HS4.out (fun hHeld => ?_)
            clear hK K
            (try simp only [Act.put, List.setIfInBounds_toArray, List.set_cons_zero, List.set_cons_succ])
            refine held_two 3 7 (by kernel_rfl) rfl rfl (by rfl) (by rfl) (fun K hK => ?_) (fun K hK => ?_)
            · have zb4 := HZ4.out
              go_simp
              refine hK.out _ _ HS4.out (fun hHeld => ?_)
              clear hK K zb4
              (try simp only [Act.put, List.setIfInBounds_toArray, List.set_cons_zero, List.set_cons_succ])
              refine held_take 6 rfl (by kernel_rfl) (by kernel_rfl) (by kernel_rfl) (fun _ _ _ h => h) (by rfl) hHeld (v := ?_) (fun w hSw => ?_) (fun _ => ?_)
              rotate_left
              · ((try dsimp only at hSw); go_simp; (try with_reducible rfl))
              simp only [Act.put, List.setIfInBounds_toArray, List.set_cons_zero, List.set_cons_succ]
              refine held_call 7 (by kernel_rfl) rfl (by rfl) (fun K hK => ?_)
              go_simp
              refine hK.out _ _ HS4a.out (fun hHeld => ?_)
              clear hK K
              (try simp only [Act.put, List.setIfInBounds_toArray, List.set_cons_zero, List.set_cons_succ])
              have hfin := lay_clone HL3.out HB4.out HO4.out HF4.out HD4.out ((Below.refl w4.heap.size w4).alloc (Nat.le_refl _) (.cells #[Value.string ⟨#[]⟩, .slice none 0 0, .slice none 0 0] 25))
              have hzz := heap_alloc_new w4 (.cells #[Value.string ⟨#[]⟩, .slice none 0 0, .slice none 0 0] 25)
              obtain ⟨W5, hW5⟩ : ∃ W5, w4.alloc (.cells #[Value.string ⟨#[]⟩, .slice none 0 0, .slice none 0 0] 25) = W5 := ⟨_, rfl⟩
              obtain ⟨gz, hgz⟩ : ∃ gz, w4.heap.size = gz := ⟨_, rfl⟩
              rw [hW5, hgz] at hzz
              rw [hW5] at hfin
              rw [hW5, hgz]
              exact key W5 gz mn mpa mpc mps mka mkc mks Fk Dk ⟨hfin.1, hfin.2.1, hfin.2.2.1, hfin.2.2.2.1, hfin.2.2.2.2, hzz, HP4.out⟩
            · go_simp
              refine hK.out _ _ HS4a.out (fun hHeld => ?_)
              clear hK K
              (try simp only [Act.put, List.setIfInBounds_toArray, List.set_cons_zero, List.set_cons_succ])
              have zb4 := HZ4a.out
              refine held_call 3 (by kernel_rfl) rfl (by rfl) (fun K hK => ?_)
              go_simp
              refine hK.out _ _ HS4a.out (fun hHeld => ?_)
              clear hK K zb4
              (try simp only [Act.put, List.setIfInBounds_toArray, List.set_cons_zero, List.set_cons_succ])
              refine held_take 6 rfl (by kernel_rfl) (by kernel_rfl) (by kernel_rfl) (fun _ _ _ h => h) (by rfl) hHeld (v := ?_) (fun w hSw => ?_) (fun _ => ?_)
              rotate_left
              · ((try dsimp only at hSw); go_simp; (try with_reducible rfl))
              simp only [Act.put, List.setIfInBounds_toArray, List.set_cons_zero, List.set_cons_succ]
              have hfin := lay_clone HL3.out HB4.out HO4.out HF4.out HD4.out ((Below.refl w4.heap.size w4).alloc (Nat.le_refl _) (.cells #[Value.string ⟨#[]⟩, .slice none 0 0, .slice none 0 0] 25))
              have hzz := heap_alloc_new w4 (.cells #[Value.string ⟨#[]⟩, .slice none 0 0, .slice none 0 0] 25)
              obtain ⟨W5, hW5⟩ : ∃ W5, w4.alloc (.cells #[Value.string ⟨#[]⟩, .slice none 0 0, .slice none 0 0] 25) = W5 := ⟨_, rfl⟩
              obtain ⟨gz, hgz⟩ : ∃ gz, w4.heap.size = gz := ⟨_, rfl⟩
              rw [hW5, hgz] at hzz
              rw [hW5] at hfin
              rw [hW5, hgz]
              exact key W5 gz mn mpa mpc mps mka mkc mks Fk Dk ⟨hfin.1, hfin.2.1, hfin.2.2.1, hfin.2.2.2.1, hfin.2.2.2.2, hzz, HP4.out⟩
          · go_simp
            refine hK.out _ _ HSA.out (fun hHeld => ?_)
            clear hK K
            (try simp only [Act.put, List.setIfInBounds_toArray, List.set_cons_zero, List.set_cons_succ])
            refine held_two 3 5 (by kernel_rfl) rfl rfl (by rfl) (by rfl) (fun K hK => ?_) (fun K hK => ?_)
            · have zba := HZA.out
              go_simp
              refine hK.out _ _ HSA.out (fun hHeld => ?_)
              clear hK K zba
              (try simp only [Act.put, List.setIfInBounds_toArray, List.set_cons_zero, List.set_cons_succ])
              refine held_take 6 rfl (by kernel_rfl) (by kernel_rfl) (by kernel_rfl) (fun _ _ _ h => h) (by rfl) hHeld (v := ?_) (fun w hSw => ?_) (fun _ => ?_)
              rotate_left
              · ((try dsimp only at hSw); go_simp; (try with_reducible rfl))
              simp only [Act.put, List.setIfInBounds_toArray, List.set_cons_zero, List.set_cons_succ]
              refine held_call 5 (by kernel_rfl) rfl (by rfl) (fun K hK => ?_)
              go_simp
              refine (HCL.out (w3.alloc (.cells #[Value.string ⟨#[]⟩, .slice none 0 0, .slice none 0 0] 25)).drew (by exact (HV3.out.on HBZ.out).on (Below.refl _ _).drew)).mono ?_
              rintro e w4 ⟨m, Fk, Dk, rfl, hp4, ho4, hF4, hD4, hb4⟩
              have HP4 := Lib.hid hp4
              have HO4 := Lib.hid ho4
              have HF4 := Lib.hid hF4
              have HD4 := Lib.hid hD4
              have HB4 : Hid (Below (w3.alloc (.cells #[Value.string ⟨#[]⟩, .slice none 0 0, .slice none 0 0] 25)).heap.size (w3.alloc (.cells #[Value.string ⟨#[]⟩, .slice none 0 0, .slice none 0 0] 25)) w4) := Lib.hid ((Below.refl _ _).drew.trans hb4)
              have HS4 := Lib.hid (HSB.out w4 ((HB4.out.block _ (by have := HX3.out.2; simp; omega)).trans (HBZ.out.block _ HX3.out.2)))
              have HZ4 : Hid (w4.cell? ⟨pb, o + 2, none⟩ = some (.slice n0.ka n0.kids.length n0.kc)) := Lib.hid ((HB4.out.cell (p := ⟨pb, o + 2, none⟩) (by have := HL3.out.pbW; simp; omega)).trans HZA.out)
              clear hp4 ho4 hF4 hD4 hb4
              obtain ⟨mn, mpa, mpc, mps, mka, mkc, mks⟩ := m
              simp only [nd_val]
              refine hK.out _ _ HS4.out (fun hHeld => ?_)
              clear hK K
              (try simp only [Act.put, List.setIfInBounds_toArray, List.set_cons_zero, List.set_cons_succ])
              have hfin := lay_clone (HL3.out.on HBZ.out) HB4.out HO4.out HF4.out HD4.out (Below.refl w4.heap.size w4)
              have hzz := (HB4.out.block w3.heap.size (by simp)).trans (heap_alloc_new w3 (.cells #[Value.string ⟨#[]⟩, .slice none 0 0, .slice none 0 0] 25))
              have hlow : ∀ g, g < w3.heap.size → w4.heap[g]? = w3.heap[g]? ∧ ¬ Fk g ∧ ¬ Dk g := fun g hg => by
                have h1 := hfin.2.2.2.2 g (by simp; omega)
                exact ⟨h1.1.trans (HBZ.out.block g hg), h1.2⟩
              obtain ⟨gz, hgz⟩ : ∃ gz, w3.heap.size = gz := ⟨_, rfl⟩
              rw [hgz] at hzz
              rw [hgz]
              exact key w4 gz mn mpa mpc mps mka mkc mks Fk Dk ⟨hfin.1, hfin.2.1, hfin.2.2.1, hfin.2.2.2.1, hlow, hzz, HP4.out⟩
            · go_simp
              refine (HCL.out (w3.alloc (.cells #[Value.string ⟨#[]⟩, .slice none 0 0, .slice none 0 0] 25)).drew (by exact (HV3.out.on HBZ.out).on (Below.refl _ _).drew)).mono ?_
              rintro e w4 ⟨m, Fk, Dk, rfl, hp4, ho4, hF4, hD4, hb4⟩
              have HP4 := Lib.hid hp4
              have HO4 := Lib.hid ho4
              have HF4 := Lib.hid hF4
              have HD4 := Lib.hid hD4
              have HB4 : Hid (Below (w3.alloc (.cells #[Value.string ⟨#[]⟩, .slice none 0 0, .slice none 0 0] 25)).heap.size (w3.alloc (.cells #[Value.string ⟨#[]⟩, .slice none 0 0, .slice none 0 0] 25)) w4) := Lib.hid ((Below.refl _ _).drew.trans hb4)
              have HS4 := Lib.hid (HSB.out w4 ((HB4.out.block _ (by have := HX3.out.2; simp; omega)).trans (HBZ.out.block _ HX3.out.2)))
              have HZ4 : Hid (w4.cell? ⟨pb, o + 2, none⟩ = some (.slice n0.ka n0.kids.length n0.kc)) := Lib.hid ((HB4.out.cell (p := ⟨pb, o + 2, none⟩) (by have := HL3.out.pbW; simp; omega)).trans HZA.out)
              clear hp4 ho4 hF4 hD4 hb4
              obtain ⟨mn, mpa, mpc, mps, mka, mkc, mks⟩ := m
              simp only [nd_val]
              refine hK.out _ _ HS4.out (fun hHeld => ?_)
              clear hK K
              (try simp only [Act.put, List.setIfInBounds_toArray, List.set_cons_zero, List.set_cons_succ])
              have zb4 := HZ4.out
              refine held_call 3 (by kernel_rfl) rfl (by rfl) (fun K hK => ?_)
              go_simp
              refine hK.out _ _ HS4.out (fun hHeld => ?_)
              clear hK K zb4
              (try simp only [Act.put, List.setIfInBounds_toArray, List.set_cons_zero, List.set_cons_succ])
              refine held_take 6 rfl (by kernel_rfl) (by kernel_rfl) (by kernel_rfl) (fun _ _ _ h => h) (by rfl) hHeld (v := ?_) (fun w hSw => ?_) (fun _ => ?_)
              rotate_left
              · ((try dsimp only at hSw); go_simp; (try with_reducible rfl))
              simp only [Act.put, List.setIfInBounds_toArray, List.set_cons_zero, List.set_cons_succ]
              have hfin := lay_clone (HL3.out.on HBZ.out) HB4.out HO4.out HF4.out HD4.out (Below.refl w4.heap.size w4)
              have hzz := (HB4.out.block w3.heap.size (by simp)).trans (heap_alloc_new w3 (.cells #[Value.string ⟨#[]⟩, .slice none 0 0, .slice none 0 0] 25))
              have hlow : ∀ g, g < w3.heap.size → w4.heap[g]? = w3.heap[g]? ∧ ¬ Fk g ∧ ¬ Dk g := fun g hg => by
                have h1 := hfin.2.2.2.2 g (by simp; omega)
                exact ⟨h1.1.trans (HBZ.out.block g hg), h1.2⟩
              obtain ⟨gz, hgz⟩ : ∃ gz, w3.heap.size = gz := ⟨_, rfl⟩
              rw [hgz] at hzz
              rw [hgz]
              exact key w4 gz mn mpa mpc mps mka mkc mks Fk Dk ⟨hfin.1, hfin.2.1, hfin.2.2.1, hfin.2.2.2.1, hlow, hzz, HP4.out⟩
        case k =>
          rintro W5 gz mn mpa mpc mps mka mkc mks Fk Dk ⟨hl5, ho5, hFk, hDk, hlow, hz5, hp5⟩
          obtain ⟨g', c1, w6, hrun, hc1, hc2, hchg, hgp, hg', hfz, z0, z1, z2, x1, xf, hl6⟩ := hl5.app ho5 hFk hDk hz5 (by omega) 23
          replace hrun : (Builtin.append_ #[23, 23] 23 #[.slice n0.ka n0.kids.length n0.kc, .slice (some ⟨gz, 0, none⟩) 1 1]).run Try.prog W5 = .ok (.slice (some ⟨g', 0, none⟩) (n0.kids.length + 1) c1) w6 := hrun
          replace x1 : w6.cell? ⟨pb, o + 2, none⟩ = some (Value.slice n0.ka n0.kids.length n0.kc) := x1
          have HRUN6 := Lib.hid hrun
          have HLOW := Lib.hid hlow
          have HP5 := Lib.hid hp5
          have HF5 := Lib.hid hFk
          have HCH := Lib.hid hchg
          have HGP := Lib.hid (And.intro hgp hg')
          have HEL := Lib.hid (And.intro (And.intro z0 (hfz (n0.kids.length * 3))) (And.intro (And.intro z1 (hfz (n0.kids.length * 3 + 1))) (And.intro z2 (hfz (n0.kids.length * 3 + 2)))))
          have HHD := Lib.hid (And.intro x1 xf)
          have HL6 : Hid (LayN w pb o t cur n F D ((((w6.setCell ⟨g', n0.kids.length * 3, none⟩ (.string mn)).setCell ⟨g', n0.kids.length * 3 + 1, none⟩ (.slice mpa mps.length mpc)).setCell ⟨g', n0.kids.length * 3 + 2, none⟩ (.slice mka mks.length mkc)).setCell ⟨pb, o + 2, none⟩ (.slice (some ⟨g', 0, none⟩) (n0.kids.length + 1) c1)) _ _ _) := Lib.hid hl6
          have HW5 : Hid (w3.heap.size ≤ W5.heap.size ∧ wr.heap.size ≠ g' ∧ w.heap.size ≠ g') := by
            have e1 : wr.heap.size < W5.heap.size := by
              have h := (hlow wr.heap.size HX3.out.2).1
              rw [HX3.out.1] at h
              exact (Array.getElem?_eq_some_iff.1 h).1
            have e0 : w3.heap.size ≤ W5.heap.size := by
              rcases Nat.lt_or_ge W5.heap.size w3.heap.size with h | h
              · have h1 := (hlow W5.heap.size h).1
                rw [Array.getElem?_eq_none (Nat.le_refl _), Array.getElem?_eq_getElem h] at h1
                cases h1
              · exact h
            refine ⟨e0, fun e => ?_, fun e => ?_⟩
            · rcases hg' with h | h
              · exact HNAT.out.1 (e ▸ h)
              · omega
            · rcases hg' with h | h
              · exact HMF0.out (e ▸ h)
              · have := HWL.out; omega
          have HB6 : Hid (∀ V : World, (∀ q, q ≠ g' → q ≠ pb → V.heap[q]? = w6.heap[q]?) → (V.cell? ⟨wr.heap.size, 0, none⟩ = some (.string l[k].name) ∧ V.cell? ⟨wr.heap.size, 1, none⟩ = some (.slice l[k].pa l[k].props.length l[k].pc) ∧ V.cell? ⟨wr.heap.size, 2, none⟩ = some (.slice l[k].ka l[k].kids.length l[k].kc))) := fun V hV =>
            HSB.out V ((hV wr.heap.size HW5.out.2.1 HNAT.out.2).trans ((HCH.out.block wr.heap.size (by have h1 := HW5.out.1; have h2 := HX3.out.2; omega) HNAT.out.1).trans (HLOW.out wr.heap.size HX3.out.2).1))
          clear hrun hlow hp5 hFk hDk hchg hgp hg' hl6 hfz z0 z1 z2 x1 xf hz5 ho5 hl5
          refine held_call 8 (by kernel_rfl) rfl (by rfl) (fun K hK => ?_)
          refine Lib.wp_append_run_sl _ _ _ _ rfl _ _ rfl rfl HRUN6.out ?_
          refine hK.out _ _ (HB6.out w6 (fun _ _ _ => rfl)) (fun hHeld => ?_)
          clear hK K
          simp only [Act.put, List.setIfInBounds_toArray, List.set_cons_zero, List.set_cons_succ]
          have hlen1 : (n0.kids.length : Int) < (n0.kids.length : Int) + 1 := by omega
          refine held_take 9 rfl (by kernel_rfl) (by kernel_rfl) (by kernel_rfl) (fun _ _ _ h => h) (by rfl) hHeld (v := ?_) (fun w hSw => ?_) (fun _ => ?_)
          rotate_left
          · ((try dsimp only at hSw); go_simp; (try with_reducible rfl))
          simp only [Act.put, List.setIfInBounds_toArray, List.set_cons_zero, List.set_cons_succ]
          refine held_take 11 rfl (by kernel_rfl) (by kernel_rfl) (by kernel_rfl) (fun _ _ _ h => h) (by rfl) hHeld (v := ?_) (fun w hSw => ?_) (fun _ => ?_)
          rotate_left
          · ((try dsimp only at hSw); go_simp; (try with_reducible rfl))
          simp only [Act.put, List.setIfInBounds_toArray, List.set_cons_zero, List.set_cons_succ]
          refine held_take 12 rfl (by kernel_rfl) (by kernel_rfl) (by kernel_rfl) (fun _ _ _ h => h) (by rfl) hHeld (v := ?_) (fun w hSw => ?_) (fun _ => ?_)
          rotate_left
          · ((try dsimp only at hSw); go_simp; (try with_reducible rfl))
          simp only [Act.put, List.setIfInBounds_toArray, List.set_cons_zero, List.set_cons_succ]
          have s1 : ∀ {q : Nat} {V : World} {i : Nat} {v : Value}, q ≠ g' → (V.setCell ⟨g', i, none⟩ v).heap[q]? = V.heap[q]? := fun h => heap_setCell_other _ _ _ _ h
          have s2 : ∀ {q : Nat} {V : World} {i : Nat} {v : Value}, q ≠ pb → (V.setCell ⟨pb, i, none⟩ v).heap[q]? = V.heap[q]? := fun h => heap_setCell_other _ _ _ _ h
          have HC1 : Hid (∀ (V : World) (i : Nat) (v : Value) (j : Nat) (u : Value), (V.setCell ⟨pb, j, none⟩ u).setCell ⟨g', i, none⟩ v = (V.setCell ⟨g', i, none⟩ v).setCell ⟨pb, j, none⟩ u) := fun V i v j u => setCell_comm V (fun e => HGP.out.1 e.symm) u v
          apply cutO
          case h =>
            intro key
            refine held_two 10 13 (by kernel_rfl) rfl rfl (by rfl) (by rfl) (fun K hK => ?_) (fun K hK => ?_)
            · obtain ⟨⟨z0, f0⟩, ⟨z1, f1⟩, z2, f2⟩ := HEL.out
              go_simp
              refine hK.out _ _ (HB6.out _ (fun q h1 h2 => (s1 h1).trans ((s1 h1).trans (s1 h1)))) (fun hHeld => ?_)
              clear hK K z0 z1 z2 f0 f1 f2
              (try simp only [Act.put, List.setIfInBounds_toArray, List.set_cons_zero, List.set_cons_succ])
              have x1 := (World.cell?_of_block (a := ⟨pb, o + 2, none⟩) ((s1 (V := ((w6.setCell ⟨g', n0.kids.length * 3, none⟩ (.string mn)).setCell ⟨g', n0.kids.length * 3 + 1, none⟩ (.slice mpa mps.length mpc))) (i := n0.kids.length * 3 + 2) (v := .slice mka mks.length mkc) (Ne.symm HGP.out.1)).trans ((s1 (Ne.symm HGP.out.1)).trans (s1 (Ne.symm HGP.out.1))))).trans HHD.out.1
              have xf := (World.frozen?_of_block (a := ⟨pb, o + 2, none⟩) ((s1 (V := ((w6.setCell ⟨g', n0.kids.length * 3, none⟩ (.string mn)).setCell ⟨g', n0.kids.length * 3 + 1, none⟩ (.slice mpa mps.length mpc))) (i := n0.kids.length * 3 + 2) (v := .slice mka mks.length mkc) (Ne.symm HGP.out.1)).trans ((s1 (Ne.symm HGP.out.1)).trans (s1 (Ne.symm HGP.out.1))))).trans HHD.out.2
              refine held_call 13 (by kernel_rfl) rfl (by rfl) (fun K hK => ?_)
              go_simp
              refine hK.out _ _ (HB6.out _ (fun q h1 h2 => (s2 h2).trans ((s1 h1).trans ((s1 h1).trans (s1 h1))))) (fun hHeld => ?_)
              clear hK K x1 xf
              exact key
            · obtain ⟨x1, xf⟩ := HHD.out
              go_simp
              refine hK.out _ _ (HB6.out _ (fun q h1 h2 => s2 h2)) (fun hHeld => ?_)
              clear hK K x1 xf
              (try simp only [Act.put, List.setIfInBounds_toArray, List.set_cons_zero, List.set_cons_succ])
              have z0 := (World.cell?_of_block (a := ⟨g', n0.kids.length * 3, none⟩) (s2 (V := w6) (i := o + 2) (v := .slice (some ⟨g', 0, none⟩) (n0.kids.length + 1) c1) HGP.out.1)).trans HEL.out.1.1
              have f0 := (World.frozen?_of_block (a := ⟨g', n0.kids.length * 3, none⟩) (s2 (V := w6) (i := o + 2) (v := .slice (some ⟨g', 0, none⟩) (n0.kids.length + 1) c1) HGP.out.1)).trans HEL.out.1.2
              have z1 := (World.cell?_of_block (a := ⟨g', n0.kids.length * 3 + 1, none⟩) (s2 (V := w6) (i := o + 2) (v := .slice (some ⟨g', 0, none⟩) (n0.kids.length + 1) c1) HGP.out.1)).trans HEL.out.2.1.1
              have f1 := (World.frozen?_of_block (a := ⟨g', n0.kids.length * 3 + 1, none⟩) (s2 (V := w6) (i := o + 2) (v := .slice (some ⟨g', 0, none⟩) (n0.kids.length + 1) c1) HGP.out.1)).trans HEL.out.2.1.2
              have z2 := (World.cell?_of_block (a := ⟨g', n0.kids.length * 3 + 2, none⟩) (s2 (V := w6) (i := o + 2) (v := .slice (some ⟨g', 0, none⟩) (n0.kids.length + 1) c1) HGP.out.1)).trans HEL.out.2.2.1
              have f2 := (World.frozen?_of_block (a := ⟨g', n0.kids.length * 3 + 2, none⟩) (s2 (V := w6) (i := o + 2) (v := .slice (some ⟨g', 0, none⟩) (n0.kids.length + 1) c1) HGP.out.1)).trans HEL.out.2.2.2
              refine held_call 10 (by kernel_rfl) rfl (by rfl) (fun K hK => ?_)
              go_simp
              rw [HC1.out, HC1.out, HC1.out]
              refine hK.out _ _ (HB6.out _ (fun q h1 h2 => (s2 h2).trans ((s1 h1).trans ((s1 h1).trans (s1 h1))))) (fun hHeld => ?_)
              clear hK K z0 z1 z2 f0 f1 f2
              exact key
          case k =>
            refine wpAnyH_done (by kernel_rfl) ?_ _
            clear s1 s2
            go_wp2
            go_roundw
            case rel =>
              have hnm : mn = l[k].name := by
                have h := congrArg PN.name HP5.out
                rw [name_pure, name_pure] at h
                exact h
              refine ⟨k + 1, by omega, by go_num, _, _, _, Dm0.put (keyL l[k].name) (.lit (.int .i64 n0.kids.length)), HL6.out, HPP.out, ?_, ?_, ?_, fun e => ?_, fun e => ?_⟩
              · show (n0.kids ++ [_]).map pureN = _
                rw [mergeL_next l k hlt, ← HKK.out, HUP.out, List.map_append, List.map_cons, List.map_nil, HP5.out]
              · show FirstsM ((n0.kids ++ [_]).map Nd.name) _
                have h := HFP.out
                rw [List.length_map] at h
                rw [List.map_append]
                show FirstsM (n0.kids.map Nd.name ++ [mn]) _
                rw [hnm]
                exact h
              · show World.ownsMap _ _ _ _ _ (n0.kids ++ [_]).length _
                rw [List.length_append]
                refine ownsMap_same HO3.out ?_
                have h1 := (HCH.out.block w.heap.size (by have h1 := HW5.out.1; have h2 := HX3.out.2; have h3 := HWL.out; omega) HMF0.out).trans (HLOW.out w.heap.size (by have h2 := HX3.out.2; have h3 := HWL.out; omega)).1
                rw [heap_setCell_other _ _ _ _ (fun e => HWPB.out e.symm), heap_setCell_other _ _ _ _ (fun e => HW5.out.2.2 e), heap_setCell_other _ _ _ _ (fun e => HW5.out.2.2 e), heap_setCell_other _ _ _ _ (fun e => HW5.out.2.2 e)]
                exact h1
              · rcases e with e | e | e
                · exact HMF0.out e
                · exact HW5.out.2.2 e
                · exact (HLOW.out w.heap.size (by have h2 := HX3.out.2; have h3 := HWL.out; omega)).2.1 e
              · rcases e with e | e
                · exact HMD0.out e
                · exact (HLOW.out w.heap.size (by have h2 := HX3.out.2; have h3 := HWL.out; omega)).2.2 e
            case measure => simp [intOf]; omega
    · obtain rfl : k = l.length := by omega
      go_wp2
      go_end0
      refine ⟨rfl, n0, F0, D0, H0.out, ?_⟩
      rw [pureN_mk, H0.out.name, HPP.out, HKK.out, List.take_length]
end Go.Proofs.Ytfekjihjifimcaa

/-! Merge: a node with another one laid over it, in memory of its own. -/
namespace Go.Proofs.Ytfekjihjifimcaa
open Go.RowKit
set_option linter.unusedVariables false
set_option linter.unusedSimpArgs false

theorem lay_all : ∀ b : Nd, LayOK b := Nd.ind (fun b ih => lay_of b (layKids_of b.kids ih))
theorem allocs3 (w : World) (o0 o1 o2 : Obj) : ((w.alloc o0).alloc o1).alloc o2 = ((w.alloc o0).alloc o1).alloc o2 ∧ (((w.alloc o0).alloc o1).alloc o2).heap.size = w.heap.size + 3 ∧ (((w.alloc o0).alloc o1).alloc o2).heap[w.heap.size]? = some o0 ∧ (((w.alloc o0).alloc o1).alloc o2).heap[w.heap.size + 1]? = some o1 ∧ (((w.alloc o0).alloc o1).alloc o2).heap[w.heap.size + 2]? = some o2 ∧ Below w.heap.size w (((w.alloc o0).alloc o1).alloc o2) := by
  obtain ⟨w1, h1⟩ : ∃ w1, w.alloc o0 = w1 := ⟨_, rfl⟩
  obtain ⟨w2, h2⟩ : ∃ w2, w1.alloc o1 = w2 := ⟨_, rfl⟩
  obtain ⟨w3, h3⟩ : ∃ w3, w2.alloc o2 = w3 := ⟨_, rfl⟩
  have z1 : w1.heap.size = w.heap.size + 1 := by rw [← h1]; simp
  have z2 : w2.heap.size = w.heap.size + 2 := by rw [← h2]; simp [z1]
  have z3 : w3.heap.size = w.heap.size + 3 := by rw [← h3]; simp [z2]
  have b1 : Below w.heap.size w w1 := by rw [← h1]; exact (Below.refl _ _).alloc (Nat.le_refl _) _
  have b2 : Below w1.heap.size w1 w2 := by rw [← h2]; exact (Below.refl _ _).alloc (Nat.le_refl _) _
  have b3 : Below w2.heap.size w2 w3 := by rw [← h3]; exact (Below.refl _ _).alloc (Nat.le_refl _) _
  have n1 : w1.heap[w.heap.size]? = some o0 := by rw [← h1]; exact heap_alloc_new _ _
  have n2 : w2.heap[w.heap.size + 1]? = some o1 := by rw [← z1, ← h2]; exact heap_alloc_new _ _
  have n3 : w3.heap[w.heap.size + 2]? = some o2 := by rw [← z2, ← h3]; exact heap_alloc_new _ _
  rw [h1, h2, h3]
  exact ⟨rfl, z3, (b3.block _ (by omega)).trans ((b2.block _ (by omega)).trans n1), (b3.block _ (by omega)).trans n2, n3, b1.trans ((b2.mono (by omega)).trans (b3.mono (by omega)))⟩

set_option maxRecDepth 20000 in
set_option maxHeartbeats 4000000 in
theorem mergeOK : MergeOK := by
  intro b a w hina hinb hh
  have HA := Lib.hid hina
  have HB := Lib.hid hinb
  have HH : Hid (hpN (pureN a) + hpN (pureN b) ≤ 1073741824) := Lib.hid (by rw [← heft_hp, ← heft_hp]; exact hh)
  have HLO := Lib.hid (lay_all b)
  have HCL := Lib.hid (cloneNode_own a)
  clear hina hinb hh
  obtain ⟨an, apa, apc, aps, aka, akc, aks⟩ := a
  obtain ⟨bn, bpa, bpc, bps, bka, bkc, bks⟩ := b
  obtain ⟨W0, hW0⟩ : ∃ W0, (((w.alloc (.cells #[Value.string an, .slice apa aps.length apc, .slice aka aks.length akc] 25)).alloc (.cells #[Value.string bn, .slice bpa bps.length bpc, .slice bka bks.length bkc] 25)).alloc (.cells #[Value.string ⟨#[]⟩, .slice none 0 0, .slice none 0 0] 25)) = W0 := ⟨_, rfl⟩
  have h3 := allocs3 w (.cells #[Value.string an, .slice apa aps.length apc, .slice aka aks.length akc] 25) (.cells #[Value.string bn, .slice bpa bps.length bpc, .slice bka bks.length bkc] 25) (.cells #[Value.string ⟨#[]⟩, .slice none 0 0, .slice none 0 0] 25)
  rw [hW0] at h3
  obtain ⟨_, s0, n0, n1, n2, bel⟩ := h3
  have HS0 := Lib.hid s0
  have HN1 := Lib.hid n1
  have HN2 := Lib.hid n2
  have HBE := Lib.hid bel
  have y0 := cell_of_row _ w.heap.size 0 _ _ _ n0
  have y1 := cell_of_row _ w.heap.size 1 _ _ _ n0
  have y2 := cell_of_row _ w.heap.size 2 _ _ _ n0
  replace y0 : _ = some (Value.string an) := y0
  replace y1 : _ = some (Value.slice apa aps.length apc) := y1
  replace y2 : _ = some (Value.slice aka aks.length akc) := y2
  clear s0 n0 n1 n2 bel
  show Calls _ _ #[.agg #[.string an, .slice apa aps.length apc, .slice aka aks.length akc], .agg #[.string bn, .slice bpa bps.length bpc, .slice bka bks.length bkc]] _ _
  go_enter Try.func9, Try.ntmps9
  go_wp2_with fail
  refine (HCL.out W0 (HA.out.on HBE.out)).mono ?_
  rintro e w1 ⟨m, F, D, rfl, hp, hown, hF, hD, hb⟩
  clear hW0 y0 y1 y2
  obtain ⟨mn, mpa, mpc, mps, mka, mkc, mks⟩ := m
  dsimp only [Nd.val, Nd.name, Nd.pv, Nd.kv, Nd.pa, Nd.pc, Nd.props, Nd.ka, Nd.kc, Nd.kids]
  have HP := Lib.hid hp
  have HF := Lib.hid hF
  have HD := Lib.hid hD
  have HB1 := Lib.hid hb
  have HO := Lib.hid hown
  obtain ⟨W2, hW2⟩ : ∃ W2, w1.alloc (.cells #[Value.string mn, .slice mpa mps.length mpc, .slice mka mks.length mkc] 25) = W2 := ⟨_, rfl⟩
  have HB2 : Hid (Below w1.heap.size w1 W2) := Lib.hid (by rw [← hW2]; exact (Below.refl _ _).alloc (Nat.le_refl _) _)
  have HX2 : Hid (W2.heap[w1.heap.size]? = some (.cells #[Value.string mn, .slice mpa mps.length mpc, .slice mka mks.length mkc] 25 (0, 0)) ∧ W2.heap.size = w1.heap.size + 1) := Lib.hid (by rw [← hW2]; exact ⟨heap_alloc_new _ _, by simp⟩)
  have HR1 := Lib.hid ((HB2.out.block (w.heap.size + 1) (by have h1 := HS0.out; have h2 := HB1.out.size; omega)).trans ((HB1.out.block (w.heap.size + 1) (by have h1 := HS0.out; omega)).trans HN1.out))
  have HR2 := Lib.hid ((HB2.out.block (w.heap.size + 2) (by have h1 := HS0.out; have h2 := HB1.out.size; omega)).trans ((HB1.out.block (w.heap.size + 2) (by have h1 := HS0.out; omega)).trans HN2.out))
  have y0 := cell_of_row _ (w.heap.size + 1) 0 _ _ _ HR1.out
  have y1 := cell_of_row _ (w.heap.size + 1) 1 _ _ _ HR1.out
  have y2 := cell_of_row _ (w.heap.size + 1) 2 _ _ _ HR1.out
  replace y0 : _ = some (Value.string bn) := y0
  replace y1 : _ = some (Value.slice bpa bps.length bpc) := y1
  replace y2 : _ = some (Value.slice bka bks.length bkc) := y2
  have HST : Hid (LayN W2 w1.heap.size 0 25 _ (.mk mn mpa mpc mps mka mkc mks) F D W2 (.mk mn mpa mpc mps mka mkc mks) F D) := Lib.hid (LayN.start (HO.out.chg (E := fun _ => False) (Chg.ofBelow HB2.out) (fun _ _ e => e) (fun _ _ e => e)) (fun g e => by have h1 := HF.out g e; have h2 := HX2.out.2; omega) (fun g e => by
    have h1 := HD.out g e
    have h2 := HX2.out.2
    exact ⟨by omega, h1.2.2⟩) HX2.out.1 rfl rfl (fun e => by have := HF.out _ e; omega) (fun e => by have := HD.out _ e; omega))
  have HIB : Hid ((Nd.mk bn bpa bpc bps bka bkc bks).In W2 W2.heap.size ∧ (Nd.mk bn bpa bpc bps bka bkc bks).At (fun g => ¬ F g ∧ g ≠ w1.heap.size)) := Lib.hid ⟨((HB.out.on HBE.out).on HB1.out).on HB2.out, Nd.At.mono (fun g hg => by
    have h1 := hg.2
    have h2 := HS0.out
    have h3 := HB1.out.size
    exact ⟨fun e => by have := HF.out g e; omega, by omega⟩) (Nd.At.lows HB.out (Nd.At.all _))⟩
  clear hp hown hF hD hb
  go_wp2_with fail
  clear hW2 y0 y1 y2
  refine (HLO.out w1.heap.size 0 _ _ _ F D W2 HST.out HIB.out.1 HIB.out.2 (by rw [HP.out]; have := HH.out; omega)).mono ?_
  rintro e w3 ⟨rfl, n', F', D', hl, hp3⟩
  have HL := Lib.hid hl
  have HP3 := Lib.hid hp3
  clear hl hp3
  obtain ⟨nn, npa, npc, nps, nka, nkc, nks⟩ := n'
  have hnn : nn = mn := HL.out.name
  subst hnn
  have HW3 := Lib.hid (HL.out.chg.block (w.heap.size + 2) (by have h1 := HS0.out; have h2 := HB1.out.size; have h3 := HX2.out.2; omega) (fun e => by
    have h1 := HS0.out
    have h2 := HB1.out.size
    rcases e with e | e
    · have := HF.out _ e; omega
    · omega))
  have HR3 := Lib.hid (HW3.out.trans HR2.out)
  have HBX := Lib.hid HL.out.box
  have x0 := cell_of_row _ w1.heap.size 0 _ _ _ HBX.out
  have x1 := cell_of_row _ w1.heap.size 1 _ _ _ HBX.out
  have x2 := cell_of_row _ w1.heap.size 2 _ _ _ HBX.out
  replace x0 : _ = some (Value.string nn) := x0
  replace x1 : _ = some (Value.slice npa nps.length npc) := x1
  replace x2 : _ = some (Value.slice nka nks.length nkc) := x2
  have t0 := cell_of_row _ (w.heap.size + 2) 0 _ _ _ HR3.out
  have t1 := cell_of_row _ (w.heap.size + 2) 1 _ _ _ HR3.out
  have t2 := cell_of_row _ (w.heap.size + 2) 2 _ _ _ HR3.out
  replace t0 : _ = some (Value.string ⟨#[]⟩) := t0
  replace t1 : _ = some (Value.slice none 0 0) := t1
  replace t2 : _ = some (Value.slice none 0 0) := t2
  have f0 := frozen_of_row _ (w.heap.size + 2) 0 _ _ HR3.out
  have f1 := frozen_of_row _ (w.heap.size + 2) 1 _ _ HR3.out
  have f2 := frozen_of_row _ (w.heap.size + 2) 2 _ _ HR3.out
  go_wp2_with fail
  have BF := Lib.hid (heap_setCell_same _ (w.heap.size + 2) 2 _ _ (.slice nka nks.length nkc) (heap_setCell_same _ (w.heap.size + 2) 1 _ _ (.slice npa nps.length npc) (heap_setCell_same _ (w.heap.size + 2) 0 _ _ (.string nn) HR3.out)))
  have d0 := cell_of_row _ (w.heap.size + 2) 0 _ _ _ BF.out
  have d1 := cell_of_row _ (w.heap.size + 2) 1 _ _ _ BF.out
  have d2 := cell_of_row _ (w.heap.size + 2) 2 _ _ _ BF.out
  replace d0 : _ = some (Value.string nn) := d0
  replace d1 : _ = some (Value.slice npa nps.length npc) := d1
  replace d2 : _ = some (Value.slice nka nks.length nkc) := d2
  have HCF := Lib.hid ((((Chg.refl (fun q => q = w.heap.size + 2) w3).setCell (a := ⟨w.heap.size + 2, 0, none⟩) (.inl rfl) (.string nn)).setCell (a := ⟨w.heap.size + 2, 1, none⟩) (.inl rfl) (.slice npa nps.length npc)).setCell (a := ⟨w.heap.size + 2, 2, none⟩) (.inl rfl) (.slice nka nks.length nkc))
  clear t0 t1 t2 f0 f1 f2 x0 x1 x2
  refine bodyPost_ret (v := .agg #[.string nn, .slice npa nps.length npc, .slice nka nks.length nkc]) (by simp [results, Try.results9, go_sem, d0, d1, d2]; try rfl) rfl ?_
  have h1 := HS0.out
  have h2 := HB1.out.size
  have h3 := HX2.out.2
  have h4 := HL.out.chg.size
  have hpp : hpN (pureN (Nd.mk nn npa npc nps nka nkc nks)) ≤ 1099511627776 := by
    rw [HP3.out, HP.out]
    have q1 := hp_merge (pureN (Nd.mk bn bpa bpc bps bka bkc bks)) (pureN (Nd.mk an apa apc aps aka akc aks))
    have q2 := HH.out
    omega
  refine ⟨⟨_, rfl, (HL.out.own.chg HCF.out (fun q e e' => ?_) (fun q e e' => ?_)).in_ hpp, by rw [HP3.out, HP.out]⟩, ?_⟩
  · rcases (HL.out.hF' q e).1 with e | e
    · have := (HF.out q e).1; omega
    · omega
  · rcases (HL.out.hD' q e).1 with e | e
    · have := (HD.out q e).1; omega
    · omega
  · refine HBE.out.trans ((HB1.out.mono (by omega)).trans ((HB2.out.mono (by omega)).trans ?_))
    have c : Chg (fun q => w.heap.size ≤ q) W2 _ := (HL.out.chg.mono (F' := fun q => w.heap.size ≤ q) (fun g _ e => by
      rcases e with e | e
      · have := (HF.out g e).1; omega
      · omega)).trans HCF.out (fun g _ e => by omega)
    exact c.below (by omega) (fun q e => e)
end Go.Proofs.Ytfekjihjifimcaa

/-! What awake answers in layer 10. -/
namespace Go.Proofs.Ytfekjihjifimcaa
open Go.RowKit
set_option linter.unusedVariables false
set_option linter.unusedSimpArgs false

theorem field_props (nn : ByteArray) (npa nka : Option Addr) (a npc b nkc : Nat) (W : World) : (Instr.field 25 (.agg #[.string nn, .slice npa a npc, .slice nka b nkc]) 1).run Try.prog W = .ok (.slice npa a npc) W := by kernel_rfl

set_option maxRecDepth 20000 in
set_option maxHeartbeats 2000000 in
theorem awake10 : Awake10 := by
  intro w
  have HM := Lib.hid mergeOK
  obtain ⟨W1, hW1⟩ : ∃ W1, w.alloc (.cells #[.string ⟨#[97]⟩, .slice none 0 0] 32) = W1 := ⟨_, rfl⟩
  have HB : Hid (Below w.heap.size w W1) := Lib.hid (by rw [← hW1]; exact (Below.refl _ _).alloc (Nat.le_refl _) _)
  have HX : Hid (W1.heap[w.heap.size]? = some (.cells #[.string ⟨#[97]⟩, .slice none 0 0] 32 (0, 0)) ∧ W1.heap.size = w.heap.size + 1) := Lib.hid (by rw [← hW1]; exact ⟨heap_alloc_new _ _, by simp⟩)
  have HIN : Hid ((Nd.mk ⟨#[]⟩ (some ⟨w.heap.size, 0, none⟩) 1 [⟨⟨#[97]⟩, none, 0, []⟩] none 0 []).In W1 W1.heap.size) := Lib.hid (.mk _ ⟨by show (0 : Nat) ≤ _; decide, by simp [Nd.props], by simp [Nd.kids]⟩ (by simp [Nd.props, Nd.pc]) (by simp [Nd.pc]) (by simp [Nd.kids, Nd.kc]) (by simp [Nd.kc]) (fun _ => ⟨w.heap.size, 0, rfl, by have := HX.out.2; omega, fun i hi => by
      have hi' : i = 0 := by simp [Nd.props] at hi; exact hi
      subst hi'
      refine ⟨?_, ?_⟩ <;> rw [cell_of_row _ w.heap.size _ _ _ _ HX.out.1] <;> rfl⟩) (fun p hp => by
      have hp' : p = ⟨⟨#[97]⟩, none, 0, []⟩ := by simpa [Nd.props] using hp
      subst hp'
      exact ⟨⟨by decide, by simp⟩, Shows.nil _ _, Nat.le_refl _, by simp⟩) (fun h => absurd h (by simp [Nd.kids])) (fun k hk => by simp [Nd.kids] at hk))
  go_enter Try.func6, Try.ntmps6
  go_wp2_with fail
  clear hW1
  refine (HM.out (.mk ⟨#[]⟩ (some ⟨w.heap.size, 0, none⟩) 1 [⟨⟨#[97]⟩, none, 0, []⟩] none 0 []) (.mk ⟨#[]⟩ none 0 [] none 0 []) W1 (ndZ_in _ _) HIN.out (by rw [ndZ_heft]; simp [heftN, heftL, heftP]; decide)).mono ?_
  rintro e w2 ⟨⟨n, rfl, hn, hp⟩, hb⟩
  have hlen : n.props.length = 1 := by
    have h1 : (pureN n).props.length = 1 := by
      rw [hp, pureN_mk, mergeN]
      rfl
    rw [pureN_mk] at h1
    have h2 : (n.props.map PV.pure).length = 1 := h1
    rwa [List.length_map] at h2
  obtain ⟨nn, npa, npc, nps, nka, nkc, nks⟩ := n
  replace hlen : nps.length = 1 := hlen
  have hle : ((nps.length : Int) = 1) := by omega
  have HB2 := Lib.hid (HB.out.trans (hb.mono HB.out.size))
  clear hb hn hp
  dsimp only [Nd.val, Nd.name, Nd.pv, Nd.kv, Nd.pa, Nd.pc, Nd.props, Nd.ka, Nd.kc, Nd.kids]
  have hfd := field_props nn npa nka 1 npc nks.length nkc w2
  go_wp2
  go_ret
  refine ⟨?_, HB2.out⟩
  simp [hlen]
end Go.Proofs.Ytfekjihjifimcaa

/-! Layer 3, a tree that came in: how heavy it is, by the bulk of what it reads as. -/
namespace Go.Proofs.Ytfekjihjifimcaa
open Go.RowKit Go.ChangeShapes Go.WideShapes Go.Deep
set_option linter.unusedVariables false
set_option linter.unusedSimpArgs false

theorem bulk_one {H : Type} (d : DataW H) : 1 ≤ Rows.uptoBulk d := by
  cases d with
  | lit l => cases l <;> simp [Rows.uptoBulk]
  | nil => simp [Rows.uptoBulk]
  | ptr d => simp [Rows.uptoBulk]
  | slice elems spare => simp [Rows.uptoBulk]
  | agg parts => simp [Rows.uptoBulk]
  | iface t d => simp [Rows.uptoBulk]
  | map entries => simp [Rows.uptoBulk]
  | held h => simp [Rows.uptoBulk]
theorem bulk_length {H : Type} (l : List (DataW H)) : l.length ≤ Rows.uptoBulkAll l := by
  induction l with
  | nil => simp [Rows.uptoBulkAll]
  | cons x r ih => have := bulk_one x; simp only [Rows.uptoBulkAll, List.length_cons]; omega
theorem sixteen {α : Type} : ∀ l : List α, (l.map (fun _ => 16)).sum = 16 * l.length
  | [] => rfl
  | x :: l => by rw [List.map_cons, List.sum_cons, sixteen l, List.length_cons]; omega
theorem bulk_sum {H : Type} {α : Type} (g : α → Nat) (F : Nat → α) (D : Nat → DataW H) : ∀ l : List Nat, (∀ i ∈ l, g (F i) ≤ 16 * Rows.uptoBulk (D i)) → ((l.map F).map g).sum ≤ 16 * Rows.uptoBulkAll (l.map D)
  | [], _ => by simp
  | i :: l, h => by
    have h1 := h i (by simp)
    have h2 := bulk_sum g F D l (fun j hj => h j (by simp [hj]))
    simp only [List.map_cons, List.sum_cons, Rows.uptoBulkAll]
    omega

section
variable {H : Type} {enc : TypeId × Value → H} {w : World} {base : Nat} {spare : Nat → Bool} {held : Bool}

set_option maxRecDepth 100000 in
theorem bulk_pv {fuel : Nat} {cs : List Value} {x : DataW H × List MemPlace} (h : DataW.trod enc Try.prog w base spare held fuel 32 cs = some x) (hw : ∀ z ∈ DataW.weights Try.prog 32 x.1, z ≤ 140737488351232) :
    ∃ p : PV, cs = [.string p.name, p.val] ∧ p.In w w.heap.size ∧ heftP p ≤ 16 * Rows.uptoBulk x.1 := by
  obtain ⟨y0, y1, n, rfl, hl, h0, h1⟩ := trod_struct2 Try.underlying32 h
  rw [Try.cellsProp] at hl
  obtain ⟨c0, c1, rfl⟩ : ∃ c0 c1, cs = [c0, c1] := by
    exact two_of hl
  rw [Try.cellsStr] at h0
  rw [Try.cellsBytes] at h1
  obtain ⟨s, e0, rfl, hs⟩ := DataW.trod_string Try.underlying9 h0
  simp only [List.drop_zero, List.take_succ_cons, List.take_zero, List.cons.injEq, and_true] at e0
  subst e0
  have hs' : s.size ≤ 140737488351232 := hw s.size (by
    simp only [DataW.weights, DataW.weightsEach, Try.underlying32, List.map_cons, List.map_nil]
    exact List.mem_append_left _ (by simp))
  rcases open_ints Try.underlying30 Try.underlying5 Try.cellsByte h1 with ⟨e1, _⟩ | ⟨a, len, cap, zs, e1, hb, hlc, hm, hz, rfl, hcell, hwf⟩
  · simp only [List.drop_succ_cons, List.drop_zero, List.take_succ_cons, List.take_zero, List.cons.injEq, and_true] at e1
    subst e1
    exact ⟨⟨s, none, 0, []⟩, rfl, ⟨⟨hs', by simp⟩, Shows.nil _ _, Nat.le_refl _, by simp⟩, by (have e : s.data.size = s.size := rfl; simp only [heftP, Rows.uptoBulk, Rows.uptoBulkAll, List.length_nil, Array.length_toList]; omega)⟩
  · simp only [List.drop_succ_cons, List.drop_zero, List.take_succ_cons, List.take_zero, List.cons.injEq, and_true] at e1
    subst e1
    have hle : len ≤ zs.length := by rw [hz]; split <;> omega
    have hl' : (zs.take len).length = len := by rw [List.length_take]; omega
    have hb' : zs.length * Try.prog.bytesOf 5 ≤ 140737488351232 := hw _ (by
      simp only [DataW.weights, DataW.weightsEach, Try.underlying32, Try.underlying30, List.map_cons, List.map_nil]
      refine List.mem_append_right _ (List.mem_append_left _ (List.mem_cons.2 (.inl ?_)))
      simp only [lits, List.length_map, List.length_take, List.length_drop]
      congr 1
      omega)
    have e1 : Try.prog.bytesOf 5 = 1 := by kernel_rfl
    rw [e1] at hb'
    refine ⟨⟨s, some a, cap, zs.take len⟩, by rw [PV.val, hl'], ⟨⟨hs', by simp only [hl']; omega⟩, ?_, by rw [hl']; exact hlc, hm⟩, by (have h9 := bulk_length (lits (H := H) .u8 (zs.take len)); have h8 : (lits (H := H) .u8 (zs.take len)).length = len := (by simp only [lits, List.length_map]; exact hl'); have e : s.data.size = s.size := rfl; simp only [heftP, Rows.uptoBulk, Rows.uptoBulkAll, Array.length_toList, hl']; omega)⟩
    refine ⟨rfl, fun z hz' => ?_, fun hn => ?_⟩
    · have h2 := bounds_u8 (hwf z (List.mem_of_mem_take hz'))
      omega
    · rw [hl'] at hn
      obtain ⟨b, o, spot⟩ := a
      have hc := hcell 0 (by omega)
      have hspot : spot = none := by simpa [Addr.add] using World.cell?_spot hc
      subst hspot
      refine ⟨b, o, rfl, ?_, fun i hi => ?_⟩
      · rw [addr_add] at hc
        exact World.block_lt_of_cell? w _ hc
      · rw [hl'] at hi
        have hci := hcell i (by omega)
        rw [addr_add] at hci
        rw [hci]
        refine congrArg (fun z => some (Value.int .u8 z)) ?_
        simp [List.getD, List.getElem?_take_of_lt hi]

set_option maxRecDepth 100000 in
theorem bulk_row {α : Type} [Inhabited α] {t e : TypeId} {c : Nat} (f : α → List Value) (good : α → Prop) (g : α → Nat) {fuel : Nat} {cs : List Value} {x : DataW H × List MemPlace} (ht : Try.prog.underlying t = some (.slice e)) (hc : Try.prog.cellsOf e = c) (hc0 : 0 < c)
    (hlen : ∀ p, (f p).length = c) (each : ∀ (n : Nat) (cs : List Value) (y : DataW H × List MemPlace), SizeOf.sizeOf y.1 < SizeOf.sizeOf x.1 → DataW.trod enc Try.prog w base spare held n e cs = some y → (∀ z ∈ DataW.weights Try.prog e y.1, z ≤ 140737488351232) → ∃ p : α, cs = f p ∧ good p ∧ g p ≤ 16 * Rows.uptoBulk y.1)
    (h : DataW.trod enc Try.prog w base spare held fuel t cs = some x) (hw : ∀ z ∈ DataW.weights Try.prog t x.1, z ≤ 140737488351232) :
    ∃ (a : Option Addr) (cap : Nat) (l : List α), cs = [.slice a l.length cap] ∧ (l.map g).sum + 16 ≤ 16 * Rows.uptoBulk x.1 ∧ l.length ≤ cap ∧ cap ≤ 9223372036854775807 ∧ l.length * Try.prog.bytesOf e ≤ 140737488351232 ∧ (∀ p ∈ l, good p) ∧
      (0 < l.length → ∃ b o, a = some ⟨b, o, none⟩ ∧ b < w.heap.size ∧ ∀ i (h : i < l.length), ∀ j, j < c → w.cell? ⟨b, o + i * c + j, none⟩ = (f l[i])[j]?) := by
  rcases open_slice ht h with ⟨rfl, _⟩ | ⟨a, len, cap, m, n, D, Pl, rfl, hb, hl, hm, hmm, rfl, hi⟩
  · exact ⟨none, 0, [], rfl, by (have := bulk_one x.1; simp only [List.map_nil, List.sum_nil]; omega), Nat.le_refl _, by simp, by simp, by simp, fun h => absurd h (by simp)⟩
  · have hlm : len ≤ m := by rw [hmm]; split <;> omega
    have sz : ∀ i, i < len → SizeOf.sizeOf (D i) < SizeOf.sizeOf (DataW.slice ((List.range len).map D) ((List.range (m - len)).map fun j => D (len + j))) := fun i hi' => by
      have hmem : D i ∈ (List.range len).map D := List.mem_map.2 ⟨i, List.mem_range.2 hi', rfl⟩
      have := List.sizeOf_lt_of_mem hmem
      simp only [DataW.slice.sizeOf_spec]
      omega
    have hw1 : (len + (m - len)) * Try.prog.bytesOf e ≤ 140737488351232 := hw _ (by
      simp only [DataW.weights, ht]
      refine List.mem_cons.2 (.inl ?_)
      simp)
    have hw2 : len * Try.prog.bytesOf e ≤ 140737488351232 := Nat.le_trans (Nat.mul_le_mul_right _ (by omega)) hw1
    have hwi : ∀ i, i < len → ∀ z ∈ DataW.weights Try.prog e (D i), z ≤ 140737488351232 := fun i hi' z hz => hw z (by
      simp only [DataW.weights, ht]
      exact List.mem_cons.2 (.inr (List.mem_append_left _ (weights_mem (List.mem_map.2 ⟨i, List.mem_range.2 hi', rfl⟩) hz))))
    obtain ⟨F, hF⟩ := choose_lt (α := α) (n := len) (p := fun i p => w.cells? base (a.add (i * Try.prog.cellsOf e)) (Try.prog.cellsOf e) = some (f p) ∧ good p ∧ g p ≤ 16 * Rows.uptoBulk (D i)) (fun i hi' => by
      obtain ⟨cs', h1, h2⟩ := hi i (by omega)
      obtain ⟨p, rfl, hg, hg2⟩ := each n cs' _ (sz i hi') h2 (hwi i hi')
      exact ⟨p, h1, hg, hg2⟩)
    refine ⟨some a, cap, (List.range len).map F, by simp, by have h7 := bulk_sum g F D (List.range len) (fun i hi' => (hF i (List.mem_range.1 hi')).2.2); simp only [Rows.uptoBulk]; omega, by simpa using hl, hm, by simpa using hw2, ?_, fun h0 => ?_⟩
    · intro p hp
      obtain ⟨i, hi', rfl⟩ := List.mem_map.1 hp
      exact (hF i (List.mem_range.1 hi')).2.1
    · simp only [List.length_map, List.length_range] at h0 ⊢
      obtain ⟨b, o, spot⟩ := a
      have cell : ∀ i, i < len → ∀ j, j < c → w.cell? ((⟨b, o, spot⟩ : Addr).add (i * c + j)) = (f (F i))[j]? := fun i hi' j hj => by
        obtain ⟨_, _, h3⟩ := World.cells?_some (hF i hi').1
        rw [hc] at h3
        rw [← Go.Deep.add_add]
        exact h3 j hj
      have c0 := cell 0 h0 0 hc0
      rw [List.getElem?_eq_getElem (by rw [hlen]; exact hc0)] at c0
      have hspot : spot = none := by simpa [Addr.add] using World.cell?_spot c0
      subst hspot
      refine ⟨b, o, rfl, World.block_lt_of_cell? w _ (by rw [addr_add] at c0; exact c0), fun i hi' j hj => ?_⟩
      have := cell i hi' j hj
      rw [addr_add, ← Nat.add_assoc] at this
      simpa using this

theorem heftL_sum : ∀ ks : List Nd, heftL ks = (ks.map heftN).sum
  | [] => rfl
  | k :: r => by simp only [heftL, List.map_cons, List.sum_cons, heftL_sum r]

set_option maxRecDepth 100000 in
theorem bulk_nd : ∀ (m fuel : Nat) (cs : List Value) (x : DataW H × List MemPlace), SizeOf.sizeOf x.1 ≤ m → DataW.trod enc Try.prog w base spare held fuel 25 cs = some x →
    (∀ z ∈ DataW.weights Try.prog 25 x.1, z ≤ 140737488351232) → ∃ n : Nd, cs = [.string n.name, n.pv, n.kv] ∧ n.In w w.heap.size ∧ heftN n ≤ 16 * Rows.uptoBulk x.1 := by
  intro m
  induction m with
  | zero => intro fuel cs x hx; exfalso; obtain ⟨d, pl⟩ := x; cases d <;> simp at hx
  | succ m ih =>
    intro fuel cs x hx h hw
    obtain ⟨y0, y1, y2, n, rfl, hl, h0, h1, h2⟩ := trod_struct3 Try.underlying25 h
    rw [Try.cellsNode] at hl
    obtain ⟨c0, c1, c2, rfl⟩ : ∃ c0 c1 c2, cs = [c0, c1, c2] := by
      exact three_of hl
    rw [Try.cellsStr] at h0
    rw [Try.cellsProps] at h1
    rw [Try.cellsNodes] at h2
    simp only [List.drop_zero, List.drop_succ_cons, List.take_succ_cons, List.take_zero] at h0 h1 h2
    simp only [DataW.weights, DataW.weightsEach, Try.underlying25, List.map_cons, List.map_nil] at hw
    have hw0 := fun z hz => hw z (List.mem_append_left _ hz)
    have hw1 := fun z hz => hw z (List.mem_append_right _ (List.mem_append_left _ hz))
    have hw2 := fun z hz => hw z (List.mem_append_right _ (List.mem_append_right _ (List.mem_append_left _ hz)))
    obtain ⟨s, e0, rfl, hs⟩ := DataW.trod_string Try.underlying9 h0
    simp only [List.cons.injEq, and_true] at e0
    subst e0
    have hs' : s.size ≤ 140737488351232 := hw0 s.size (by simp [DataW.weights])
    obtain ⟨pa, pc, props, e1, hph, hp1, hp2, hp3, hpg, hprow⟩ := bulk_row (c := 2) (fun p : PV => [.string p.name, p.val]) (fun p => p.In w w.heap.size) heftP Try.underlying22 Try.cellsProp (by omega) (fun _ => rfl) (fun n cs y _ hy hwy => bulk_pv hy hwy) h1 hw1
    obtain ⟨ka, kc, kids, e2, hkh, hk1, hk2, hk3, hkg, hkrow⟩ := bulk_row (c := 3) (fun k : Nd => [.string k.name, k.pv, k.kv]) (fun k => k.In w w.heap.size) heftN Try.underlying23 Try.cellsNode (by omega) (fun _ => rfl)
      (fun n cs y hy hy' hwy => ih n cs y (by simp only [DataW.agg.sizeOf_spec, List.cons.sizeOf_spec] at hx; omega) hy' hwy) h2 hw2
    simp only [List.cons.injEq, and_true] at e1 e2
    subst e1 e2
    rw [Try.bytesProp] at hp3
    rw [Try.bytesNode] at hk3
    refine ⟨.mk s pa pc props ka kc kids, rfl, .mk _ ⟨hs', hp3, hk3⟩ hp1 hp2 hk1 hk2 (fun h0 => ?_) hpg (fun h0 => ?_) hkg, by have e : s.data.size = s.size := rfl; simp only [heftN, heftL_sum, Rows.uptoBulk, Rows.uptoBulkAll, Array.length_toList]; omega⟩
    · obtain ⟨b, o, e, hb, hc⟩ := hprow h0
      exact ⟨b, o, e, hb, fun i hi => ⟨hc i hi 0 (by omega), hc i hi 1 (by omega)⟩⟩
    · obtain ⟨b, o, e, hb, hc⟩ := hkrow h0
      exact ⟨b, o, e, hb, fun i hi => ⟨hc i hi 0 (by omega), hc i hi 1 (by omega), hc i hi 2 (by omega)⟩⟩
set_option maxRecDepth 100000 in
theorem bulk_tr {fuel : Nat} {cs : List Value} {x : DataW H × List MemPlace} (h : DataW.trod enc Try.prog w base spare held fuel 38 cs = some x) (hw : ∀ z ∈ DataW.weights Try.prog 38 x.1, z ≤ 140737488351232) :
    ∃ t : Tr, cs = [.int .u32 t.boot, t.rv, .string t.root.name, t.root.pv, t.root.kv] ∧ t.In w w.heap.size ∧ heftN t.root ≤ 16 * Rows.uptoBulk x.1 ∧ t.rs.length ≤ Rows.uptoBulk x.1 := by
  obtain ⟨y0, y1, y2, n, rfl, hl, h0, h1, h2⟩ := trod_struct3 Try.underlying38 h
  rw [Try.cellsTree] at hl
  obtain ⟨c0, c1, c2, c3, c4, rfl⟩ : ∃ c0 c1 c2 c3 c4, cs = [c0, c1, c2, c3, c4] := by
    exact five_of hl
  rw [Try.cellsU32] at h0
  rw [Try.cellsRess] at h1
  rw [Try.cellsNode] at h2
  simp only [List.drop_zero, List.drop_succ_cons, List.take_succ_cons, List.take_zero] at h0 h1 h2
  simp only [DataW.weights, DataW.weightsEach, Try.underlying38, List.map_cons, List.map_nil] at hw
  have hw1 := fun z hz => hw z (List.mem_append_right _ (List.mem_append_left _ hz))
  have hw2 := fun z hz => hw z (List.mem_append_right _ (List.mem_append_right _ (List.mem_append_left _ hz)))
  obtain ⟨boot, e0, _, wb⟩ := DataW.trod_int Try.underlying35 h0
  obtain ⟨ra, rc, rs, e1, hrh, hr1, hr2, hr3, hrg, hrow⟩ := bulk_row (c := 2) (fun r : Int × Int => [.int .u64 r.1, .int .u64 r.2]) (fun r => (0 ≤ r.1 ∧ r.1 ≤ 18446744073709551615) ∧ (0 ≤ r.2 ∧ r.2 ≤ 18446744073709551615)) (fun _ => 16) Try.underlying36 Try.cellsRes (by omega) (fun _ => rfl) (fun n cs y _ hy _ => by obtain ⟨r, h1, h2⟩ := open_res hy; exact ⟨r, h1, h2, by have := bulk_one y.1; omega⟩) h1 hw1
  obtain ⟨root, e2, hin, hroot⟩ := bulk_nd _ n _ _ (Nat.le_refl _) h2 hw2
  simp only [List.cons.injEq, and_true] at e0 e1 e2
  obtain ⟨rfl, rfl, rfl⟩ := e2
  subst e0 e1
  rw [Try.bytesRes] at hr3
  refine ⟨⟨boot, ra, rc, rs, root⟩, rfl, ⟨bounds_u32 wb, ⟨hr1, hr2, hr3⟩, fun h0 => by
    obtain ⟨b, o, e, hb, hc⟩ := hrow h0
    exact ⟨b, o, e, hb, fun i hi => ⟨hc i hi 0 (by omega), hc i hi 1 (by omega)⟩⟩, hrg, hin⟩, ?_, ?_⟩
  · simp only [Rows.uptoBulk, Rows.uptoBulkAll]; omega
  · have e : (rs.map (fun _ => 16)).sum = 16 * rs.length := sixteen rs
    simp only [Rows.uptoBulk, Rows.uptoBulkAll]; omega
end
end Go.Proofs.Ytfekjihjifimcaa
