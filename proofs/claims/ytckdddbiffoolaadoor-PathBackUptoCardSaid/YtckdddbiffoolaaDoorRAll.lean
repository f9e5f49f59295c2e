/-
  The program's All: the places of all nodes.
-/
import Derived.Test.YtckdddbiffoolaaDoorRCat
import Derived.Test.YtckdddbiffoolaaDoorLPathAll
namespace Go.Proofs.YtckdddbiffoolaaDoor
open Go.RowKit
set_option linter.unusedVariables false
set_option linter.unusedSimpArgs false

/-- What a call that puts values behind a list of its own leaves: the list may have moved to a new block; of all else nothing has turned. -/
structure Went (w w' : World) (v v' : Value) : Prop where
  grown : w.grownBy w' v.ownBlock
  own : v'.ownBlock = v.ownBlock ∨ ∃ g, v'.ownBlock = some g ∧ w.heap.size ≤ g
theorem Went.refl (w : World) (v : Value) : Went w w v v := ⟨World.grownBy.refl w _, .inl rfl⟩
theorem Went.trans {a b c : World} {u v x : Value} (h : Went a b u v) (k : Went b c v x) : Went a c u x := by
  refine ⟨⟨k.grown.os.trans h.grown.os, k.grown.tape.trans h.grown.tape, k.grown.output.trans h.grown.output, Nat.le_trans h.grown.size k.grown.size, fun i hi hne => ?_⟩, ?_⟩
  · refine (k.grown.block i (Nat.lt_of_lt_of_le hi h.grown.size) (fun e => ?_)).trans (h.grown.block i hi hne)
    rcases h.own with e2 | ⟨g, e2, hg⟩
    · exact hne (e.trans e2)
    · rw [e2] at e; have := Option.some.inj e; omega
  · rcases k.own with e | ⟨g, e, hg⟩
    · rcases h.own with e2 | ⟨g, e2, hg⟩
      · exact .inl (e.trans e2)
      · exact .inr ⟨g, e.trans e2, hg⟩
    · exact .inr ⟨g, e, Nat.le_trans h.grown.size hg⟩
theorem Went.below {w w' : World} {v v' : Value} {B : Nat} (h : Went w w' v v') (hB : B ≤ w.heap.size) (hv : ∀ g, v.ownBlock = some g → B ≤ g) : Below B w w' := (Below.refl B w).grown h.grown hB hv
theorem Went.of_below {w w' : World} (v : Value) (h : Below w.heap.size w w') : Went w w' v v := ⟨⟨h.os, h.tape, h.output, h.size, fun k hk _ => h.block k hk⟩, .inl rfl⟩
theorem PlV.went {w w' : World} {lo : Nat} {v v' x : Value} {p : List Nat} (h : PlV w lo w.heap.size v.ownBlock x p) (hw : Went w w' v v') : PlV w' lo w'.heap.size v'.ownBlock x p :=
  h.keep hw.grown.size (fun a ha hne => World.cell?_of_block (w := w) (hw.grown.block _ ha (fun e => hne e.symm))) (fun b hb hne => by
    rcases hw.own with e | ⟨g, e, hg⟩
    · rw [e]; exact hne
    · rw [e]; intro e2; have := Option.some.inj e2; omega)
/-- One place is put behind. -/
theorem app_place1 {w : World} {lo g : Nat} {v x : Value} {ps : List (List Nat)} {p : List Nat} (hv : PlRow w lo v ps) (hx : PlV w lo w.heap.size v.ownBlock x p) (hg : w.cell? ⟨g, 0, none⟩ = some x) (hlo : lo ≤ w.heap.size) (hbig : ps.length + 1 ≤ 1073741824) :
    ∃ A' n' c' w', (Builtin.append_ #[34, 34] 34 #[v, .slice (some ⟨g, 0, none⟩) 1 1]).run Tryd.prog w = .ok (.slice A' n' c') w' ∧ PlRow w' lo (.slice A' n' c') (ps ++ [p]) ∧ Went w w' v (.slice A' n' c') := by
  obtain ⟨vs, hv1, hv2⟩ := hv.row
  have lv := hv2.len
  rw [← lv] at hv1
  obtain ⟨i0, hi, hz, hs1, hb⟩ := info_any info_ints
  have hcel : Cel w (g + 1) (some ⟨g, 0, none⟩) 1 [x] := ⟨rfl, fun _ => ⟨g, 0, rfl, Nat.lt_succ_self _, fun i hi => by
    obtain rfl : i = 0 := by omega
    exact hg⟩⟩
  obtain ⟨v', w', r, g1, g2, g3⟩ := app_cel Tryd.underlying34 hi hz hs1 hb rfl 1 hv1 hcel (fun u hu => by rw [List.mem_singleton.1 hu]; exact hx.one) (by simp only [List.length_cons, List.length_nil]; omega) (by simp only [List.length_cons, List.length_nil]; omega) hlo 34
  obtain ⟨A', c', rfl, _, _, _, _⟩ := owned_cel g1
  have hw : Went w w' v (.slice A' (vs ++ [x]).length c') := ⟨g2, by
    rcases g3 with e | e
    · exact .inl e
    · exact .inr ⟨_, e, Nat.le_refl _⟩⟩
  have e : (ps ++ [p]).length = (vs ++ [x]).length := by rw [List.length_append, List.length_append, lv]; rfl
  refine ⟨A', _, c', w', r, ⟨vs ++ [x], by rw [e]; exact g1, Two.app (hv2.mono fun y q hy => hy.went hw) (.cons (hx.went hw) .nil)⟩, hw⟩

/-- An argument's cell, kept by what a call leaves. -/
theorem went_cell {w w' : World} {v v' : Value} (h : Went w w' v v') {a : Addr} (hlt : a.block < w.heap.size) (hne : v.ownBlock ≠ some a.block) : w'.cell? a = w.cell? a := World.cell?_of_block (w := w) (h.grown.block _ hlt (fun e => hne e.symm))

set_option maxRecDepth 20000 in
set_option maxHeartbeats 8000000 in
theorem appendAll_any : ∀ (n : Nd) (p : List Nat) (lo : Nat) (lv : Value) (ps : List (List Nat)) (pA : Option Addr) (pl pc : Nat) (w : World), PlRow w lo lv ps → lo ≤ w.heap.size → n.In w lo → PlV w lo w.heap.size lv.ownBlock (.slice pA pl pc) p → p.length = pl → ps.length + heftN n ≤ 268435456 → pl + heftN n ≤ 268435456 →
    Calls Tryd.prog 14 #[lv, n.val, .slice pA pl pc] w fun e w' => ∃ v, e = .returned v ∧ PlRow w' lo v (ps ++ placesN n p) ∧ Went w w' lv v := by
  refine Nd.ind ?_
  intro n ih p lo lv ps pA pl pc w hrow hlo hin hp hpl hz hzl
  have HI := Lib.hid hin
  have HP := Lib.hid hp
  have IH := Lib.hid ih
  have HZ := Lib.hid (And.intro hz hzl)
  have HLO := Lib.hid hlo
  obtain ⟨hkl, hkm⟩ := hin.klen
  have HPN := Lib.hid (placesN_mk n p)
  have HZL : Hid (heftN n = 16 + n.name.size + (n.props.map heftP).sum + heftL n.kids) := Lib.hid (by cases n; rw [heftN]; rfl)
  have HPL := Lib.hid hpl
  have HR0 : Hid (∀ g, lv.ownBlock = some g → lo ≤ g) := Lib.hid (fun g hg => (hrow.lt g hg).1)
  obtain ⟨nm, pa, pc', pps, ka, kc, ks⟩ := n
  replace hkl : ks.length ≤ kc := hkl
  replace hkm : kc ≤ 9223372036854775807 := hkm
  show Calls _ _ #[lv, .agg #[.string nm, .slice pa pps.length pc', .slice ka ks.length kc], .slice pA pl pc] _ _
  obtain ⟨vs0, hown0, _⟩ := hrow.row
  obtain ⟨lA, lc, hle, _⟩ := owned_cel hown0
  have HW0 : Hid (Went w ((w.alloc (.cells #[Value.string nm, .slice pa pps.length pc', .slice ka ks.length kc] 27)).alloc (.cells #[.slice pA pl pc] 38)) lv lv) := Lib.hid (Went.of_below lv (((Below.refl w.heap.size w).alloc (Nat.le_refl _) _).alloc (by simp) _))
  have R1 : Hid (∃ A1 n1 c1 w1, (Builtin.append_ #[34, 34] 34 #[lv, .slice (some ⟨w.heap.size + 1, 0, none⟩) 1 1]).run Tryd.prog ((w.alloc (.cells #[Value.string nm, .slice pa pps.length pc', .slice ka ks.length kc] 27)).alloc (.cells #[.slice pA pl pc] 38)) = .ok (.slice A1 n1 c1) w1 ∧ PlRow w1 lo (.slice A1 n1 c1) (ps ++ [p]) ∧ Went w w1 lv (.slice A1 n1 c1) ∧ w1.cell? ⟨w.heap.size, 2, none⟩ = some (.slice ka ks.length kc)) := by
    have hb := ((Below.refl w.heap.size w).alloc (Nat.le_refl _) (.cells #[Value.string nm, .slice pa pps.length pc', .slice ka ks.length kc] 27)).alloc (by simp) (.cells #[.slice pA pl pc] 38)
    obtain ⟨A1, n1, c1, w1, r, h1, h2⟩ := app_place1 (g := w.heap.size + 1) (x := .slice pA pl pc) (p := p) (hrow.on hb) (HP.out.went HW0.out) (by simp) (Nat.le_trans hlo hb.size) (by have := HZ.out.1; rw [HZL.out] at this; omega)
    refine Lib.hid ⟨A1, n1, c1, w1, r, h1, HW0.out.trans h2, ?_⟩
    rw [went_cell h2 (by simp; omega) (fun e => by have := (hrow.lt _ e).2; simp at this)]
    have e := World.cell?_alloc_new w #[Value.string nm, .slice pa pps.length pc', .slice ka ks.length kc] 27 2
    exact (Lib.cell?_alloc_some _ e).trans rfl
  subst hle
  clear hown0 hrow hin hp ih hz hzl hlo hpl HW0
  obtain ⟨A1, n1, c1, w1, r1, hr1, hw1, x2⟩ := R1.out
  have HR1 := Lib.hid hr1
  have HW1 := Lib.hid hw1
  clear R1 hr1 hw1
  go_enter Tryd.func14, Tryd.ntmps14
  go_wp2_with (at_builtin; refine Lib.wpList_append_run_sl _ rfl _ _ _ rfl _ _ rfl rfl r1 ?_)
  clear r1 x2
  go_loopw [0, 16] (fun out i wr => ∃ j : Nat, j ≤ ks.length ∧ i = .int .i64 j ∧ PlRow wr lo out (ps ++ p :: placesL (ks.take j) p 0) ∧ Went w wr (.slice lA ps.length lc) out) (fun _ i _ => ks.length - (intOf i).toNat)
  case atStart => exact ⟨0, Nat.zero_le _, rfl, by simpa [placesL] using HR1.out, HW1.out⟩
  case round =>
    obtain ⟨j, hj, rfl, hrow, hw⟩ := hrel
    have HR := Lib.hid hrow
    have HWX := Lib.hid hw
    obtain ⟨vs, hown, _⟩ := hrow.row
    obtain ⟨Ao, co, rfl, _, _, _, _⟩ := owned_cel hown
    by_cases hlt : j < ks.length
    · have hbel : Below lo w wr := hw.below HLO.out (fun g hg => (HR0.out _ hg))
      have HBL := Lib.hid hbel
      obtain ⟨b, o, e, hbk, c0, c1', c2⟩ := (HI.out.under hbel).kcell (i := j) hlt
      obtain rfl : ka = _ := e
      have hkin := HI.out.kid (k := ks[j]) (List.getElem_mem hlt)
      have hheft : heftN ks[j] ≤ heftL ks ∧ (placesL (ks.take j) p 0).length + heftN ks[j] ≤ heftL ks := by
        have h1 := heftL_next ks j hlt
        have h2 := heftL_take ks (j + 1)
        have h3 := placesL_len (ks.take j) p 0
        omega
      have hz1 : ps.length + (16 + nm.size + (pps.map heftP).sum + heftL ks) ≤ 268435456 := by
        have h1 := HZ.out.1
        rw [HZL.out] at h1
        exact h1
      have hz2 : pl + (16 + nm.size + (pps.map heftP).sum + heftL ks) ≤ 268435456 := by
        have h1 := HZ.out.2
        rw [HZL.out] at h1
        exact h1
      have HNX : Hid (ps ++ p :: placesL (ks.take (j + 1)) p 0 = (ps ++ p :: placesL (ks.take j) p 0) ++ placesN ks[j] (p ++ [j])) := Lib.hid (by rw [placesL_next ks p j hlt]; simp)
      have CALL : Hid (∀ (A : Option Addr) (c : Nat) (W : World), Below wr.heap.size wr W → PlV W lo W.heap.size (Value.slice Ao (ps ++ p :: placesL (ks.take j) p 0).length co).ownBlock (.slice A (pl + 1) c) (p ++ [j]) → Calls Tryd.prog 14 #[.slice Ao (ps ++ p :: placesL (ks.take j) p 0).length co, ks[j].val, .slice A (pl + 1) c] W fun e w' => ∃ v, e = .returned v ∧ PlRow w' lo v ((ps ++ p :: placesL (ks.take j) p 0) ++ placesN ks[j] (p ++ [j])) ∧ Went W w' (.slice Ao (ps ++ p :: placesL (ks.take j) p 0).length co) v) := Lib.hid (fun A c W hbW hplv =>
        IH.out ks[j] (List.getElem_mem hlt) (p ++ [j]) lo _ (ps ++ p :: placesL (ks.take j) p 0) A (pl + 1) c W (HR.out.on hbW) (Nat.le_trans HLO.out (Nat.le_trans HWX.out.grown.size hbW.size)) ((hkin.under HBL.out).under (hbW.mono (Nat.le_trans HLO.out HWX.out.grown.size))) hplv (by rw [List.length_append, HPL.out]; rfl) (by simp only [List.length_append, List.length_cons]; omega) (by omega))
      have CAT : Hid (∀ (W : World) (g g1 : Nat), Below wr.heap.size wr W → g < W.heap.size → g1 < W.heap.size → W.cell? ⟨g1, 0, none⟩ = some (.int .i64 (j : Int)) → W.cell? ⟨g, 0, none⟩ = some (.slice pA pl pc) → W.cell? ⟨g, 1, none⟩ = some (.slice (some ⟨g1, 0, none⟩) 1 1) →
          Calls Tryd.prog 24 #[.slice (some ⟨g, 0, none⟩) 2 2] W fun e w' => ∃ A c, e = .returned (.slice A (pl + 1) c) ∧ Below W.heap.size W w' ∧ PlV w' lo w'.heap.size (Value.slice Ao (ps ++ p :: placesL (ks.take j) p 0).length co).ownBlock (.slice A (pl + 1) c) (p ++ [j])) := Lib.hid (fun W g g1 hbW hg hg1 e1 e2 e3 => by
        have hpv := (HP.out.went HWX.out).went (Went.of_below _ hbW)
        obtain ⟨A', c', ee, hcel, _, _, _⟩ := hpv
        simp only [Value.slice.injEq] at ee
        obtain ⟨rfl, rfl, rfl⟩ := ee
        refine (concatI_any g 2 2 [(pA, p.length, pc, p), (some ⟨g1, 0, none⟩, 1, 1, [j])] W rfl (by omega) (Nat.le_refl _) (by omega) ?_ hg ?_ (by simp only [sumLenI]; omega)).mono ?_
        · intro i q hq
          match i, hq with
          | 0, hq => simp only [List.getElem?_cons_zero, Option.some.injEq] at hq; subst hq; exact e2
          | 1, hq => simp only [List.getElem?_cons_succ, List.getElem?_cons_zero, Option.some.injEq] at hq; subst hq; exact e3
          | i + 2, hq => simp at hq
        · intro q hq
          simp only [List.mem_cons, List.not_mem_nil, or_false] at hq
          rcases hq with rfl | rfl
          · exact hcel
          · exact ⟨rfl, fun _ => ⟨g1, 0, rfl, hg1, fun i hi => by
              obtain rfl : i = 0 := Nat.lt_one_iff.1 hi
              exact e1⟩⟩
        · rintro e w' ⟨v, rfl, h1, h2⟩
          simp only [sumLenI, joinedI, List.append_nil, Nat.add_zero] at h1
          obtain ⟨A, c, rfl, hc, h3, h4, h5⟩ := owned_cel h1
          refine ⟨A, c, rfl, h2, A, c, by rw [List.length_append]; rfl, by rw [List.length_append]; exact hc, by rw [List.length_append]; exact h3, h4, fun h0 b o e => ?_⟩
          subst e
          have h6 := (h5 b rfl).1
          refine ⟨Nat.le_trans HLO.out (Nat.le_trans HWX.out.grown.size (Nat.le_trans hbW.size h6)), fun e => ?_⟩
          have h7 := (HR.out.lt _ e).2
          exact Nat.lt_irrefl _ (Nat.lt_of_lt_of_le h7 (Nat.le_trans hbW.size h6)))
      have HLT : Hid (∀ g, (Value.slice Ao (ps ++ p :: placesL (ks.take j) p 0).length co).ownBlock = some g → g < wr.heap.size) := Lib.hid (fun g e => (HR.out.lt _ e).2)
      generalize hM : (ps ++ p :: placesL (ks.take j) p 0).length = M at *
      obtain ⟨Q, hQ⟩ : ∃ Q, placesN ks[j] (p ++ [j]) = Q := ⟨_, rfl⟩
      obtain ⟨kd, hkd⟩ : ∃ kd, ks[j] = kd := ⟨_, rfl⟩
      rw [hQ] at CALL HNX
      replace c0 : _ = some (Value.string ks[j].name) := c0
      replace c1' : _ = some ks[j].pv := c1'
      replace c2 : _ = some ks[j].kv := c2
      rw [hkd] at CALL c0 c1' c2
      clear hQ hkd hkin hheft hz1 hz2 hw hrow hown hM hbel
      obtain ⟨kn, kpa, kpc, kps, kka, kkc, kks⟩ := kd
      replace c0 : _ = some (Value.string kn) := c0
      replace c1' : _ = some (Value.slice kpa kps.length kpc) := c1'
      replace c2 : _ = some (Value.slice kka kks.length kkc) := c2
      replace CALL : Hid (∀ (A : Option Addr) (c : Nat) (W : World), Below wr.heap.size wr W → PlV W lo W.heap.size (Value.slice Ao M co).ownBlock (.slice A (pl + 1) c) (p ++ [j]) → Calls Tryd.prog 14 #[.slice Ao M co, .agg #[.string kn, .slice kpa kps.length kpc, .slice kka kks.length kkc], .slice A (pl + 1) c] W fun e w' => ∃ v, e = .returned v ∧ PlRow w' lo v ((ps ++ p :: placesL (ks.take j) p 0) ++ Q) ∧ Went W w' (.slice Ao M co) v) := CALL
      generalize kps.length = kpl at *
      generalize kks.length = kkl at *
      have HS : Hid (∀ W, Below (wr.heap.size + 1) (wr.alloc (.cells #[Value.string kn, .slice kpa kpl kpc, .slice kka kkl kkc] 27)) W → (W.cell? ⟨wr.heap.size, 0, none⟩ = some (Value.string kn) ∧ W.cell? ⟨wr.heap.size, 1, none⟩ = some (Value.slice kpa kpl kpc) ∧ W.cell? ⟨wr.heap.size, 2, none⟩ = some (Value.slice kka kkl kkc))) := Lib.hid (fun W hW => ⟨(hW.cell (p := ⟨wr.heap.size, 0, none⟩) (Nat.lt_succ_self _)).trans (World.cell?_alloc_new _ _ _ _), (hW.cell (p := ⟨wr.heap.size, 1, none⟩) (Nat.lt_succ_self _)).trans (World.cell?_alloc_new _ _ _ _), (hW.cell (p := ⟨wr.heap.size, 2, none⟩) (Nat.lt_succ_self _)).trans (World.cell?_alloc_new _ _ _ _)⟩)
      have HS2 : Hid (∀ (W W' : World) (v' : Value), Below (wr.heap.size + 1) (wr.alloc (.cells #[Value.string kn, .slice kpa kpl kpc, .slice kka kkl kkc] 27)) W → Went W W' (.slice Ao M co) v' → (W'.cell? ⟨wr.heap.size, 0, none⟩ = some (Value.string kn) ∧ W'.cell? ⟨wr.heap.size, 1, none⟩ = some (Value.slice kpa kpl kpc) ∧ W'.cell? ⟨wr.heap.size, 2, none⟩ = some (Value.slice kka kkl kkc))) := Lib.hid (fun W W' v' hW hw => by
        have h1 : ∀ k, W'.cell? ⟨wr.heap.size, k, none⟩ = W.cell? ⟨wr.heap.size, k, none⟩ := fun k => went_cell hw (by have := hW.size; simp at this; show wr.heap.size < _; omega) (fun e => by have := HLT.out _ e; exact Nat.lt_irrefl _ this)
        rw [h1, h1, h1]
        exact HS.out W hW)
      have HA := Lib.hid ((Below.refl wr.heap.size wr).alloc (Nat.le_refl _) (.cells #[Value.string kn, .slice kpa kpl kpc, .slice kka kkl kkc] 27))
      have HD := Lib.hid (Below.refl (wr.heap.size + 1) (wr.alloc (.cells #[Value.string kn, .slice kpa kpl kpc, .slice kka kkl kkc] 27))).drew
      have H4 := Lib.hid (HD.out.alloc (by simp) (.cells #[Value.int .i64 (j : Int)] 3))
      have H5 := Lib.hid (H4.out.alloc (by simp) (.cells #[.slice pA pl pc, .slice (some ⟨wr.heap.size + 1, 0, none⟩) 1 1] 38))
      have e0 : ((wr.alloc (.cells #[Value.string kn, .slice kpa kpl kpc, .slice kka kkl kkc] 27)).drew).heap.size = wr.heap.size + 1 := by simp
      have e1 : (((wr.alloc (.cells #[Value.string kn, .slice kpa kpl kpc, .slice kka kkl kkc] 27)).drew.alloc (.cells #[Value.int .i64 (j : Int)] 3))).heap.size = wr.heap.size + 1 + 1 := by simp
      have E1 : (((wr.alloc (.cells #[Value.string kn, .slice kpa kpl kpc, .slice kka kkl kkc] 27)).drew.alloc (.cells #[Value.int .i64 (j : Int)] 3)).alloc (.cells #[.slice pA pl pc, .slice (some ⟨wr.heap.size + 1, 0, none⟩) 1 1] 38)).cell? ⟨wr.heap.size + 1, 0, none⟩ = some (.int .i64 (j : Int)) := Lib.cell?_alloc_some _ (by rw [← e0]; exact World.cell?_alloc_new _ _ _ _)
      have E2 : (((wr.alloc (.cells #[Value.string kn, .slice kpa kpl kpc, .slice kka kkl kkc] 27)).drew.alloc (.cells #[Value.int .i64 (j : Int)] 3)).alloc (.cells #[.slice pA pl pc, .slice (some ⟨wr.heap.size + 1, 0, none⟩) 1 1] 38)).cell? ⟨wr.heap.size + 1 + 1, 0, none⟩ = some (.slice pA pl pc) := by rw [← e1]; exact World.cell?_alloc_new _ _ _ _
      have E3 : (((wr.alloc (.cells #[Value.string kn, .slice kpa kpl kpc, .slice kka kkl kkc] 27)).drew.alloc (.cells #[Value.int .i64 (j : Int)] 3)).alloc (.cells #[.slice pA pl pc, .slice (some ⟨wr.heap.size + 1, 0, none⟩) 1 1] 38)).cell? ⟨wr.heap.size + 1 + 1, 1, none⟩ = some (.slice (some ⟨wr.heap.size + 1, 0, none⟩) 1 1) := by rw [← e1]; exact World.cell?_alloc_new _ _ _ _
      have CC := Lib.hid (CAT.out (((wr.alloc (.cells #[Value.string kn, .slice kpa kpl kpc, .slice kka kkl kkc] 27)).drew.alloc (.cells #[Value.int .i64 (j : Int)] 3)).alloc (.cells #[.slice pA pl pc, .slice (some ⟨wr.heap.size + 1, 0, none⟩) 1 1] 38)) (wr.heap.size + 1 + 1) (wr.heap.size + 1) (HA.out.trans (H5.out.mono (Nat.le_succ _))) (by simp) (by simp) E1 E2 E3)
      clear e0 e1 E1 E2 E3
      go_wp2_with fail
      refine wp_region_held_drew (S := fun W => W.cell? ⟨wr.heap.size, 0, none⟩ = some (Value.string kn) ∧ W.cell? ⟨wr.heap.size, 1, none⟩ = some (Value.slice kpa kpl kpc) ∧ W.cell? ⟨wr.heap.size, 2, none⟩ = some (Value.slice kka kkl kkc)) (by kernel_rfl) (HS.out _ HD.out) (fun hHeld => ?_)
      refine held_take 0 rfl (by kernel_rfl) (by kernel_rfl) (by kernel_rfl) (fun _ _ _ h => h) (by rfl) hHeld (v := ?_) (fun w hSw => ?_) (fun _ => ?_)
      rotate_left
      · ((try dsimp only at hSw); go_simp; (try with_reducible rfl))
      simp only [Act.put, List.setIfInBounds_toArray, List.set_cons_zero, List.set_cons_succ]
      refine held_take 1 rfl (by kernel_rfl) (by kernel_rfl) (by kernel_rfl) (fun _ _ _ h => h) (by rfl) hHeld (v := ?_) (fun w hSw => ?_) (fun _ => ?_)
      rotate_left
      · ((try dsimp only at hSw); go_simp; (try with_reducible rfl))
      simp only [Act.put, List.setIfInBounds_toArray, List.set_cons_zero, List.set_cons_succ]
      refine held_take 2 rfl (by kernel_rfl) (by kernel_rfl) (by kernel_rfl) (fun _ _ _ h => h) (by rfl) hHeld (v := ?_) (fun w hSw => ?_) (fun _ => ?_)
      rotate_left
      · ((try dsimp only at hSw); go_simp; (try with_reducible rfl))
      simp only [Act.put, List.setIfInBounds_toArray, List.set_cons_zero, List.set_cons_succ]
      refine held_take 3 rfl (by kernel_rfl) (by kernel_rfl) (by kernel_rfl) (fun _ _ _ h => h) (by rfl) hHeld (v := ?_) (fun w hSw => ?_) (fun _ => ?_)
      rotate_left
      · ((try dsimp only at hSw); go_simp; (try with_reducible rfl))
      simp only [Act.put, List.setIfInBounds_toArray, List.set_cons_zero, List.set_cons_succ]
      refine held_call 4 (by kernel_rfl) rfl (by rfl) (fun K hK => ?_)
      go_simp
      refine hK.out _ _ (HS.out _ H4.out) (fun hHeld => ?_)
      clear hK K
      refine held_call 5 (by kernel_rfl) rfl (by rfl) (fun K hK => ?_)
      go_simp
      refine hK.out _ _ (HS.out _ H5.out) (fun hHeld => ?_)
      clear hK K
      refine held_call 6 (by kernel_rfl) rfl (by rfl) (fun K hK => ?_)
      go_simp
      refine CC.out.mono ?_
      rintro e w3 ⟨A3, c3, rfl, hb3, hplv⟩
      have B3 := Lib.hid (H5.out.trans (hb3.mono (Nat.le_trans (by simp) H5.out.size)))
      have CP := Lib.hid (CALL.out A3 c3 w3 (HA.out.trans (B3.out.mono (Nat.le_succ _))) hplv)
      clear hb3 hplv
      dsimp only
      refine hK.out _ _ (HS.out _ B3.out) (fun hHeld => ?_)
      clear hK K
      refine held_call 7 (by kernel_rfl) rfl (by rfl) (fun K hK => ?_)
      go_simp
      refine CP.out.mono ?_
      rintro e w4 ⟨v4, rfl, hr4, hw4⟩
      have B4 := Lib.hid (HS2.out _ _ _ B3.out hw4)
      have HR4 := Lib.hid hr4
      have HW4 : Hid (Went wr w4 (.slice Ao M co) v4) := Lib.hid ((Went.of_below _ (HA.out.trans (B3.out.mono (Nat.le_succ _)))).trans hw4)
      clear hr4 hw4
      dsimp only
      refine hK.out _ _ B4.out (fun hHeld => ?_)
      clear hK K
      refine held_take 8 rfl (by kernel_rfl) (by kernel_rfl) (by kernel_rfl) (fun _ _ _ h => h) (by rfl) hHeld (v := ?_) (fun w hSw => ?_) (fun _ => ?_)
      rotate_left
      · ((try dsimp only at hSw); go_simp; (try with_reducible rfl))
      simp only [Act.put, List.setIfInBounds_toArray, List.set_cons_zero, List.set_cons_succ]
      refine wpAnyH_done (by kernel_rfl) ?_ _
      clear hHeld
      go_wp2
      go_roundw
      case rel => exact ⟨j + 1, by omega, by go_num, by rw [HNX.out]; exact HR4.out, HWX.out.trans HW4.out⟩
      case measure => simp [intOf]; omega
    · obtain rfl : j = ks.length := by omega
      have HE : Hid (p :: placesL (ks.take ks.length) p 0 = placesN (Nd.mk nm pa pc' pps ka kc ks) p) := Lib.hid (by rw [List.take_length]; exact HPN.out.symm)
      clear hrow hw hown
      go_wp2
      go_ret
      exact ⟨_, rfl, by rw [← HE.out]; exact HR.out, HWX.out⟩

set_option maxHeartbeats 1000000 in
theorem allOK : AllOK := by
  intro t w hin hheft
  have HC := Lib.hid (fun (W : World) (hW : Below w.heap.size w W) => appendAll_any t.root [] w.heap.size (.slice none 0 0) [] none 0 0 W ⟨[], World.ownsRow_nil _ _ _ _, .nil⟩ hW.size (hin.root.under hW) ⟨none, 0, rfl, Cel.nil _ _ _, Nat.le_refl _, by omega, fun h => absurd h (by simp)⟩ rfl (by simp only [List.length_nil]; omega) (by omega))
  clear hin hheft
  generalize hPS : placesN t.root [] = PS at *
  clear hPS
  obtain ⟨boot, ra, rc, rs, ⟨nm, pa, pc, ps, ka, kc, ks⟩⟩ := t
  replace HC : Hid (∀ (W : World) (hW : Below w.heap.size w W), Calls Tryd.prog 14 #[.slice none 0 0, .agg #[.string nm, .slice pa ps.length pc, .slice ka ks.length kc], .slice none 0 0] W fun e w' => ∃ v, e = .returned v ∧ PlRow w' w.heap.size v ([] ++ PS) ∧ Went W w' (.slice none 0 0) v) := HC
  show Calls _ _ #[.agg #[.int .u32 boot, .slice ra rs.length rc, .string nm, .slice pa ps.length pc, .slice ka ks.length kc]] _ _
  have HB := Lib.hid ((Below.refl w.heap.size w).alloc (Nat.le_refl _) (.cells #[.int .u32 boot, .slice ra rs.length rc, .string nm, .slice pa ps.length pc, .slice ka ks.length kc] 29))
  obtain ⟨b0, b1, b2, b3, b4⟩ := box6_cells w (.int .u32 boot) (.slice ra rs.length rc) (.string nm) (.slice pa ps.length pc) (.slice ka ks.length kc) _ (Below.refl _ _)
  go_enter Tryd.func7, Tryd.ntmps7
  go_wp2_with fail
  refine (HC.out _ HB.out).mono ?_
  rintro e w1 ⟨v, rfl, hr, hw⟩
  have HR := Lib.hid hr
  have HW := Lib.hid (HB.out.trans (hw.below HB.out.size (fun g h => by simp [Value.ownBlock] at h)))
  clear hr hw b0 b1 b2 b3 b4
  go_wp2
  go_ret
  exact ⟨⟨_, rfl, by simpa using HR.out⟩, HW.out⟩
end Go.Proofs.YtckdddbiffoolaaDoor
