/-
  Base, part 9: what the proofs of this claim lean on.
-/
import Derived.Test.YtihlpcbebpnmkaaGreatDoorBase8
import Derived.Test.YtihlpcbebpnmkaaGreatDoorBase2
import Derived.BigQuiet

/-! The places of a node and of all below it: the document's answer. -/
namespace Go.Proofs.YtihlpcbebpnmkaaGreatDoor
open Go.RowKit
set_option linter.unusedVariables false
set_option linter.unusedSimpArgs false

mutual
/-- The places of a node that stands at p, and of all below it, in order. -/
def placesN : Nd → List Nat → List (List Nat)
  | .mk _ _ _ _ _ _ ks, p => p :: placesL ks p 0
def placesL : List Nd → List Nat → Nat → List (List Nat)
  | [], _, _ => []
  | k :: r, p, i => placesN k (p ++ [i]) ++ placesL r p (i + 1)
end
theorem placesN_mk (n : Nd) (p : List Nat) : placesN n p = p :: placesL n.kids p 0 := by cases n; rw [placesN]; rfl
theorem placesL_append : ∀ (a b : List Nd) (p : List Nat) (i : Nat), placesL (a ++ b) p i = placesL a p i ++ placesL b p (i + a.length)
  | [], b, p, i => by simp [placesL]
  | x :: a, b, p, i => by
    simp only [List.cons_append, placesL, placesL_append a b, List.append_assoc, List.length_cons]
    congr 3; omega
theorem placesL_next (ks : List Nd) (p : List Nat) (j : Nat) (h : j < ks.length) : placesL (ks.take (j + 1)) p 0 = placesL (ks.take j) p 0 ++ placesN ks[j] (p ++ [j]) := by
  rw [take_next ks j h, placesL_append]
  simp [placesL, Nat.min_eq_left (Nat.le_of_lt h)]
/-- How many they are, and how long: by the node's weight. -/
theorem places_len : ∀ (n : Nd) (p : List Nat), (placesN n p).length ≤ heftN n ∧ ∀ q ∈ placesN n p, q.length ≤ p.length + heftN n := by
  refine Nd.ind ?_
  intro n ih p
  have hl : ∀ (r : List Nd) (i : Nat), (∀ k ∈ r, k ∈ n.kids) → (placesL r p i).length ≤ heftL r ∧ ∀ q ∈ placesL r p i, q.length ≤ p.length + 1 + heftL r := by
    intro r
    induction r with
    | nil => intro i _; simp [placesL]
    | cons k r ihr =>
      intro i hr
      obtain ⟨a1, a2⟩ := ih k (hr k (by simp)) (p ++ [i])
      obtain ⟨b1, b2⟩ := ihr (i + 1) (fun x hx => hr x (by simp [hx]))
      rw [placesL, heftL]
      refine ⟨by rw [List.length_append]; omega, fun q hq => ?_⟩
      rcases List.mem_append.1 hq with h | h
      · have := a2 q h; simp at this; omega
      · have := b2 q h; omega
  obtain ⟨h1, h2⟩ := hl n.kids 0 (fun _ h => h)
  have e : heftN n = 16 + n.name.size + (n.props.map heftP).sum + heftL n.kids := by cases n; rw [heftN]; rfl
  rw [placesN_mk]
  refine ⟨by simp only [List.length_cons]; omega, fun q hq => ?_⟩
  rcases List.mem_cons.1 hq with rfl | h
  · omega
  · have := h2 q h; omega

theorem wp_app {P : Program} {w w' : World} {o : Oper} {a : Act} {K : Act → World → Prop} {Q : Exit → Act → World → Prop} {t u : TypeId} (s x : Operand) (ho : o.op = .call { callee := .builtin .append, args := #[s, x], argTypes := #[t, u] })
    (y z : Value) (hs : a.eval s = y) (hx : a.eval x = z) {v : Value} (hr : (Builtin.append_ #[t, u] o.type #[y, z]).run P w = .ok v w') (hK : K (a.put o.dst v) w') : o.wp P a w K Q := by
  unfold Oper.wp execOp
  simp only [ho, resolve, invoke, builtin, Sem.run_bind, Sem.run_pure, Result.andThen_ok, List.map_toArray, List.map_cons, List.map_nil, hs, hx, hr]
  exact hK
theorem own_new (W : World) (B : Nat) (hB : B ≤ W.heap.size) : (W.alloc (.cells #[] 3)).ownsRow B 3 1 (.slice (some ⟨W.heap.size, 0, none⟩) 0 0) 0 (ints []) := World.ownsRow_made W #[] 0 hB (Nat.zero_le _) rfl
/-- A row of one number. -/
theorem one_new (W : World) (j : Nat) : Cel (W.alloc (.cells #[Value.int .i64 (j : Int)] 3)) (W.heap.size + 1) (some ⟨W.heap.size, 0, none⟩) 1 (ints [j]) :=
  ⟨rfl, fun _ => ⟨W.heap.size, 0, rfl, Nat.lt_succ_self _, fun i hi => by
    obtain rfl : i = 0 := by omega
    exact World.cell?_alloc_new _ _ _ _⟩⟩
theorem one_kept {W W' : World} {g r j : Nat} (h : Cel W (g + 1) (some ⟨g, 0, none⟩) 1 (ints [j])) (hg : W.grownBy W' (some r)) (hne : g ≠ r ∧ g < W.heap.size) : Cel W' (g + 1) (some ⟨g, 0, none⟩) 1 (ints [j]) :=
  ⟨rfl, fun _ => ⟨g, 0, rfl, Nat.lt_succ_self _, fun i hi => by
    obtain ⟨b, o, e, _, hc⟩ := h.2 (by omega)
    simp only [Option.some.injEq, Addr.mk.injEq] at e
    obtain ⟨rfl, rfl, _⟩ := e
    rw [← hc i hi]
    exact World.cell?_of_block (w := W) (hg.block _ hne.2 (fun e => hne.1 (Option.some.inj e)))⟩⟩
theorem Cel.below' {W : World} {g j : Nat} (h : Cel W (g + 1) (some ⟨g, 0, none⟩) 1 (ints [j])) (o : Obj) : Cel (W.alloc o) (g + 1) (some ⟨g, 0, none⟩) 1 (ints [j]) :=
  ⟨h.1, fun h0 => by
    obtain ⟨b, q, e, hb, hc⟩ := h.2 h0
    exact ⟨b, q, e, hb, fun i hi => by rw [← hc i hi]; exact Lib.cell?_alloc_some o ((hc i hi).trans (List.getElem?_eq_getElem (by simpa using hi))) |>.trans ((hc i hi).trans (List.getElem?_eq_getElem (by simpa using hi))).symm⟩⟩
theorem PlV.re {w : World} {lo lo' hi : Nat} {own own' : Option Nat} {v : Value} {p : List Nat} (h : PlV w lo hi own v p) (hn : ∀ b, lo ≤ b → b < hi → own ≠ some b → lo' ≤ b ∧ own' ≠ some b) : PlV w lo' hi own' v p := by
  obtain ⟨A, c, e, hc, h1, h2, h3⟩ := h
  refine ⟨A, c, e, hc, h1, h2, fun h0 b o e => ?_⟩
  obtain ⟨h4, h5⟩ := h3 h0 b o e
  obtain ⟨b', o', e', hb, _⟩ := hc.2 h0
  rw [e] at e'
  simp only [Option.some.injEq, Addr.mk.injEq] at e'
  exact hn b h4 (by omega) h5
theorem PlV.one {w : World} {lo hi : Nat} {own : Option Nat} {v : Value} {p : List Nat} (h : PlV w lo hi own v p) : v.oneCell' = true := by
  obtain ⟨A, c, rfl, _⟩ := h
  rfl
theorem two_one {w : World} {lo hi : Nat} {own : Option Nat} : ∀ {vs : List Value} {ps : List (List Nat)}, Two (PlV w lo hi own) vs ps → ∀ u ∈ vs, u.oneCell' = true
  | _, _, .nil, u, h => by cases h
  | _, _, .cons a t, u, h => by
    rcases List.mem_cons.1 h with rfl | h
    · exact a.one
    · exact two_one t u h
/-- A list of places is appended onto another one. -/
theorem app_places {w : World} {lo lo2 : Nat} {v u : Value} {ps qs : List (List Nat)} (hv : PlRow w lo v ps) (hu : PlRow w lo2 u qs) (hlo : lo ≤ lo2) (hlt : ∀ g, v.ownBlock = some g → g < lo2) (hbig : ps.length + qs.length ≤ 1073741824) (hlo2 : lo2 ≤ w.heap.size) :
    ∃ A n c A' n' c' w', u = .slice A n c ∧ (Builtin.append_ #[53, 53] 53 #[v, .slice A n c]).run Tryz.prog w = .ok (.slice A' n' c') w' ∧ PlRow w' lo (.slice A' n' c') (ps ++ qs) ∧ Below lo w w' := by
  obtain ⟨vs, hv1, hv2⟩ := hv.row
  obtain ⟨us, hu1, hu2⟩ := hu.row
  have lv := hv2.len
  have lu := hu2.len
  rw [← lv] at hv1
  obtain ⟨A, c, rfl, hcel, h1, h2, _⟩ := owned_cel hu1
  obtain ⟨i0, hi, hz, hs1, hb⟩ := info_any info_ints
  obtain ⟨v', w', r, g1, g2, g3⟩ := app_cel Tryz.underlying53 hi hz hs1 hb rfl c hv1 hcel (two_one hu2) (by omega) (by omega) (by omega) 53
  have hbl := (Below.refl lo w).grown g2 (by omega) (fun q hq => (hv1.lt q hq).1)
  obtain ⟨A', c', rfl, _, _, _, _⟩ := owned_cel g1
  have hown : ∀ b, b < w.heap.size → v.ownBlock ≠ some b → (Value.slice A' (vs ++ us).length c').ownBlock ≠ some b := fun b hb hne => by
    rcases g3 with e | e
    · rw [e]; exact hne
    · rw [e]; intro e2; have := Option.some.inj e2; omega
  have hcell : ∀ a : Addr, a.block < w.heap.size → v.ownBlock ≠ some a.block → w'.cell? a = w.cell? a := fun a ha hne => World.cell?_of_block (w := w) (g2.block _ ha (fun e => hne e.symm))
  have hre : ∀ b, lo2 ≤ b → b < w.heap.size → (Value.slice A qs.length c).ownBlock ≠ some b → lo ≤ b ∧ v.ownBlock ≠ some b := fun b hb1 _ _ => ⟨Nat.le_trans hlo hb1, fun e => Nat.lt_irrefl _ (Nat.lt_of_lt_of_le (hlt b e) hb1)⟩
  have e : (ps ++ qs).length = (vs ++ us).length := by rw [List.length_append, List.length_append, lv, lu]
  exact ⟨A, _, c, A', _, c', w', rfl, r, ⟨vs ++ us, by rw [e]; exact g1, Two.app (hv2.mono fun x p hx => hx.keep hbl.size hcell hown) (hu2.mono fun x p hx => (hx.re hre).keep hbl.size hcell hown)⟩, hbl⟩
theorem PlRow.low {w : World} {lo lo' : Nat} {v : Value} {ps : List (List Nat)} (h : PlRow w lo v ps) (hl : lo' ≤ lo) : PlRow w lo' v ps := by
  obtain ⟨vs, h1, h2⟩ := h.row
  refine ⟨vs, ⟨h1.1, ?_⟩, h2.mono fun x p hx => hx.re fun b hb _ hne => ⟨by omega, hne⟩⟩
  rcases h1.2 with h | ⟨g, cap, cur, e, hb, r⟩
  · exact .inl h
  · exact .inr ⟨g, cap, cur, e, by omega, r⟩
/-- Nothing that was there has been touched. -/
theorem PlRow.on {w w' : World} {lo : Nat} {v : Value} {ps : List (List Nat)} (h : PlRow w lo v ps) (hb : Below w.heap.size w w') : PlRow w' lo v ps := by
  obtain ⟨vs, h1, h2⟩ := h.row
  exact ⟨vs, own_on h1 hb, h2.mono fun x p hx => hx.keep hb.size (fun a ha _ => hb.cell ha) (fun _ _ h => h)⟩
theorem PlRow.lt {w : World} {lo : Nat} {v : Value} {ps : List (List Nat)} (h : PlRow w lo v ps) : ∀ g, v.ownBlock = some g → lo ≤ g ∧ g < w.heap.size := by
  obtain ⟨vs, h1, _⟩ := h.row
  exact h1.lt
/-- A list of one place. -/
theorem one_place {w : World} {lo : Nat} {A : Option Addr} {c : Nat} {p : List Nat} {pl : Nat} (hpl : p.length = pl) (h : w.ownsRow lo 3 1 (.slice A pl c) pl (ints p)) (hlo : lo ≤ w.heap.size) : PlRow (w.alloc (.cells #[.slice A pl c] 39)) lo (.slice (some ⟨w.heap.size, 0, none⟩) 1 1) [p] := by
  subst hpl
  obtain ⟨A', c', e, hc, h1, h2, h3⟩ := owned_cel h
  simp only [Value.slice.injEq, true_and] at e
  obtain ⟨rfl, rfl⟩ := e
  have hb := (Below.refl w.heap.size w).alloc (Nat.le_refl _) (.cells #[.slice A p.length c] 39)
  refine ⟨[.slice A p.length c], ⟨rfl, .inr ⟨w.heap.size, 1, _, rfl, hlo, heap_alloc_new w _, Nat.le_refl _, by unfold maxLen; omega, rfl, rfl⟩⟩, .cons ⟨A, c, rfl, hc.on hb, h1, h2, fun h0 b o e => ?_⟩ .nil⟩
  subst e
  have := h3 b rfl
  exact ⟨this.1, fun e => by simp [Value.ownBlock] at e; omega⟩
theorem placesL_len : ∀ (r : List Nd) (p : List Nat) (i : Nat), (placesL r p i).length ≤ heftL r
  | [], p, i => by simp [placesL]
  | k :: r, p, i => by
    have h1 := (places_len k (p ++ [i])).1
    have h2 := placesL_len r p (i + 1)
    rw [placesL, heftL, List.length_append]; omega

set_option maxRecDepth 20000 in
set_option maxHeartbeats 8000000 in
theorem refall_any : ∀ (n : Nd) (p : List Nat) (pA : Option Addr) (pl pc : Nat) (w : World), n.In w w.heap.size → p.length = pl → Cel w w.heap.size pA pl (ints p) → pl ≤ pc → pc ≤ 9223372036854775807 → pl + heftN n ≤ 268435456 →
    Calls Tryz.prog 17 #[n.val, .slice pA pl pc] w fun e w' => (∃ v, e = .returned v ∧ PlRow w' w.heap.size v (placesN n p)) ∧ Below w.heap.size w w' := by
  refine Nd.ind ?_
  intro n ih p pA pl pc w hin hpl hp hpc hpc' hz
  have HI := Lib.hid hin
  have HP := Lib.hid hp
  have IH := Lib.hid ih
  have HZ := Lib.hid hz
  obtain ⟨hkl, hkm⟩ := hin.klen
  have HPN := Lib.hid (placesN_mk n p)
  have HZL : Hid (heftN n = 16 + n.name.size + (n.props.map heftP).sum + heftL n.kids) := Lib.hid (by cases n; rw [heftN]; rfl)
  have HPC := Lib.hid (And.intro hpl (And.intro hpc hpc'))
  clear hin hp ih hz hpl hpc hpc'
  obtain ⟨nm, pa, pc', ps, ka, kc, ks⟩ := n
  replace hkl : ks.length ≤ kc := hkl
  replace hkm : kc ≤ 9223372036854775807 := hkm
  show Calls _ _ #[.agg #[.string nm, .slice pa ps.length pc', .slice ka ks.length kc], .slice pA pl pc] _ _
  have HB0 := Lib.hid ((Below.refl w.heap.size w).alloc (Nat.le_refl _) (.cells #[Value.string nm, .slice pa ps.length pc', .slice ka ks.length kc] 27))
  have R1 : Hid (∃ A1 c1 w1, (Builtin.append_ #[39, 39] 39 #[.slice (some ⟨w.heap.size + 1, 0, none⟩) 0 0, .slice pA pl pc]).run Tryz.prog ((w.alloc (.cells #[Value.string nm, .slice pa ps.length pc', .slice ka ks.length kc] 27)).alloc (.cells #[] 3)) = .ok (.slice A1 pl c1) w1 ∧ w1.ownsRow (w.heap.size + 1) 3 1 (.slice A1 pl c1) pl (ints p) ∧ Below (w.heap.size + 1) (w.alloc (.cells #[Value.string nm, .slice pa ps.length pc', .slice ka ks.length kc] 27)) w1) := by
    have hb1 := (Below.refl _ (w.alloc (.cells #[Value.string nm, .slice pa ps.length pc', .slice ka ks.length kc] 27))).alloc (Nat.le_refl _) (.cells #[] 3)
    have ho := own_new (w.alloc (.cells #[Value.string nm, .slice pa ps.length pc', .slice ka ks.length kc] 27)) _ (Nat.le_refl _)
    obtain ⟨v1, w1, r1, g1⟩ := app_ints (xs := []) pc ho ((HP.out.below (HB0.out.trans (hb1.mono HB0.out.size)))) (by simp only [List.length_nil]; have := HPC.out.1; have := HZ.out; omega) hb1.size 39
    have g2 := g1.below ho hb1 hb1.size
    have e : (w.alloc (.cells #[Value.string nm, .slice pa ps.length pc', .slice ka ks.length kc] 27)).heap.size = w.heap.size + 1 := by simp
    rw [e] at r1 g1 g2
    have g3 := g1.1
    rw [List.nil_append, List.length_map, HPC.out.1] at g3
    obtain ⟨A1, c1, rfl, _⟩ := owned_cel g3
    exact Lib.hid ⟨A1, c1, w1, r1, g3, g2⟩
  obtain ⟨A1, c1, w1, r1, o1, b1⟩ := R1.out
  have HO1 := Lib.hid (one_place HPC.out.1 o1 (by have := b1.size; simpa using this))
  have HB1 := Lib.hid (b1.alloc (by have := b1.size; simpa using this) (.cells #[.slice A1 pl c1] 39))
  have BX : Hid (∀ W, Below (w.heap.size + 1) (w.alloc (.cells #[Value.string nm, .slice pa ps.length pc', .slice ka ks.length kc] 27)) W → W.cell? ⟨w.heap.size, 2, none⟩ = some (Value.slice ka ks.length kc)) := Lib.hid (fun W h => (h.cell (Nat.lt_succ_self _)).trans (World.cell?_alloc_new _ _ _ _))
  have x2 := BX.out _ HB1.out
  clear R1 o1 b1
  go_enter Tryz.func17, Tryz.ntmps17
  go_wp2_with (at_builtin; refine Lib.wpList_append_run_sl _ rfl _ _ _ rfl _ _ rfl rfl r1 ?_)
  clear r1 x2
  go_loopw [5, 14] (fun out i wr => ∃ j : Nat, j ≤ ks.length ∧ i = .int .i64 j ∧ Below (w.heap.size + 1) (w.alloc (.cells #[Value.string nm, .slice pa ps.length pc', .slice ka ks.length kc] 27)) wr ∧ PlRow wr (w.heap.size + 1) out (p :: placesL (ks.take j) p 0)) (fun _ i _ => ks.length - (intOf i).toNat)
  case atStart => exact ⟨0, Nat.zero_le _, rfl, HB1.out, by simpa [placesL] using HO1.out⟩
  case round =>
    obtain ⟨j, hj, rfl, hb, hrow⟩ := hrel
    have HBX := Lib.hid hb
    have HB := Lib.hid (HB0.out.trans (hb.mono (Nat.le_succ _)))
    have HR := Lib.hid hrow
    by_cases hlt : j < ks.length
    · obtain ⟨vs, hown, _⟩ := hrow.row
      obtain ⟨Ao, co, rfl, _, _, _, _⟩ := owned_cel hown
      obtain ⟨b, o, e, hbk, c0, c1', c2⟩ := (HI.out.under HB.out).kcell (i := j) hlt
      obtain rfl : ka = _ := e
      have hkin := HI.out.kid (k := ks[j]) (List.getElem_mem hlt)
      have hheft : heftN ks[j] ≤ heftL ks ∧ (placesL (ks.take j) p 0).length + heftN ks[j] ≤ heftL ks := by
        have h1 := heftL_next ks j hlt
        have h2 := heftL_take ks (j + 1)
        have h3 := placesL_len (ks.take j) p 0
        omega
      have hz' : pl + (16 + nm.size + (ps.map heftP).sum + heftL ks) ≤ 268435456 := by
        have h1 := HZ.out
        rw [HZL.out] at h1
        exact h1
      have HNX : Hid (p :: placesL (ks.take (j + 1)) p 0 = (p :: placesL (ks.take j) p 0) ++ placesN ks[j] (p ++ [j])) := Lib.hid (by rw [placesL_next ks p j hlt]; rfl)
      have FIN : Hid (∀ (v12 : Value) (W : World) (lo2 : Nat), wr.heap.size ≤ lo2 → lo2 ≤ W.heap.size → PlRow W lo2 v12 (placesN ks[j] (p ++ [j])) → Below wr.heap.size wr W → ∃ A n c A' n' c' w', v12 = .slice A n c ∧ (Builtin.append_ #[53, 53] 53 #[.slice Ao (p :: placesL (ks.take j) p 0).length co, .slice A n c]).run Tryz.prog W = .ok (.slice A' n' c') w' ∧ PlRow w' (w.heap.size + 1) (.slice A' n' c') ((p :: placesL (ks.take j) p 0) ++ placesN ks[j] (p ++ [j])) ∧ Below (w.heap.size + 1) wr w') := Lib.hid (fun v12 W lo2 hlo hl2 h12 hbW => by
        have hbs := HBX.out.size
        simp at hbs
        obtain ⟨A, n, c, A', n', c', w', e1, e2, e3, e4⟩ := app_places (HR.out.on hbW) h12 (by omega) (fun g hg => by have := (HR.out.lt g hg).2; omega) (by have := (places_len ks[j] (p ++ [j])).1; simp only [List.length_cons]; omega) hl2
        exact ⟨A, n, c, A', n', c', w', e1, e2, e3, (hbW.mono (by omega)).trans (e4.mono (Nat.le_refl _))⟩)
      have AP8 : Hid (∀ (W : World) (g : Nat), W.ownsRow wr.heap.size 3 1 (.slice (some ⟨g, 0, none⟩) 0 0) 0 (ints []) → Below wr.heap.size wr W → ∃ A8 c8 w8, (Builtin.append_ #[39, 39] 39 #[.slice (some ⟨g, 0, none⟩) 0 0, .slice pA pl pc]).run Tryz.prog W = .ok (.slice A8 pl c8) w8 ∧ w8.ownsRow wr.heap.size 3 1 (.slice A8 pl c8) pl (ints p) ∧ W.grownBy w8 (some g) ∧ Below wr.heap.size wr w8) := Lib.hid (fun W g ho hbW => by
        obtain ⟨v, w', r, g1⟩ := app_ints (xs := []) pc ho ((HP.out.below HB.out).below (hbW.mono HB.out.size)) (by simp only [List.length_nil]; have := HPC.out.1; omega) hbW.size 39
        have g2 := g1.below ho hbW hbW.size
        have g3 := g1.1
        rw [List.nil_append, List.length_map, HPC.out.1] at g3
        obtain ⟨A, c, rfl, _⟩ := owned_cel g3
        exact ⟨A, c, w', r, g3, g1.2.1, g2⟩)
      have AP11 : Hid (∀ (W : World) (A8 : Option Addr) (c8 g : Nat), W.ownsRow wr.heap.size 3 1 (.slice A8 pl c8) pl (ints p) → Cel W (g + 1) (some ⟨g, 0, none⟩) 1 (ints [j]) → Below wr.heap.size wr W → ∃ A11 c11 W11, (Builtin.append_ #[39, 39] 39 #[.slice A8 pl c8, .slice (some ⟨g, 0, none⟩) 1 1]).run Tryz.prog W = .ok (.slice A11 (pl + 1) c11) W11 ∧ Cel W11 W11.heap.size A11 (pl + 1) (ints (p ++ [j])) ∧ pl + 1 ≤ c11 ∧ c11 ≤ 9223372036854775807 ∧ Below wr.heap.size wr W11) := Lib.hid (fun W A8 c8 g ho hc hbW => by
        have ho' : W.ownsRow wr.heap.size 3 1 (.slice A8 pl c8) p.length (ints p) := by rw [HPC.out.1]; exact ho
        obtain ⟨v, w', r, g1⟩ := app_ints 1 ho' hc (by have := HPC.out.1; simp only [List.length_cons, List.length_nil]; omega) hbW.size 39
        have ho2 : W.ownsRow wr.heap.size 3 1 (.slice A8 pl c8) (ints p).length (ints p) := by rw [List.length_map]; exact ho'
        have g2 := g1.below ho2 hbW hbW.size
        have g3 := g1.1
        have e : (ints (p ++ [j])).length = pl + 1 := by rw [List.length_map, List.length_append, HPC.out.1]; rfl
        rw [e] at g3
        obtain ⟨A, c, rfl, h1, h2, h3, _⟩ := owned_cel g3
        exact ⟨A, c, w', r, h1, h2, h3, g2⟩)
      have CALL : Hid (∀ (A : Option Addr) (c : Nat) (W : World), Below wr.heap.size wr W → Cel W W.heap.size A (pl + 1) (ints (p ++ [j])) → pl + 1 ≤ c → c ≤ 9223372036854775807 → Calls Tryz.prog 17 #[ks[j].val, .slice A (pl + 1) c] W fun e w' => (∃ v, e = .returned v ∧ PlRow w' W.heap.size v (placesN ks[j] (p ++ [j]))) ∧ Below W.heap.size W w') := Lib.hid (fun A c W hbW hcel hc hc' =>
        IH.out ks[j] (List.getElem_mem hlt) (p ++ [j]) A (pl + 1) c W ((hkin.under (HB.out.trans (hbW.mono HB.out.size))).more (HB.out.trans (hbW.mono HB.out.size)).size) (by rw [List.length_append, HPC.out.1]; rfl) hcel hc hc' (by omega))
      generalize hM : (p :: placesL (ks.take j) p 0).length = M at *
      obtain ⟨Q, hQ⟩ : ∃ Q, placesN ks[j] (p ++ [j]) = Q := ⟨_, rfl⟩
      obtain ⟨kd, hkd⟩ : ∃ kd, ks[j] = kd := ⟨_, rfl⟩
      rw [hQ] at CALL FIN HNX
      replace c0 : _ = some (Value.string ks[j].name) := c0
      replace c1' : _ = some ks[j].pv := c1'
      replace c2 : _ = some ks[j].kv := c2
      rw [hkd] at CALL c0 c1' c2
      clear hQ hkd hkin hheft hz' hb hrow hown hM
      obtain ⟨kn, kpa, kpc, kps, kka, kkc, kks⟩ := kd
      replace c0 : _ = some (Value.string kn) := c0
      replace c1' : _ = some (Value.slice kpa kps.length kpc) := c1'
      replace c2 : _ = some (Value.slice kka kks.length kkc) := c2
      replace CALL : Hid (∀ (A : Option Addr) (c : Nat) (W : World), Below wr.heap.size wr W → Cel W W.heap.size A (pl + 1) (ints (p ++ [j])) → pl + 1 ≤ c → c ≤ 9223372036854775807 → Calls Tryz.prog 17 #[.agg #[.string kn, .slice kpa kps.length kpc, .slice kka kks.length kkc], .slice A (pl + 1) c] W fun e w' => (∃ v, e = .returned v ∧ PlRow w' W.heap.size v Q) ∧ Below W.heap.size W w') := CALL
      generalize kps.length = kpl at *
      generalize kks.length = kkl at *
      have HS2 : Hid (∀ W, Below (w.heap.size + 1) wr W → (W.cell? ⟨w.heap.size, 2, none⟩ = some (Value.slice (some ⟨b, o, none⟩) ks.length kc) ∧ W.cell? ⟨b, o + j * 3, none⟩ = some (Value.string kn) ∧ W.cell? ⟨b, o + j * 3 + 1, none⟩ = some (Value.slice kpa kpl kpc) ∧ W.cell? ⟨b, o + j * 3 + 2, none⟩ = some (Value.slice kka kkl kkc))) := Lib.hid (fun W hW => by
        exact ⟨(hW.cell (p := ⟨w.heap.size, 2, none⟩) (Nat.lt_succ_self _)).trans (BX.out _ HBX.out), (hW.cell (p := ⟨b, o + j * 3, none⟩) (Nat.lt_succ_of_lt hbk)).trans c0, (hW.cell (p := ⟨b, o + j * 3 + 1, none⟩) (Nat.lt_succ_of_lt hbk)).trans c1', (hW.cell (p := ⟨b, o + j * 3 + 2, none⟩) (Nat.lt_succ_of_lt hbk)).trans c2⟩)
      have HS : Hid (∀ W, Below wr.heap.size wr W → (W.cell? ⟨w.heap.size, 2, none⟩ = some (Value.slice (some ⟨b, o, none⟩) ks.length kc) ∧ W.cell? ⟨b, o + j * 3, none⟩ = some (Value.string kn) ∧ W.cell? ⟨b, o + j * 3 + 1, none⟩ = some (Value.slice kpa kpl kpc) ∧ W.cell? ⟨b, o + j * 3 + 2, none⟩ = some (Value.slice kka kkl kkc))) := Lib.hid (fun W hW => by
        have ko : ∀ {a : Addr} {v : Value}, wr.cell? a = some v → W.cell? a = some v := fun {a v} h => (hW.cell (p := a) (World.block_lt_of_cell? wr _ h)).trans h
        exact ⟨ko (BX.out _ HBX.out), ko c0, ko c1', ko c2⟩)
      go_wp2_with fail
      refine wp_region_held_drew (S := fun W => W.cell? ⟨w.heap.size, 2, none⟩ = some (Value.slice (some ⟨b, o, none⟩) ks.length kc) ∧ W.cell? ⟨b, o + j * 3, none⟩ = some (Value.string kn) ∧ W.cell? ⟨b, o + j * 3 + 1, none⟩ = some (Value.slice kpa kpl kpc) ∧ W.cell? ⟨b, o + j * 3 + 2, none⟩ = some (Value.slice kka kkl kkc)) (by kernel_rfl) (HS.out _ (Below.refl _ wr).drew) (fun hHeld => ?_)
      refine held_take 0 rfl (by kernel_rfl) (by kernel_rfl) (by kernel_rfl) (fun _ _ _ h => h) (by rfl) hHeld (v := ?_) (fun w hSw => ?_) (fun _ => ?_)
      rotate_left
      · ((try dsimp only at hSw); go_simp; (try with_reducible rfl))
      simp only [Act.put, List.setIfInBounds_toArray, List.set_cons_zero, List.set_cons_succ]
      refine held_take 1 rfl (by kernel_rfl) (by kernel_rfl) (by kernel_rfl) (fun _ _ _ h => h) (by rfl) hHeld (v := ?_) (fun w hSw => ?_) (fun _ => ?_)
      rotate_left
      · ((try dsimp only at hSw); go_simp; (try with_reducible rfl))
      simp only [Act.put, List.setIfInBounds_toArray, List.set_cons_zero, List.set_cons_succ]
      refine held_take 2 rfl (by kernel_rfl) (by kernel_rfl) (by kernel_rfl) (fun _ _ _ h => h) (by rfl) hHeld (v := ?_) (fun w hSw => ?_) (fun _ => ?_)
      rotate_left
      · ((try dsimp only at hSw); go_simp; (try with_reducible rfl))
      simp only [Act.put, List.setIfInBounds_toArray, List.set_cons_zero, List.set_cons_succ]
      refine held_take 3 rfl (by kernel_rfl) (by kernel_rfl) (by kernel_rfl) (fun _ _ _ h => h) (by rfl) hHeld (v := ?_) (fun w hSw => ?_) (fun _ => ?_)
      rotate_left
      · ((try dsimp only at hSw); go_simp; (try with_reducible rfl))
      simp only [Act.put, List.setIfInBounds_toArray, List.set_cons_zero, List.set_cons_succ]
      refine held_take 4 rfl (by kernel_rfl) (by kernel_rfl) (by kernel_rfl) (fun _ _ _ h => h) (by rfl) hHeld (v := ?_) (fun w hSw => ?_) (fun _ => ?_)
      rotate_left
      · ((try dsimp only at hSw); go_simp; (try with_reducible rfl))
      simp only [Act.put, List.setIfInBounds_toArray, List.set_cons_zero, List.set_cons_succ]
      refine held_take 5 rfl (by kernel_rfl) (by kernel_rfl) (by kernel_rfl) (fun _ _ _ h => h) (by rfl) hHeld (v := ?_) (fun w hSw => ?_) (fun _ => ?_)
      rotate_left
      · ((try dsimp only at hSw); go_simp; (try with_reducible rfl))
      simp only [Act.put, List.setIfInBounds_toArray, List.set_cons_zero, List.set_cons_succ]
      refine held_take 7 rfl (by kernel_rfl) (by kernel_rfl) (by kernel_rfl) (fun _ _ _ h => h) (by rfl) hHeld (v := ?_) (fun w hSw => ?_) (fun _ => ?_)
      rotate_left
      · ((try dsimp only at hSw); go_simp; (try with_reducible rfl))
      simp only [Act.put, List.setIfInBounds_toArray, List.set_cons_zero, List.set_cons_succ]
      refine held_take 9 rfl (by kernel_rfl) (by kernel_rfl) (by kernel_rfl) (fun _ _ _ h => h) (by rfl) hHeld (v := ?_) (fun w hSw => ?_) (fun _ => ?_)
      rotate_left
      · ((try dsimp only at hSw); go_simp; (try with_reducible rfl))
      simp only [Act.put, List.setIfInBounds_toArray, List.set_cons_zero, List.set_cons_succ]
      refine held_two 6 10 (by kernel_rfl) rfl rfl (by rfl) (by rfl) (fun K hK => ?_) (fun K hK => ?_)
      · go_simp
        refine hK.out _ _ (HS.out _ ((Below.refl _ wr).drew.alloc (Nat.le_refl _) (.cells #[] 3))) (fun hHeld => ?_)
        clear hK K
        refine held_two 8 10 (by kernel_rfl) rfl rfl (by rfl) (by rfl) (fun K hK => ?_) (fun K hK => ?_)
        · obtain ⟨A8, c8, w8, r8, o8, _, b8⟩ := AP8.out (wr.drew.alloc (.cells #[] 3)) wr.heap.size (own_new wr.drew _ (Nat.le_refl _)) ((Below.refl _ wr).drew.alloc (Nat.le_refl _) (.cells #[] 3))
          obtain ⟨A11, c11, W11, r11, s11, l11, m11, b11⟩ := AP11.out (w8.alloc (.cells #[Value.int .i64 (j : Int)] 3)) A8 c8 w8.heap.size (o8.alloc _) (one_new w8 j) (b8.alloc b8.size (.cells #[Value.int .i64 (j : Int)] 3))
          refine wp_app (.tmp 23) (.tmp 24) rfl _ _ rfl rfl r8 ?_
          simp only [Act.put, List.setIfInBounds_toArray, List.set_cons_zero, List.set_cons_succ]
          refine hK.out _ _ (HS.out _ b8) (fun hHeld => ?_)
          clear hK K
          refine held_call 10 (by kernel_rfl) rfl (by rfl) (fun K hK => ?_)
          go_simp
          refine hK.out _ _ (HS.out _ (b8.alloc b8.size (.cells #[Value.int .i64 (j : Int)] 3))) (fun hHeld => ?_)
          clear hK K
          refine held_call 11 (by kernel_rfl) rfl (by rfl) (fun K hK => ?_)
          refine wp_app (.tmp 25) (.tmp 27) rfl _ _ rfl rfl r11 ?_
          simp only [Act.put, List.setIfInBounds_toArray, List.set_cons_zero, List.set_cons_succ]
          refine hK.out _ _ (HS.out _ b11) (fun hHeld => ?_)
          clear hK K
          refine held_call 12 (by kernel_rfl) rfl (by rfl) (fun K hK => ?_)
          go_simp
          refine (CALL.out A11 c11 W11 b11 s11 l11 m11).mono ?_
          rintro e w12 ⟨⟨v12, rfl, hr12⟩, hb12⟩
          have b12 := b11.trans (hb12.mono b11.size)
          obtain ⟨A12, n12, c12, A13, n13, c13, w13, e12, r13, hr13, b13⟩ := FIN.out v12 w12 W11.heap.size b11.size hb12.size hr12 b12
          subst e12
          dsimp only
          refine hK.out _ _ (HS.out _ b12) (fun hHeld => ?_)
          clear hK K
          refine held_call 13 (by kernel_rfl) rfl (by rfl) (fun K hK => ?_)
          refine wp_app (.tmp 17) (.tmp 29) rfl _ _ rfl rfl r13 ?_
          simp only [Act.put, List.setIfInBounds_toArray, List.set_cons_zero, List.set_cons_succ]
          refine hK.out _ _ (HS2.out _ b13) (fun hHeld => ?_)
          clear hK K
          refine held_take 14 rfl (by kernel_rfl) (by kernel_rfl) (by kernel_rfl) (fun _ _ _ h => h) (by rfl) hHeld (v := ?_) (fun w hSw => ?_) (fun _ => ?_)
          rotate_left
          · ((try dsimp only at hSw); go_simp; (try with_reducible rfl))
          simp only [Act.put, List.setIfInBounds_toArray, List.set_cons_zero, List.set_cons_succ]
          refine wpAnyH_done (by kernel_rfl) ?_ _
          have HR13 := Lib.hid hr13
          have HB13 := Lib.hid b13
          clear hHeld r13 hr13 hr12 hb12 b12 b11 s11 l11 m11 b13
          go_wp2
          go_roundw
          case rel => exact ⟨j + 1, by omega, by go_num, HBX.out.trans HB13.out, by rw [HNX.out]; exact HR13.out⟩
          case measure => simp [intOf]; omega
        · go_simp
          refine hK.out _ _ (HS.out _ (((Below.refl _ wr).drew.alloc (Nat.le_refl _) (.cells #[] 3)).alloc (by simp) (.cells #[Value.int .i64 (j : Int)] 3))) (fun hHeld => ?_)
          clear hK K
          have o6 := (own_new wr.drew wr.heap.size (Nat.le_refl _)).alloc (.cells #[Value.int .i64 (j : Int)] 3)
          obtain ⟨A8, c8, w8, r8, o8, g8, b8⟩ := AP8.out ((wr.drew.alloc (.cells #[] 3)).alloc (.cells #[Value.int .i64 (j : Int)] 3)) wr.heap.size o6 (((Below.refl _ wr).drew.alloc (Nat.le_refl _) (.cells #[] 3)).alloc (by simp) (.cells #[Value.int .i64 (j : Int)] 3))
          obtain ⟨A11, c11, W11, r11, s11, l11, m11, b11⟩ := AP11.out w8 A8 c8 (wr.drew.alloc (.cells #[] 3)).heap.size o8 (one_kept (one_new (wr.drew.alloc (.cells #[] 3)) j) g8 (by constructor <;> simp <;> omega)) b8
          have esz : (wr.drew.alloc (.cells #[] 3)).heap.size = wr.heap.size + 1 := by simp
          rw [esz] at r11
          refine held_call 8 (by kernel_rfl) rfl (by rfl) (fun K hK => ?_)
          refine wp_app (.tmp 23) (.tmp 24) rfl _ _ rfl rfl r8 ?_
          simp only [Act.put, List.setIfInBounds_toArray, List.set_cons_zero, List.set_cons_succ]
          refine hK.out _ _ (HS.out _ b8) (fun hHeld => ?_)
          clear hK K
          refine held_call 11 (by kernel_rfl) rfl (by rfl) (fun K hK => ?_)
          refine wp_app (.tmp 25) (.tmp 27) rfl _ _ rfl rfl r11 ?_
          simp only [Act.put, List.setIfInBounds_toArray, List.set_cons_zero, List.set_cons_succ]
          refine hK.out _ _ (HS.out _ b11) (fun hHeld => ?_)
          clear hK K
          refine held_call 12 (by kernel_rfl) rfl (by rfl) (fun K hK => ?_)
          go_simp
          refine (CALL.out A11 c11 W11 b11 s11 l11 m11).mono ?_
          rintro e w12 ⟨⟨v12, rfl, hr12⟩, hb12⟩
          have b12 := b11.trans (hb12.mono b11.size)
          obtain ⟨A12, n12, c12, A13, n13, c13, w13, e12, r13, hr13, b13⟩ := FIN.out v12 w12 W11.heap.size b11.size hb12.size hr12 b12
          subst e12
          dsimp only
          refine hK.out _ _ (HS.out _ b12) (fun hHeld => ?_)
          clear hK K
          refine held_call 13 (by kernel_rfl) rfl (by rfl) (fun K hK => ?_)
          refine wp_app (.tmp 17) (.tmp 29) rfl _ _ rfl rfl r13 ?_
          simp only [Act.put, List.setIfInBounds_toArray, List.set_cons_zero, List.set_cons_succ]
          refine hK.out _ _ (HS2.out _ b13) (fun hHeld => ?_)
          clear hK K
          refine held_take 14 rfl (by kernel_rfl) (by kernel_rfl) (by kernel_rfl) (fun _ _ _ h => h) (by rfl) hHeld (v := ?_) (fun w hSw => ?_) (fun _ => ?_)
          rotate_left
          · ((try dsimp only at hSw); go_simp; (try with_reducible rfl))
          simp only [Act.put, List.setIfInBounds_toArray, List.set_cons_zero, List.set_cons_succ]
          refine wpAnyH_done (by kernel_rfl) ?_ _
          have HR13 := Lib.hid hr13
          have HB13 := Lib.hid b13
          clear hHeld r13 hr13 hr12 hb12 b12 b11 s11 l11 m11 b13
          go_wp2
          go_roundw
          case rel => exact ⟨j + 1, by omega, by go_num, HBX.out.trans HB13.out, by rw [HNX.out]; exact HR13.out⟩
          case measure => simp [intOf]; omega
      · go_simp
        refine hK.out _ _ (HS.out _ ((Below.refl _ wr).drew.alloc (Nat.le_refl _) (.cells #[Value.int .i64 (j : Int)] 3))) (fun hHeld => ?_)
        clear hK K
        refine held_call 6 (by kernel_rfl) rfl (by rfl) (fun K hK => ?_)
        go_simp
        refine hK.out _ _ (HS.out _ (((Below.refl _ wr).drew.alloc (Nat.le_refl _) (.cells #[Value.int .i64 (j : Int)] 3)).alloc (by simp) (.cells #[] 3))) (fun hHeld => ?_)
        clear hK K
        have o6 := own_new (wr.drew.alloc (.cells #[Value.int .i64 (j : Int)] 3)) wr.heap.size (by simp)
        obtain ⟨A8, c8, w8, r8, o8, g8, b8⟩ := AP8.out ((wr.drew.alloc (.cells #[Value.int .i64 (j : Int)] 3)).alloc (.cells #[] 3)) (wr.drew.alloc (.cells #[Value.int .i64 (j : Int)] 3)).heap.size o6 (((Below.refl _ wr).drew.alloc (Nat.le_refl _) (.cells #[Value.int .i64 (j : Int)] 3)).alloc (by simp) (.cells #[] 3))
        obtain ⟨A11, c11, W11, r11, s11, l11, m11, b11⟩ := AP11.out w8 A8 c8 wr.heap.size o8 (one_kept ((one_new wr.drew j).below' (.cells #[] 3)) g8 (by constructor <;> simp <;> omega)) b8
        have esz : (wr.drew.alloc (.cells #[Value.int .i64 (j : Int)] 3)).heap.size = wr.heap.size + 1 := by simp
        rw [esz] at r8
        refine held_call 8 (by kernel_rfl) rfl (by rfl) (fun K hK => ?_)
        refine wp_app (.tmp 23) (.tmp 24) rfl _ _ rfl rfl r8 ?_
        simp only [Act.put, List.setIfInBounds_toArray, List.set_cons_zero, List.set_cons_succ]
        refine hK.out _ _ (HS.out _ b8) (fun hHeld => ?_)
        clear hK K
        refine held_call 11 (by kernel_rfl) rfl (by rfl) (fun K hK => ?_)
        refine wp_app (.tmp 25) (.tmp 27) rfl _ _ rfl rfl r11 ?_
        simp only [Act.put, List.setIfInBounds_toArray, List.set_cons_zero, List.set_cons_succ]
        refine hK.out _ _ (HS.out _ b11) (fun hHeld => ?_)
        clear hK K
        refine held_call 12 (by kernel_rfl) rfl (by rfl) (fun K hK => ?_)
        go_simp
        refine (CALL.out A11 c11 W11 b11 s11 l11 m11).mono ?_
        rintro e w12 ⟨⟨v12, rfl, hr12⟩, hb12⟩
        have b12 := b11.trans (hb12.mono b11.size)
        obtain ⟨A12, n12, c12, A13, n13, c13, w13, e12, r13, hr13, b13⟩ := FIN.out v12 w12 W11.heap.size b11.size hb12.size hr12 b12
        subst e12
        dsimp only
        refine hK.out _ _ (HS.out _ b12) (fun hHeld => ?_)
        clear hK K
        refine held_call 13 (by kernel_rfl) rfl (by rfl) (fun K hK => ?_)
        refine wp_app (.tmp 17) (.tmp 29) rfl _ _ rfl rfl r13 ?_
        simp only [Act.put, List.setIfInBounds_toArray, List.set_cons_zero, List.set_cons_succ]
        refine hK.out _ _ (HS2.out _ b13) (fun hHeld => ?_)
        clear hK K
        refine held_take 14 rfl (by kernel_rfl) (by kernel_rfl) (by kernel_rfl) (fun _ _ _ h => h) (by rfl) hHeld (v := ?_) (fun w hSw => ?_) (fun _ => ?_)
        rotate_left
        · ((try dsimp only at hSw); go_simp; (try with_reducible rfl))
        simp only [Act.put, List.setIfInBounds_toArray, List.set_cons_zero, List.set_cons_succ]
        refine wpAnyH_done (by kernel_rfl) ?_ _
        have HR13 := Lib.hid hr13
        have HB13 := Lib.hid b13
        clear hHeld r13 hr13 hr12 hb12 b12 b11 s11 l11 m11 b13
        go_wp2
        go_roundw
        case rel => exact ⟨j + 1, by omega, by go_num, HBX.out.trans HB13.out, by rw [HNX.out]; exact HR13.out⟩
        case measure => simp [intOf]; omega
    · obtain rfl : j = ks.length := by omega
      have HE : Hid (p :: placesL ks p 0 = placesN (Nd.mk nm pa pc' ps ka kc ks) p) := Lib.hid HPN.out.symm
      rw [List.take_length] at hrow
      have HR2 := Lib.hid (hrow.low (Nat.le_succ _))
      clear hb hrow
      go_wp2
      go_ret
      exact ⟨⟨_, rfl, by rw [← HE.out]; exact HR2.out⟩, HB.out⟩
end Go.Proofs.YtihlpcbebpnmkaaGreatDoor

/-! Places and paths: which node stands at a place; its path's names lead to it. -/
namespace Go.Proofs.YtihlpcbebpnmkaaGreatDoor
open Go.RowKit
set_option linter.unusedVariables false
set_option linter.unusedSimpArgs false

/-- The node at a place below n. -/
def nodeAt : Nd → List Nat → Option Nd
  | n, [] => some n
  | n, i :: r => match n.kids[i]? with
    | none => none
    | some k => nodeAt k r
theorem nodeAt_cons {n : Nd} {i : Nat} {r : List Nat} (h : i < n.kids.length) : nodeAt n (i :: r) = nodeAt n.kids[i] r := by
  rw [nodeAt, List.getElem?_eq_getElem h]
theorem nodeAt_some {n x : Nd} {i : Nat} {r : List Nat} (h : nodeAt n (i :: r) = some x) : ∃ hi : i < n.kids.length, nodeAt n.kids[i] r = some x := by
  rw [nodeAt] at h
  by_cases hi : i < n.kids.length
  · rw [List.getElem?_eq_getElem hi] at h
    exact ⟨hi, h⟩
  · rw [List.getElem?_eq_none (by omega)] at h
    cases h
theorem nodeAt_append : ∀ (p q : List Nat) (n : Nd), nodeAt n (p ++ q) = match nodeAt n p with | none => none | some x => nodeAt x q
  | [], q, n => by simp [nodeAt]
  | i :: p, q, n => by
    by_cases hi : i < n.kids.length
    · rw [List.cons_append, nodeAt_cons hi, nodeAt_cons hi, nodeAt_append p q]
    · rw [List.cons_append, nodeAt, nodeAt, List.getElem?_eq_none (by omega)]
/-- The places are those of nodes. -/
theorem mem_places : ∀ (n : Nd) (q p : List Nat), p ∈ placesN n q ↔ ∃ r, p = q ++ r ∧ (nodeAt n r).isSome = true := by
  refine Nd.ind ?_
  intro n ih q p
  have hl : ∀ (l : List Nd) (i : Nat), (∀ k ∈ l, k ∈ n.kids) → (p ∈ placesL l q i ↔ ∃ j, ∃ h : j < l.length, p ∈ placesN l[j] (q ++ [i + j])) := by
    intro l
    induction l with
    | nil => intro i _; simp [placesL]
    | cons k l ihl =>
      intro i hk
      rw [placesL, List.mem_append, ihl (i + 1) (fun x hx => hk x (by simp [hx]))]
      constructor
      · rintro (h | ⟨j, hj, h⟩)
        · exact ⟨0, by simp, by simpa using h⟩
        · exact ⟨j + 1, by simpa using hj, by simpa [show i + (j + 1) = i + 1 + j by omega] using h⟩
      · rintro ⟨j, hj, h⟩
        rcases j with _ | j
        · exact .inl (by simpa using h)
        · exact .inr ⟨j, by simpa using hj, by simpa [show i + (j + 1) = i + 1 + j by omega] using h⟩
  rw [placesN_mk, List.mem_cons, hl n.kids 0 (fun _ h => h)]
  constructor
  · rintro (rfl | ⟨j, hj, h⟩)
    · exact ⟨[], by simp, rfl⟩
    · obtain ⟨r, rfl, h2⟩ := (ih n.kids[j] (List.getElem_mem hj) _ _).1 h
      exact ⟨j :: r, by simp, by rw [nodeAt_cons hj]; exact h2⟩
  · rintro ⟨r, rfl, h⟩
    rcases r with _ | ⟨j, r⟩
    · exact .inl (by simp)
    · obtain ⟨x, hx⟩ := Option.isSome_iff_exists.1 h
      obtain ⟨hj, hx2⟩ := nodeAt_some hx
      exact .inr ⟨j, hj, (ih n.kids[j] (List.getElem_mem hj) _ _).2 ⟨r, by simp, by rw [hx2]; rfl⟩⟩
theorem place_node {n : Nd} {p : List Nat} (h : p ∈ placesN n []) : ∃ x, nodeAt n p = some x := by
  obtain ⟨r, rfl, h⟩ := (mem_places n [] p).1 h
  exact Option.isSome_iff_exists.1 h
theorem nodeAt_in {w : World} {B : Nat} : ∀ (p : List Nat) {n x : Nd}, n.In w B → nodeAt n p = some x → x.In w B
  | [], n, x, h, e => by rw [nodeAt] at e; rw [← Option.some.inj e]; exact h
  | i :: p, n, x, h, e => by
    obtain ⟨hi, e⟩ := nodeAt_some e
    exact nodeAt_in p (h.kid (List.getElem_mem hi)) e

/-! ### Formed trees -/
theorem nd_wrongL {d : Int} : ∀ {l : List Nd}, wrongL l d = 0 → ∀ k ∈ l, wrongN k d = 0
  | [], _, k, hk => by cases hk
  | x :: r, h, k, hk => by
    unfold wrongL at h
    by_cases hx : wrongN x d = 0
    · rw [if_pos hx] at h
      rcases List.mem_cons.1 hk with rfl | hk
      · exact hx
      · exact nd_wrongL h k hk
    · rw [if_neg hx] at h
      exact absurd h hx
/-- What a formed node is. -/
structure Well (n : Nd) (d : Int) : Prop where
  deep : d ≤ 16
  name : nameOk n d = true
  twice : (n.kids.map Nd.name).Nodup
  kids : ∀ k ∈ n.kids, wrongN k (d + 1) = 0
theorem well_of {n : Nd} {d : Int} (h : wrongN n d = 0) : Well n d := by
  rw [wrongN_mk] at h
  by_cases ha : aloneE n d = 0
  · rw [if_pos ha] at h
    unfold aloneE at ha
    by_cases h1 : 16 < d
    · rw [if_pos h1] at ha; omega
    rw [if_neg h1] at ha
    by_cases h2 : nameOk n d = false
    · rw [if_pos h2] at ha; omega
    rw [if_neg h2] at ha
    by_cases h3 : n.props.any misP = true
    · rw [if_pos h3] at ha; omega
    rw [if_neg h3] at ha
    by_cases h4 : twiceB (n.props.map PV.name) = true
    · rw [if_pos h4] at ha; omega
    rw [if_neg h4] at ha
    by_cases h5 : twiceB (n.kids.map Nd.name) = true
    · rw [if_pos h5] at ha; omega
    exact ⟨by omega, by simpa using h2, by simpa [twiceB] using h5, nd_wrongL h⟩
  · rw [if_neg ha] at h
    exact absurd h ha
theorem well_at : ∀ (p : List Nat) {n x : Nd} {d : Int}, wrongN n d = 0 → nodeAt n p = some x → wrongN x (d + p.length) = 0
  | [], n, x, d, h, e => by rw [nodeAt] at e; rw [← Option.some.inj e]; simpa using h
  | i :: p, n, x, d, h, e => by
    obtain ⟨hi, e⟩ := nodeAt_some e
    have := well_at p ((well_of h).kids _ (List.getElem_mem hi)) e
    rw [List.length_cons, show d + ((p.length + 1 : Nat) : Int) = d + 1 + (p.length : Int) by omega]
    exact this
/-- A place of a formed tree is at most fifteen numbers. -/
theorem place_short {n x : Nd} {p : List Nat} (h : wrongN n 1 = 0) (e : nodeAt n p = some x) : p.length ≤ 15 := by
  have := (well_of (well_at p h e)).deep
  omega
theorem root_wrong {t : Tr} (h : checkE t = 0) : wrongN t.root 1 = 0 := by
  unfold checkE at h
  by_cases h1 : wrongN t.root 1 = 0
  · exact h1
  · rw [if_neg h1] at h; exact absurd h h1
theorem idx_nodup : ∀ {l : List ByteArray} {k : Nat} (hk : k < l.length), l.Nodup → idxOf l l[k] = (k : Int)
  | l, k, hk, h => idxOf_hit l _ k hk rfl (fun j hj e => by
    have := (List.getElem_inj h).1 e
    omega)
/-- The names on the way to a place. -/
def namesAt : Nd → List Nat → List ByteArray
  | _, [] => []
  | n, i :: r => match n.kids[i]? with
    | none => []
    | some k => k.name :: namesAt k r
theorem namesAt_cons {n : Nd} {i : Nat} {r : List Nat} (h : i < n.kids.length) : namesAt n (i :: r) = n.kids[i].name :: namesAt n.kids[i] r := by
  rw [namesAt, List.getElem?_eq_getElem h]
theorem namesAt_length : ∀ (p : List Nat) {n x : Nd}, nodeAt n p = some x → (namesAt n p).length = p.length
  | [], n, x, _ => rfl
  | i :: p, n, x, e => by
    obtain ⟨hi, e⟩ := nodeAt_some e
    rw [namesAt_cons hi, List.length_cons, List.length_cons, namesAt_length p e]
/-- Each is a node's name. -/
theorem namesAt_ok : ∀ (p : List Nat) {n x : Nd} {d : Int}, 1 ≤ d → wrongN n d = 0 → nodeAt n p = some x → ∀ s ∈ namesAt n p, nodeB s = true
  | [], n, x, d, _, _, _, s, hs => by cases hs
  | i :: p, n, x, d, hd, h, e, s, hs => by
    obtain ⟨hi, e⟩ := nodeAt_some e
    have hw := (well_of h).kids _ (List.getElem_mem hi)
    rw [namesAt_cons hi] at hs
    rcases List.mem_cons.1 hs with rfl | hs
    · have := (well_of hw).name
      unfold nameOk at this
      rwa [if_neg (by omega)] at this
    · exact namesAt_ok p (by omega) hw e s hs
/-- One step further. -/
theorem nodeAt_next {n x : Nd} {p : List Nat} {i : Nat} (h : nodeAt n p = some x) (hi : i < x.kids.length) : nodeAt n (p ++ [i]) = some x.kids[i] := by
  rw [nodeAt_append, h]
  show nodeAt x [i] = _
  rw [nodeAt_cons hi, nodeAt]
theorem namesAt_next : ∀ (p : List Nat) {n x : Nd} {i : Nat}, nodeAt n p = some x → ∀ hi : i < x.kids.length, namesAt n (p ++ [i]) = namesAt n p ++ [x.kids[i].name]
  | [], n, x, i, h, hi => by
    rw [nodeAt] at h
    obtain rfl := Option.some.inj h
    rw [List.nil_append, namesAt_cons hi, namesAt]
    rfl
  | j :: p, n, x, i, h, hi => by
    obtain ⟨hj, e⟩ := nodeAt_some h
    rw [List.cons_append, namesAt_cons hj, namesAt_cons hj, namesAt_next p e hi]
    rfl

/-! ### Paths -/
/-- A path's bytes: of each name a stroke and it. -/
def pathB (l : List ByteArray) : List UInt8 := l.flatMap fun s => 47 :: s.data.toList
/-- The path of a place. -/
def pathOf (n : Nd) (p : List Nat) : ByteArray := ⟨(if p = [] then [47] else pathB (namesAt n p)).toArray⟩
theorem pathB_append (a b : List ByteArray) : pathB (a ++ b) = pathB a ++ pathB b := by unfold pathB; rw [List.flatMap_append]
theorem okM_not {m : List UInt8} {c : UInt8} (hl : letB (c.toNat : Int) = false) (hd : digB (c.toNat : Int) = false) (hm : c ∉ m) : okM m c = false := by
  have e : ¬ 0 ≤ Lib.indexByte m c := by
    intro h0
    obtain ⟨k, hk⟩ := Int.eq_ofNat_of_zero_le h0
    obtain ⟨h1, h2⟩ := Lib.indexByte_some hk
    exact hm (List.mem_of_getElem? h1)
  unfold okM
  simp [hl, hd, e]
theorem madeB_not {m l : List UInt8} {c : UInt8} (hl : letB (c.toNat : Int) = false) (hd : digB (c.toNat : Int) = false) (hm : c ∉ m) (h : madeB m l = true) : c ∉ l := by
  intro h0
  unfold madeB at h
  simp only [Bool.and_eq_true, List.all_eq_true] at h
  have := h.2 c h0
  rw [okM_not hl hd hm] at this
  cases this
/-- A node's name has none of these bytes. -/
theorem nodeB_not {s : ByteArray} {c : UInt8} (hl : letB (c.toNat : Int) = false) (hd : digB (c.toNat : Int) = false) (hm : c ∉ nodeMarks) (hat : c ≠ 64) (h : nodeB s = true) : c ∉ s.data.toList := by
  unfold nodeB at h
  split at h
  · exact madeB_not hl hd hm (by unfold baseB at h; simp only [Bool.and_eq_true] at h; exact h.1)
  · rename_i hc
    simp only [Bool.and_eq_true] at h
    rcases cut_or_not s with hn | ⟨i, hi⟩
    · exact absurd hn hc
    · have e : (Lib.indexByte s.data.toList 64).toNat = i := by rw [hi.2]; rfl
      rw [e] at h
      have h1 := madeB_not hl hd hm (by have := h.1; unfold baseB at this; simp only [Bool.and_eq_true] at this; exact this.1)
      have h2 := madeB_not hl hd hm h.2
      intro h0
      obtain ⟨k, e0⟩ := List.getElem?_of_mem h0
      have c1 := (Lib.indexByte_some hi.2).1
      rw [ByteArray.data_extract, Array.toList_extract, List.extract_eq_take_drop] at h1 h2
      rcases Nat.lt_trichotomy k i with hk | hk | hk
      · exact h1 (List.mem_of_getElem? (i := k) (by rw [List.getElem?_take_of_lt (by omega), List.drop_zero]; exact e0))
      · subst hk
        rw [c1] at e0
        exact hat (Option.some.inj e0).symm
      · have hk2 : k < s.size := (List.getElem?_eq_some_iff.1 e0).1
        exact h2 (List.mem_of_getElem? (i := k - (i + 1)) (by rw [List.getElem?_take_of_lt (by omega), List.getElem?_drop, show i + 1 + (k - (i + 1)) = k by omega]; exact e0))
theorem nodeB_stroke {s : ByteArray} (h : nodeB s = true) : (47 : UInt8) ∉ s.data.toList := nodeB_not (by decide) (by decide) (by decide) (by decide) h
theorem nodeB_some6 {s : ByteArray} (h : nodeB s = true) : s.data.toList ≠ [] := by
  intro h0
  unfold nodeB at h
  rw [h0] at h
  have e : Lib.indexByte ([] : List UInt8) 64 = -1 := by decide
  rw [e, if_pos rfl] at h
  revert h
  decide
end Go.Proofs.YtihlpcbebpnmkaaGreatDoor

/-! Handles: which node has which, in the order of all; what is wrong with them: pure. -/
namespace Go.Proofs.YtihlpcbebpnmkaaGreatDoor
open Go.RowKit
set_option linter.unusedVariables false
set_option linter.unusedSimpArgs false

/-- The name of the property. -/
def phName : ByteArray := ⟨#[112, 104, 97, 110, 100, 108, 101]⟩
/-- One more node: the handles so far, or what is wrong. -/
def refStep (root : Nd) (acc : List (Int × List Nat)) (p : List Nat) : List (Int × List Nat) × Int :=
  match nodeAt root p with
  | none => (acc, 0)
  | some n =>
    if (oneV n phName).2.2 ≠ 0 then ([], (oneV n phName).2.2)
    else if (oneV n phName).2.1 = false then (acc, 0)
    else if (oneV n phName).1 = 0 ∨ (oneV n phName).1 = 4294967295 then ([], 11)
    else if acc.any (fun x => decide (x.1 = (oneV n phName).1)) = true then ([], 9)
    else (acc ++ [((oneV n phName).1, p)], 0)
/-- All handles of the nodes at these places, behind those so far. -/
def refsFrom (root : Nd) : List (Int × List Nat) → List (List Nat) → List (Int × List Nat) × Int
  | acc, [] => (acc, 0)
  | acc, p :: r => if (refStep root acc p).2 = 0 then refsFrom root (refStep root acc p).1 r else ([], (refStep root acc p).2)
/-- All handles of a tree. -/
def refsOf (root : Nd) : List (Int × List Nat) × Int := refsFrom root [] (placesN root [])
theorem refsFrom_err (root : Nd) : ∀ (l : List (List Nat)) (acc : List (Int × List Nat)), (refsFrom root acc l).2 ≠ 0 → (refsFrom root acc l).1 = []
  | [], acc, h => absurd rfl h
  | p :: r, acc, h => by
    rw [refsFrom] at h ⊢
    by_cases h0 : (refStep root acc p).2 = 0
    · rw [if_pos h0] at h ⊢
      exact refsFrom_err root r _ h
    · rw [if_neg h0]
theorem refsOf_err {root : Nd} (h : (refsOf root).2 ≠ 0) : (refsOf root).1 = [] := refsFrom_err root _ _ h
/-- What a good step does. -/
theorem refStep_ok {root : Nd} {acc : List (Int × List Nat)} {p : List Nat} (h : (refStep root acc p).2 = 0) : (refStep root acc p).1 = acc ∨ ∃ h, (∀ x ∈ acc, x.1 ≠ h) ∧ h ≠ 0 ∧ h ≠ 4294967295 ∧ (refStep root acc p).1 = acc ++ [(h, p)] := by
  unfold refStep at h ⊢
  split at h
  · exact .inl rfl
  · rename_i n hn
    by_cases h1 : (oneV n phName).2.2 ≠ 0
    · rw [if_pos h1] at h; exact absurd h h1
    rw [if_neg h1] at h ⊢
    by_cases h2 : (oneV n phName).2.1 = false
    · rw [if_pos h2]; exact .inl rfl
    rw [if_neg h2] at h ⊢
    by_cases h3 : (oneV n phName).1 = 0 ∨ (oneV n phName).1 = 4294967295
    · rw [if_pos h3] at h; exact absurd h (by decide)
    rw [if_neg h3] at h ⊢
    by_cases h4 : acc.any (fun x => decide (x.1 = (oneV n phName).1)) = true
    · rw [if_pos h4] at h; exact absurd h (by decide)
    rw [if_neg h4]
    refine .inr ⟨_, fun x hx e => h4 (List.any_eq_true.2 ⟨x, hx, decide_eq_true e⟩), fun e => h3 (.inl e), fun e => h3 (.inr e), rfl⟩
/-- No handle is there twice. -/
theorem refsFrom_good (root : Nd) : ∀ (l : List (List Nat)) (acc : List (Int × List Nat)), (acc.map Prod.fst).Nodup → ((refsFrom root acc l).1.map Prod.fst).Nodup
  | [], acc, h => h
  | p :: r, acc, h => by
    rw [refsFrom]
    by_cases h1 : (refStep root acc p).2 = 0
    · rw [if_pos h1]
      rcases refStep_ok h1 with e | ⟨v, hv, _, _, e⟩
      · rw [e]; exact refsFrom_good root r acc h
      · refine refsFrom_good root r _ ?_
        rw [e, List.map_append, List.nodup_append]
        refine ⟨h, by simp, fun a ha b hb => ?_⟩
        obtain ⟨x, hx, rfl⟩ := List.mem_map.1 ha
        simp only [List.map_cons, List.map_nil, List.mem_singleton] at hb
        rw [hb]
        exact hv x hx
    · rw [if_neg h1]; exact List.nodup_nil
theorem refsOf_nodup (root : Nd) : ((refsOf root).1.map Prod.fst).Nodup := refsFrom_good root _ _ List.nodup_nil
theorem refsFrom_length (root : Nd) : ∀ (l : List (List Nat)) (acc : List (Int × List Nat)), (refsFrom root acc l).1.length ≤ acc.length + l.length
  | [], acc => by simp [refsFrom]
  | p :: r, acc => by
    rw [refsFrom]
    by_cases h1 : (refStep root acc p).2 = 0
    · rw [if_pos h1]
      have ih := refsFrom_length root r (refStep root acc p).1
      rcases refStep_ok h1 with e | ⟨v, _, _, _, e⟩
      · rw [e] at ih ⊢; simp only [List.length_cons]; omega
      · rw [e] at ih ⊢; simp only [List.length_append, List.length_cons, List.length_nil] at ih ⊢; omega
    · rw [if_neg h1]; simp
/-- Where the node of a handle is. -/
def handleOf (root : Nd) (h : Int) : Option (List Nat) := ((refsOf root).1.find? fun x => decide (x.1 = h)).map Prod.snd
/-- The greatest one. -/
def mostOf (root : Nd) : Int := (refsOf root).1.foldl (fun m x => max m x.1) 0
end Go.Proofs.YtihlpcbebpnmkaaGreatDoor

/-! Layer 6, PathAll: the places of all nodes of any tree are told in order: out of what the program's All answers. -/
namespace Go.Proofs.YtihlpcbebpnmkaaGreatDoor
open Go.RowKit
set_option linter.unusedVariables false
set_option linter.unusedSimpArgs false

/-- The five cells of a tree in a new block. -/
theorem box6_cells (w : World) (v0 v1 v2 v3 v4 : Value) (W : World) (h : Below (w.heap.size + 1) (w.alloc (.cells #[v0, v1, v2, v3, v4] 29)) W) :
    W.cell? ⟨w.heap.size, 0, none⟩ = some v0 ∧ W.cell? ⟨w.heap.size, 1, none⟩ = some v1 ∧ W.cell? ⟨w.heap.size, 2, none⟩ = some v2 ∧ W.cell? ⟨w.heap.size, 3, none⟩ = some v3 ∧ W.cell? ⟨w.heap.size, 4, none⟩ = some v4 :=
  ⟨(h.cell (Nat.lt_succ_self _)).trans (World.cell?_alloc_new _ _ _ _), (h.cell (Nat.lt_succ_self _)).trans (World.cell?_alloc_new _ _ _ _), (h.cell (Nat.lt_succ_self _)).trans (World.cell?_alloc_new _ _ _ _), (h.cell (Nat.lt_succ_self _)).trans (World.cell?_alloc_new _ _ _ _), (h.cell (Nat.lt_succ_self _)).trans (World.cell?_alloc_new _ _ _ _)⟩

end Go.Proofs.YtihlpcbebpnmkaaGreatDoor

/-! Layer 6, PathBack: the path of each node of a formed tree leads to it: out of what the program's All, Path and Find answer. -/
namespace Go.Proofs.YtihlpcbebpnmkaaGreatDoor
open Go.RowKit
set_option linter.unusedVariables false
set_option linter.unusedSimpArgs false

/-- What the program's Find answers of such a text. -/
def FindOK (S : Tr → List Nat → ByteArray) : Prop := ∀ (t : Tr) (p : List Nat) (w : World), t.In w w.heap.size → checkE t = 0 → heftN t.root ≤ 134217728 → p ∈ placesN t.root [] →
  ((S t p).size ≤ 1024 → Calls Tryz.prog 49 #[t.val, .string (S t p)] w fun e w' => (∃ A c, e = .returned (.tuple #[.slice A p.length c, .int .i64 0]) ∧ Cel w' w'.heap.size A p.length (ints p) ∧ p.length ≤ c ∧ c ≤ 9223372036854775807) ∧ Below w.heap.size w w') ∧
  (1024 < (S t p).size → Calls Tryz.prog 49 #[t.val, .string (S t p)] w fun e w' => (∃ A n c E, e = .returned (.tuple #[.slice A n c, .int .i64 E])) ∧ Below w.heap.size w w')

end Go.Proofs.YtihlpcbebpnmkaaGreatDoor

/-! The node at a place: the document's answer, for any numbers. -/
namespace Go.Proofs.YtihlpcbebpnmkaaGreatDoor
open Go.RowKit
set_option linter.unusedVariables false
set_option linter.unusedSimpArgs false

/-- The node at a place below n, of any numbers. -/
def nodeZ : Nd → List Int → Option Nd
  | n, [] => some n
  | n, i :: r => if i < 0 then none else match n.kids[i.toNat]? with
    | none => none
    | some k => nodeZ k r
abbrev intsZ (z : List Int) : List Value := z.map fun k => Value.int .i64 k
theorem ints_eq (p : List Nat) : ints p = intsZ (p.map Int.ofNat) := by simp [ints, intsZ]
theorem nodeZ_nat : ∀ (p : List Nat) (n : Nd), nodeZ n (p.map Int.ofNat) = nodeAt n p
  | [], n => rfl
  | i :: p, n => by
    rw [List.map_cons, nodeZ, nodeAt, if_neg (by simp)]
    simp only [Int.ofNat_eq_natCast, Int.toNat_natCast]
    cases n.kids[i]? with
    | none => rfl
    | some k => exact nodeZ_nat p k
theorem nodeZ_append : ∀ (p q : List Int) (n : Nd), nodeZ n (p ++ q) = match nodeZ n p with | none => none | some x => nodeZ x q
  | [], q, n => by simp [nodeZ]
  | i :: p, q, n => by
    rw [List.cons_append, nodeZ, nodeZ]
    by_cases hi : i < 0
    · rw [if_pos hi, if_pos hi]
    · rw [if_neg hi, if_neg hi]
      cases n.kids[i.toNat]? with
      | none => rfl
      | some k => exact nodeZ_append p q k
theorem nodeZ_in {w : World} {B : Nat} : ∀ (p : List Int) {n x : Nd}, n.In w B → nodeZ n p = some x → x.In w B
  | [], n, x, h, e => by rw [nodeZ] at e; rw [← Option.some.inj e]; exact h
  | i :: p, n, x, h, e => by
    rw [nodeZ] at e
    by_cases hi : i < 0
    · rw [if_pos hi] at e; cases e
    rw [if_neg hi] at e
    cases hk : n.kids[i.toNat]? with
    | none => rw [hk] at e; cases e
    | some k => rw [hk] at e; exact nodeZ_in p (h.kid (List.mem_of_getElem? hk)) e
/-- The answer. -/
def getVal : Option Nd → Value
  | none => .tuple #[.agg #[.string ⟨#[]⟩, .slice none 0 0, .slice none 0 0], .bool false]
  | some x => .tuple #[x.val, .bool true]

theorem below_sets {g : Nat} {w wr : World} (h : Below g w wr) (m b : Nat) (hb : g ≤ b) (u0 u1 u2 : Value) : Below g w ((((wr.drewN m).setCell ⟨b, 0, none⟩ u0).setCell ⟨b, 1, none⟩ u1).setCell ⟨b, 2, none⟩ u2) :=
  ((Below.setCell (Below.setCell (Below.setCell (h.trans (c := wr.drewN m) ⟨rfl, rfl, rfl, Nat.le_refl _, fun _ _ => rfl⟩) (p := ⟨b, 0, none⟩) hb u0) (p := ⟨b, 1, none⟩) hb u1) (p := ⟨b, 2, none⟩) hb u2))
theorem heap_sets {wr : World} (m b k : Nat) (hk : k ≠ b) (u0 u1 u2 : Value) : ((((wr.drewN m).setCell ⟨b, 0, none⟩ u0).setCell ⟨b, 1, none⟩ u1).setCell ⟨b, 2, none⟩ u2).heap[k]? = wr.heap[k]? := by
  rw [Below.heap_setCell _ _ _ _ hk, Below.heap_setCell _ _ _ _ hk, Below.heap_setCell _ _ _ _ hk]
  rfl
theorem heap_set3 {wr : World} (m b : Nat) {v0 v1 v2 : Value} {t : TypeId} {fz : Nat × Nat} (h : wr.heap[b]? = some (.cells #[v0, v1, v2] t fz)) (u0 u1 u2 : Value) : ((((wr.drewN m).setCell ⟨b, 0, none⟩ u0).setCell ⟨b, 1, none⟩ u1).setCell ⟨b, 2, none⟩ u2).heap[b]? = some (.cells #[u0, u1, u2] t fz) := by
  simp [World.setCell, Array.getElem?_modify, h]

set_option maxRecDepth 20000 in
set_option maxHeartbeats 8000000 in
theorem refget_any (t : Tr) (z : List Int) (A : Option Addr) (n c : Nat) (w : World) (hin : t.In w w.heap.size) (hp : Cel w w.heap.size A n (intsZ z)) (hnc : n ≤ c) (hc : c ≤ 9223372036854775807) :
    Calls Tryz.prog 10 #[t.val, .slice A n c] w fun e w' => e = .returned (getVal (nodeZ t.root z)) ∧ Below w.heap.size w w' := by
  have HI := Lib.hid hin.root
  have HP := Lib.hid hp
  have HPL : Hid (z.length = n) := Lib.hid (by have := hp.1; rwa [List.length_map] at this)
  clear hin hp
  obtain ⟨boot, ra, rc, rs, ⟨nm, pa, pc, ps, ka, kc, ks⟩⟩ := t
  replace HI : Hid ((Nd.mk nm pa pc ps ka kc ks).In w w.heap.size) := HI
  show Calls _ _ #[.agg #[.int .u32 boot, .slice ra rs.length rc, .string nm, .slice pa ps.length pc, .slice ka ks.length kc], .slice A n c] w (fun e w' => e = .returned (getVal (nodeZ (Nd.mk nm pa pc ps ka kc ks) z)) ∧ Below w.heap.size w w')
  obtain ⟨R, hR⟩ : ∃ R, Nd.mk nm pa pc ps ka kc ks = R := ⟨_, rfl⟩
  have HRE := Lib.hid hR
  rw [hR] at HI ⊢
  clear hR
  obtain ⟨b0, b1, b2, b3, b4⟩ := box6_cells w (.int .u32 boot) (.slice ra rs.length rc) (.string nm) (.slice pa ps.length pc) (.slice ka ks.length kc) _ (Below.refl _ _)
  go_enter Tryz.func10, Tryz.ntmps10
  go_wp2_with fail
  clear b0 b1 b2 b3 b4
  obtain ⟨g, hg⟩ : ∃ g, g = w.heap.size := ⟨_, rfl⟩
  have HG := Lib.hid hg
  have h1 : (w.alloc (.cells #[.int .u32 boot, .slice ra rs.length rc, .string nm, .slice pa ps.length pc, .slice ka ks.length kc] 29)).heap.size = g + 1 := by simp [hg]
  have h2 : ((w.alloc (.cells #[.int .u32 boot, .slice ra rs.length rc, .string nm, .slice pa ps.length pc, .slice ka ks.length kc] 29)).alloc (.cells #[.string ⟨#[]⟩, .slice none 0 0, .slice none 0 0] 27)).heap.size = g + 1 + 1 := by simp [hg]
  have W0 : Hid ((((w.alloc (.cells #[.int .u32 boot, .slice ra rs.length rc, .string nm, .slice pa ps.length pc, .slice ka ks.length kc] 29)).alloc (.cells #[.string ⟨#[]⟩, .slice none 0 0, .slice none 0 0] 27)).alloc (.cells #[.string nm, .slice pa ps.length pc, .slice ka ks.length kc] 27)).heap[g + 1]? = some (.cells #[.string ⟨#[]⟩, .slice none 0 0, .slice none 0 0] 27 (0, 0)) ∧ (((w.alloc (.cells #[.int .u32 boot, .slice ra rs.length rc, .string nm, .slice pa ps.length pc, .slice ka ks.length kc] 29)).alloc (.cells #[.string ⟨#[]⟩, .slice none 0 0, .slice none 0 0] 27)).alloc (.cells #[.string nm, .slice pa ps.length pc, .slice ka ks.length kc] 27)).heap[g + 1 + 1]? = some (.cells #[.string nm, .slice pa ps.length pc, .slice ka ks.length kc] 27 (0, 0)) ∧ Below g w (((w.alloc (.cells #[.int .u32 boot, .slice ra rs.length rc, .string nm, .slice pa ps.length pc, .slice ka ks.length kc] 29)).alloc (.cells #[.string ⟨#[]⟩, .slice none 0 0, .slice none 0 0] 27)).alloc (.cells #[.string nm, .slice pa ps.length pc, .slice ka ks.length kc] 27))) := Lib.hid ⟨by
      rw [Below.heap_alloc _ _ _ (by rw [h2]; omega), ← h1]
      exact heap_alloc_new _ _, by
      rw [← h2]
      exact heap_alloc_new _ _, by
      have hl : g ≤ w.heap.size := by rw [hg]; exact Nat.le_refl _
      exact (((Below.refl g w).alloc hl (.cells #[.int .u32 boot, .slice ra rs.length rc, .string nm, .slice pa ps.length pc, .slice ka ks.length kc] 29)).alloc (by rw [h1]; omega) (.cells #[.string ⟨#[]⟩, .slice none 0 0, .slice none 0 0] 27)).alloc (by rw [h2]; omega) (.cells #[.string nm, .slice pa ps.length pc, .slice ka ks.length kc] 27)⟩
  rw [← hg] at HI HP ⊢
  clear h1 h2 hg
  go_loopw [12] (fun i wr => ∃ (k : Nat) (x : Nd), k ≤ n ∧ i = .int .i64 k ∧ nodeZ R (z.take k) = some x ∧ wr.heap[g + 1]? = some (.cells #[.string ⟨#[]⟩, .slice none 0 0, .slice none 0 0] 27 (0, 0)) ∧ wr.heap[g + 1 + 1]? = some (.cells #[.string x.name, x.pv, x.kv] 27 (0, 0)) ∧ Below g w wr) (fun i _ => n - (intOf i).toNat)
  case atStart =>
    obtain ⟨a1, a2, a3⟩ := W0.out
    exact ⟨0, R, Nat.zero_le _, rfl, rfl, a1, by rw [← HRE.out]; exact a2, a3⟩
  case round =>
    obtain ⟨k, x, hk, rfl, hx, hz, hbk, hb⟩ := hrel
    have HX := Lib.hid hx
    have HBK := Lib.hid hbk
    have HZC := Lib.hid hz
    have HB := Lib.hid hb
    have y0 : wr.cell? ⟨g + 1, 0, none⟩ = some (.string ⟨#[]⟩) := by rw [Lib.cell_of_heap hz]; rfl
    have y1 : wr.cell? ⟨g + 1, 1, none⟩ = some (.slice none 0 0) := by rw [Lib.cell_of_heap hz]; rfl
    have y2 : wr.cell? ⟨g + 1, 2, none⟩ = some (.slice none 0 0) := by rw [Lib.cell_of_heap hz]; rfl
    have e0 := Lib.frozen_of_heap hz 0
    have e1 := Lib.frozen_of_heap hz 1
    have e2 := Lib.frozen_of_heap hz 2
    have f0 := Lib.frozen_of_heap hbk 0
    have f1 := Lib.frozen_of_heap hbk 1
    have f2 := Lib.frozen_of_heap hbk 2
    have hxin := (nodeZ_in _ HI.out hx).under hb
    by_cases hlt : k < n
    · obtain ⟨pb, po, rfl, _, hcell⟩ := (HP.out.below hb).2 (by omega)
      have ck := hcell k hlt
      have hkp : k < z.length := by rw [HPL.out]; exact hlt
      rw [List.getElem?_map, List.getElem?_eq_getElem hkp] at ck
      have hzt : z.take (k + 1) = z.take k ++ [z[k]] := by rw [List.take_add_one, List.getElem?_eq_getElem hkp]; rfl
      have hzs : nodeZ R z = nodeZ x (z[k] :: z.drop (k + 1)) := by
        have e : z = z.take k ++ (z[k] :: z.drop (k + 1)) := by rw [List.getElem_cons_drop, List.take_append_drop]
        conv => lhs; rw [e, nodeZ_append, hx]
      have hzn : nodeZ R (z.take (k + 1)) = nodeZ x [z[k]] := by rw [hzt, nodeZ_append, hx]
      replace ck : wr.cell? ⟨pb, po + k, none⟩ = some (.int .i64 z[k]) := ck
      generalize z[k] = q at *
      generalize z.drop (k + 1) = zr at *
      have HZS := Lib.hid hzs
      have HZN := Lib.hid hzn
      have hkm := hxin.klen
      have hkl := hxin.name_le.2.2
      have HKC := Lib.hid (fun i (hi : i < x.kids.length) => hxin.kcell hi)
      clear hzt hzs hzn hcell hkp hb hx hz hxin
      obtain ⟨xn, xpa, xpc, xps, xka, xkc, xks⟩ := x
      replace hkm : xks.length ≤ xkc ∧ xkc ≤ 9223372036854775807 := hkm
      replace hkl : xks.length * 64 ≤ 140737488351232 := hkl
      replace hbk : wr.heap[g + 1 + 1]? = some (.cells #[.string xn, .slice xpa xps.length xpc, .slice xka xks.length xkc] 27 (0, 0)) := hbk
      have c0 : wr.cell? ⟨g + 1 + 1, 0, none⟩ = some (.string xn) := by rw [Lib.cell_of_heap hbk]; rfl
      have c1 : wr.cell? ⟨g + 1 + 1, 1, none⟩ = some (.slice xpa xps.length xpc) := by rw [Lib.cell_of_heap hbk]; rfl
      have c2 : wr.cell? ⟨g + 1 + 1, 2, none⟩ = some (.slice xka xks.length xkc) := by rw [Lib.cell_of_heap hbk]; rfl
      clear hbk
      by_cases hq0 : q < 0
      · have q2 : decide (q < 0) = true := decide_eq_true hq0
        have HN : Hid (nodeZ R z = none) := Lib.hid (by rw [HZS.out, nodeZ, if_pos hq0])
        clear hq0
        go_wp2_with fail
        go_quiet (fail)
        go_wp2
        refine bodyPost_ret (v := getVal none) (by simp [results, Tryz.results10, go_sem, getVal, y0, y1, y2, e0, e1, e2]) rfl ?_
        exact ⟨by rw [HN.out], below_sets (HG.out ▸ HB.out) _ _ (by have := HG.out; omega) _ _ _⟩
      · have q1 : decide (q < 0) = false := decide_eq_false hq0
        by_cases hqk : q.toNat < xks.length
        · obtain ⟨kb, ko, ek, _, d0, d1, d2⟩ := HKC.out _ hqk
          obtain ⟨q, rfl⟩ : ∃ m : Nat, q = (m : Int) := ⟨q.toNat, by omega⟩
          simp only [Int.toNat_natCast] at hqk d0 d1 d2
          obtain rfl : xka = _ := ek
          have q2 : decide ((q : Int) ≥ (xks.length : Int)) = false := decide_eq_false (by omega)
          have q3 : ¬ ((q : Int) ≥ (xks.length : Int)) := by omega
          have HNX : Hid (nodeZ R (z.take (k + 1)) = some xks[q]) := Lib.hid (by
            rw [HZN.out, nodeZ, if_neg (by omega)]
            simp only [Int.toNat_natCast, Nd.kids, List.getElem?_eq_getElem hqk]
            rfl)
          replace d0 : wr.cell? ⟨kb, ko + q * 3, none⟩ = some (.string xks[q].name) := d0
          replace d1 : wr.cell? ⟨kb, ko + q * 3 + 1, none⟩ = some xks[q].pv := d1
          replace d2 : wr.cell? ⟨kb, ko + q * 3 + 2, none⟩ = some xks[q].kv := d2
          obtain ⟨y, hy⟩ : ∃ y, xks[q] = y := ⟨_, rfl⟩
          rw [hy] at HNX d0 d1 d2
          clear hy HKC HZS HZN HX
          obtain ⟨yn, ypa, ypc, yps, yka, ykc, yks⟩ := y
          replace d0 : wr.cell? ⟨kb, ko + q * 3, none⟩ = some (.string yn) := d0
          replace d1 : wr.cell? ⟨kb, ko + q * 3 + 1, none⟩ = some (.slice ypa yps.length ypc) := d1
          replace d2 : wr.cell? ⟨kb, ko + q * 3 + 2, none⟩ = some (.slice yka yks.length ykc) := d2
          generalize xks.length = xkl at *
          go_wp2_with fail
          go_quiet (fail)
          go_wp2_with fail
          go_region
          go_wp2
          go_roundw
          case rel => exact ⟨k + 1, Nd.mk yn ypa ypc yps yka ykc yks, by omega, by go_num, HNX.out, (heap_sets _ _ _ (by omega) _ _ _).trans HZC.out, heap_set3 _ _ HBK.out _ _ _, below_sets HB.out _ _ (by omega) _ _ _⟩
          case measure => simp [intOf]; omega
        · have q2 : decide (q ≥ (xks.length : Int)) = true := decide_eq_true (by omega)
          have HN : Hid (nodeZ R z = none) := Lib.hid (by
            rw [HZS.out, nodeZ, if_neg hq0]
            simp only [Nd.kids, List.getElem?_eq_none (Nat.le_of_not_lt hqk)])
          clear hq0 hqk
          generalize xks.length = xkl at *
          go_wp2_with fail
          go_quiet (fail)
          go_wp2
          refine bodyPost_ret (v := getVal none) (by simp [results, Tryz.results10, go_sem, getVal, y0, y1, y2, e0, e1, e2]) rfl ?_
          exact ⟨by rw [HN.out], below_sets (HG.out ▸ HB.out) _ _ (by have := HG.out; omega) _ _ _⟩
    · obtain rfl : k = n := by omega
      have HT : Hid (nodeZ R z = some x) := Lib.hid (by
        have e : z.take k = z := List.take_of_length_le (by rw [HPL.out]; exact Nat.le_refl _)
        rw [← hx, e])
      clear hxin hx hz hb
      obtain ⟨xn, xpa, xpc, xps, xka, xkc, xks⟩ := x
      replace hbk : wr.heap[g + 1 + 1]? = some (.cells #[.string xn, .slice xpa xps.length xpc, .slice xka xks.length xkc] 27 (0, 0)) := hbk
      have c0 : wr.cell? ⟨g + 1 + 1, 0, none⟩ = some (.string xn) := by rw [Lib.cell_of_heap hbk]; rfl
      have c1 : wr.cell? ⟨g + 1 + 1, 1, none⟩ = some (.slice xpa xps.length xpc) := by rw [Lib.cell_of_heap hbk]; rfl
      have c2 : wr.cell? ⟨g + 1 + 1, 2, none⟩ = some (.slice xka xks.length xkc) := by rw [Lib.cell_of_heap hbk]; rfl
      clear hbk
      go_wp2
      refine bodyPost_ret (v := getVal (some (Nd.mk xn xpa xpc xps xka xkc xks))) (by simp [results, Tryz.results10, go_sem, getVal, y0, y1, y2, e0, e1, e2, Nd.val, Nd.name, Nd.pv, Nd.kv, Nd.pa, Nd.pc, Nd.props, Nd.ka, Nd.kc, Nd.kids]) rfl ?_
      exact ⟨by rw [HT.out], below_sets (HG.out ▸ HB.out) 0 _ (by have := HG.out; omega) _ _ _⟩
end Go.Proofs.YtihlpcbebpnmkaaGreatDoor
