/-
  The places of a node and of all below it: the document's answer.
-/
import Derived.Test.YtckdddbiffoolaaQEqual
import Derived.Test.YtckdddbiffoolaaDNode
namespace Go.Proofs.Ytckdddbiffoolaa
open Go.RowKit
set_option linter.unusedVariables false
set_option linter.unusedSimpArgs false

mutual
/-- The places of a node that stands at p, and of all below it, in order. -/
def placesN : Nd → List Nat → List (List Nat)
  | .mk _ _ _ _ _ _ ks, p => p :: placesL ks p 0
def placesL : List Nd → List Nat → Nat → List (List Nat)
  | [], _, _ => []
  | k :: r, p, i => placesN k (p ++ [i]) ++ placesL r p (i + 1)
end
theorem placesN_mk (n : Nd) (p : List Nat) : placesN n p = p :: placesL n.kids p 0 := by cases n; rw [placesN]; rfl
theorem placesL_append : ∀ (a b : List Nd) (p : List Nat) (i : Nat), placesL (a ++ b) p i = placesL a p i ++ placesL b p (i + a.length)
  | [], b, p, i => by simp [placesL]
  | x :: a, b, p, i => by
    simp only [List.cons_append, placesL, placesL_append a b, List.append_assoc, List.length_cons]
    congr 3; omega
theorem placesL_next (ks : List Nd) (p : List Nat) (j : Nat) (h : j < ks.length) : placesL (ks.take (j + 1)) p 0 = placesL (ks.take j) p 0 ++ placesN ks[j] (p ++ [j]) := by
  rw [take_next ks j h, placesL_append]
  simp [placesL, Nat.min_eq_left (Nat.le_of_lt h)]
/-- How many they are, and how long: by the node's weight. -/
theorem places_len : ∀ (n : Nd) (p : List Nat), (placesN n p).length ≤ heftN n ∧ ∀ q ∈ placesN n p, q.length ≤ p.length + heftN n := by
  refine Nd.ind ?_
  intro n ih p
  have hl : ∀ (r : List Nd) (i : Nat), (∀ k ∈ r, k ∈ n.kids) → (placesL r p i).length ≤ heftL r ∧ ∀ q ∈ placesL r p i, q.length ≤ p.length + 1 + heftL r := by
    intro r
    induction r with
    | nil => intro i _; simp [placesL]
    | cons k r ihr =>
      intro i hr
      obtain ⟨a1, a2⟩ := ih k (hr k (by simp)) (p ++ [i])
      obtain ⟨b1, b2⟩ := ihr (i + 1) (fun x hx => hr x (by simp [hx]))
      rw [placesL, heftL]
      refine ⟨by rw [List.length_append]; omega, fun q hq => ?_⟩
      rcases List.mem_append.1 hq with h | h
      · have := a2 q h; simp at this; omega
      · have := b2 q h; omega
  obtain ⟨h1, h2⟩ := hl n.kids 0 (fun _ h => h)
  have e : heftN n = 16 + n.name.size + (n.props.map heftP).sum + heftL n.kids := by cases n; rw [heftN]; rfl
  rw [placesN_mk]
  refine ⟨by simp only [List.length_cons]; omega, fun q hq => ?_⟩
  rcases List.mem_cons.1 hq with rfl | h
  · omega
  · have := h2 q h; omega

theorem wp_app {P : Program} {w w' : World} {o : Oper} {a : Act} {K : Act → World → Prop} {Q : Exit → Act → World → Prop} {t u : TypeId} (s x : Operand) (ho : o.op = .call { callee := .builtin .append, args := #[s, x], argTypes := #[t, u] })
    (y z : Value) (hs : a.eval s = y) (hx : a.eval x = z) {v : Value} (hr : (Builtin.append_ #[t, u] o.type #[y, z]).run P w = .ok v w') (hK : K (a.put o.dst v) w') : o.wp P a w K Q := by
  unfold Oper.wp execOp
  simp only [ho, resolve, invoke, builtin, Sem.run_bind, Sem.run_pure, Result.andThen_ok, List.map_toArray, List.map_cons, List.map_nil, hs, hx, hr]
  exact hK
theorem own_new (W : World) (B : Nat) (hB : B ≤ W.heap.size) : (W.alloc (.cells #[] 3)).ownsRow B 3 1 (.slice (some ⟨W.heap.size, 0, none⟩) 0 0) 0 (ints []) := World.ownsRow_made W #[] 0 hB (Nat.zero_le _) rfl
/-- A row of one number. -/
theorem one_new (W : World) (j : Nat) : Cel (W.alloc (.cells #[Value.int .i64 (j : Int)] 3)) (W.heap.size + 1) (some ⟨W.heap.size, 0, none⟩) 1 (ints [j]) :=
  ⟨rfl, fun _ => ⟨W.heap.size, 0, rfl, Nat.lt_succ_self _, fun i hi => by
    obtain rfl : i = 0 := by omega
    exact World.cell?_alloc_new _ _ _ _⟩⟩
theorem one_kept {W W' : World} {g r j : Nat} (h : Cel W (g + 1) (some ⟨g, 0, none⟩) 1 (ints [j])) (hg : W.grownBy W' (some r)) (hne : g ≠ r ∧ g < W.heap.size) : Cel W' (g + 1) (some ⟨g, 0, none⟩) 1 (ints [j]) :=
  ⟨rfl, fun _ => ⟨g, 0, rfl, Nat.lt_succ_self _, fun i hi => by
    obtain ⟨b, o, e, _, hc⟩ := h.2 (by omega)
    simp only [Option.some.injEq, Addr.mk.injEq] at e
    obtain ⟨rfl, rfl, _⟩ := e
    rw [← hc i hi]
    exact World.cell?_of_block (w := W) (hg.block _ hne.2 (fun e => hne.1 (Option.some.inj e)))⟩⟩
theorem Cel.below' {W : World} {g j : Nat} (h : Cel W (g + 1) (some ⟨g, 0, none⟩) 1 (ints [j])) (o : Obj) : Cel (W.alloc o) (g + 1) (some ⟨g, 0, none⟩) 1 (ints [j]) :=
  ⟨h.1, fun h0 => by
    obtain ⟨b, q, e, hb, hc⟩ := h.2 h0
    exact ⟨b, q, e, hb, fun i hi => by rw [← hc i hi]; exact Lib.cell?_alloc_some o ((hc i hi).trans (List.getElem?_eq_getElem (by simpa using hi))) |>.trans ((hc i hi).trans (List.getElem?_eq_getElem (by simpa using hi))).symm⟩⟩
theorem PlV.re {w : World} {lo lo' hi : Nat} {own own' : Option Nat} {v : Value} {p : List Nat} (h : PlV w lo hi own v p) (hn : ∀ b, lo ≤ b → b < hi → own ≠ some b → lo' ≤ b ∧ own' ≠ some b) : PlV w lo' hi own' v p := by
  obtain ⟨A, c, e, hc, h1, h2, h3⟩ := h
  refine ⟨A, c, e, hc, h1, h2, fun h0 b o e => ?_⟩
  obtain ⟨h4, h5⟩ := h3 h0 b o e
  obtain ⟨b', o', e', hb, _⟩ := hc.2 h0
  rw [e] at e'
  simp only [Option.some.injEq, Addr.mk.injEq] at e'
  exact hn b h4 (by omega) h5
theorem PlV.one {w : World} {lo hi : Nat} {own : Option Nat} {v : Value} {p : List Nat} (h : PlV w lo hi own v p) : v.oneCell' = true := by
  obtain ⟨A, c, rfl, _⟩ := h
  rfl
theorem two_one {w : World} {lo hi : Nat} {own : Option Nat} : ∀ {vs : List Value} {ps : List (List Nat)}, Two (PlV w lo hi own) vs ps → ∀ u ∈ vs, u.oneCell' = true
  | _, _, .nil, u, h => by cases h
  | _, _, .cons a t, u, h => by
    rcases List.mem_cons.1 h with rfl | h
    · exact a.one
    · exact two_one t u h
/-- A list of places is appended onto another one. -/
theorem app_places {w : World} {lo lo2 : Nat} {v u : Value} {ps qs : List (List Nat)} (hv : PlRow w lo v ps) (hu : PlRow w lo2 u qs) (hlo : lo ≤ lo2) (hlt : ∀ g, v.ownBlock = some g → g < lo2) (hbig : ps.length + qs.length ≤ 1073741824) (hlo2 : lo2 ≤ w.heap.size) :
    ∃ A n c A' n' c' w', u = .slice A n c ∧ (Builtin.append_ #[33, 33] 33 #[v, .slice A n c]).run Try.prog w = .ok (.slice A' n' c') w' ∧ PlRow w' lo (.slice A' n' c') (ps ++ qs) ∧ Below lo w w' := by
  obtain ⟨vs, hv1, hv2⟩ := hv.row
  obtain ⟨us, hu1, hu2⟩ := hu.row
  have lv := hv2.len
  have lu := hu2.len
  rw [← lv] at hv1
  obtain ⟨A, c, rfl, hcel, h1, h2, _⟩ := owned_cel hu1
  obtain ⟨i0, hi, hz, hs1, hb⟩ := info_any info_ints
  obtain ⟨v', w', r, g1, g2, g3⟩ := app_cel Try.underlying33 hi hz hs1 hb rfl c hv1 hcel (two_one hu2) (by omega) (by omega) (by omega) 33
  have hbl := (Below.refl lo w).grown g2 (by omega) (fun q hq => (hv1.lt q hq).1)
  obtain ⟨A', c', rfl, _, _, _, _⟩ := owned_cel g1
  have hown : ∀ b, b < w.heap.size → v.ownBlock ≠ some b → (Value.slice A' (vs ++ us).length c').ownBlock ≠ some b := fun b hb hne => by
    rcases g3 with e | e
    · rw [e]; exact hne
    · rw [e]; intro e2; have := Option.some.inj e2; omega
  have hcell : ∀ a : Addr, a.block < w.heap.size → v.ownBlock ≠ some a.block → w'.cell? a = w.cell? a := fun a ha hne => World.cell?_of_block (w := w) (g2.block _ ha (fun e => hne e.symm))
  have hre : ∀ b, lo2 ≤ b → b < w.heap.size → (Value.slice A qs.length c).ownBlock ≠ some b → lo ≤ b ∧ v.ownBlock ≠ some b := fun b hb1 _ _ => ⟨Nat.le_trans hlo hb1, fun e => Nat.lt_irrefl _ (Nat.lt_of_lt_of_le (hlt b e) hb1)⟩
  have e : (ps ++ qs).length = (vs ++ us).length := by rw [List.length_append, List.length_append, lv, lu]
  exact ⟨A, _, c, A', _, c', w', rfl, r, ⟨vs ++ us, by rw [e]; exact g1, Two.app (hv2.mono fun x p hx => hx.keep hbl.size hcell hown) (hu2.mono fun x p hx => (hx.re hre).keep hbl.size hcell hown)⟩, hbl⟩
theorem PlRow.low {w : World} {lo lo' : Nat} {v : Value} {ps : List (List Nat)} (h : PlRow w lo v ps) (hl : lo' ≤ lo) : PlRow w lo' v ps := by
  obtain ⟨vs, h1, h2⟩ := h.row
  refine ⟨vs, ⟨h1.1, ?_⟩, h2.mono fun x p hx => hx.re fun b hb _ hne => ⟨by omega, hne⟩⟩
  rcases h1.2 with h | ⟨g, cap, cur, e, hb, r⟩
  · exact .inl h
  · exact .inr ⟨g, cap, cur, e, by omega, r⟩
/-- Nothing that was there has been touched. -/
theorem PlRow.on {w w' : World} {lo : Nat} {v : Value} {ps : List (List Nat)} (h : PlRow w lo v ps) (hb : Below w.heap.size w w') : PlRow w' lo v ps := by
  obtain ⟨vs, h1, h2⟩ := h.row
  exact ⟨vs, own_on h1 hb, h2.mono fun x p hx => hx.keep hb.size (fun a ha _ => hb.cell ha) (fun _ _ h => h)⟩
theorem PlRow.lt {w : World} {lo : Nat} {v : Value} {ps : List (List Nat)} (h : PlRow w lo v ps) : ∀ g, v.ownBlock = some g → lo ≤ g ∧ g < w.heap.size := by
  obtain ⟨vs, h1, _⟩ := h.row
  exact h1.lt
/-- A list of one place. -/
theorem one_place {w : World} {lo : Nat} {A : Option Addr} {c : Nat} {p : List Nat} {pl : Nat} (hpl : p.length = pl) (h : w.ownsRow lo 3 1 (.slice A pl c) pl (ints p)) (hlo : lo ≤ w.heap.size) : PlRow (w.alloc (.cells #[.slice A pl c] 41)) lo (.slice (some ⟨w.heap.size, 0, none⟩) 1 1) [p] := by
  subst hpl
  obtain ⟨A', c', e, hc, h1, h2, h3⟩ := owned_cel h
  simp only [Value.slice.injEq, true_and] at e
  obtain ⟨rfl, rfl⟩ := e
  have hb := (Below.refl w.heap.size w).alloc (Nat.le_refl _) (.cells #[.slice A p.length c] 41)
  refine ⟨[.slice A p.length c], ⟨rfl, .inr ⟨w.heap.size, 1, _, rfl, hlo, heap_alloc_new w _, Nat.le_refl _, by unfold maxLen; omega, rfl, rfl⟩⟩, .cons ⟨A, c, rfl, hc.on hb, h1, h2, fun h0 b o e => ?_⟩ .nil⟩
  subst e
  have := h3 b rfl
  exact ⟨this.1, fun e => by simp [Value.ownBlock] at e; omega⟩
theorem placesL_len : ∀ (r : List Nd) (p : List Nat) (i : Nat), (placesL r p i).length ≤ heftL r
  | [], p, i => by simp [placesL]
  | k :: r, p, i => by
    have h1 := (places_len k (p ++ [i])).1
    have h2 := placesL_len r p (i + 1)
    rw [placesL, heftL, List.length_append]; omega

set_option maxRecDepth 20000 in
set_option maxHeartbeats 8000000 in
theorem refall_any : ∀ (n : Nd) (p : List Nat) (pA : Option Addr) (pl pc : Nat) (w : World), n.In w w.heap.size → p.length = pl → Cel w w.heap.size pA pl (ints p) → pl ≤ pc → pc ≤ 9223372036854775807 → pl + heftN n ≤ 268435456 →
    Calls Try.prog 8 #[n.val, .slice pA pl pc] w fun e w' => (∃ v, e = .returned v ∧ PlRow w' w.heap.size v (placesN n p)) ∧ Below w.heap.size w w' := by
  refine Nd.ind ?_
  intro n ih p pA pl pc w hin hpl hp hpc hpc' hz
  have HI := Lib.hid hin
  have HP := Lib.hid hp
  have IH := Lib.hid ih
  have HZ := Lib.hid hz
  obtain ⟨hkl, hkm⟩ := hin.klen
  have HPN := Lib.hid (placesN_mk n p)
  have HZL : Hid (heftN n = 16 + n.name.size + (n.props.map heftP).sum + heftL n.kids) := Lib.hid (by cases n; rw [heftN]; rfl)
  have HPC := Lib.hid (And.intro hpl (And.intro hpc hpc'))
  clear hin hp ih hz hpl hpc hpc'
  obtain ⟨nm, pa, pc', ps, ka, kc, ks⟩ := n
  replace hkl : ks.length ≤ kc := hkl
  replace hkm : kc ≤ 9223372036854775807 := hkm
  show Calls _ _ #[.agg #[.string nm, .slice pa ps.length pc', .slice ka ks.length kc], .slice pA pl pc] _ _
  have HB0 := Lib.hid ((Below.refl w.heap.size w).alloc (Nat.le_refl _) (.cells #[Value.string nm, .slice pa ps.length pc', .slice ka ks.length kc] 27))
  have R1 : Hid (∃ A1 c1 w1, (Builtin.append_ #[41, 41] 41 #[.slice (some ⟨w.heap.size + 1, 0, none⟩) 0 0, .slice pA pl pc]).run Try.prog ((w.alloc (.cells #[Value.string nm, .slice pa ps.length pc', .slice ka ks.length kc] 27)).alloc (.cells #[] 3)) = .ok (.slice A1 pl c1) w1 ∧ w1.ownsRow (w.heap.size + 1) 3 1 (.slice A1 pl c1) pl (ints p) ∧ Below (w.heap.size + 1) (w.alloc (.cells #[Value.string nm, .slice pa ps.length pc', .slice ka ks.length kc] 27)) w1) := by
    have hb1 := (Below.refl _ (w.alloc (.cells #[Value.string nm, .slice pa ps.length pc', .slice ka ks.length kc] 27))).alloc (Nat.le_refl _) (.cells #[] 3)
    have ho := own_new (w.alloc (.cells #[Value.string nm, .slice pa ps.length pc', .slice ka ks.length kc] 27)) _ (Nat.le_refl _)
    obtain ⟨v1, w1, r1, g1⟩ := app_ints (xs := []) pc ho ((HP.out.below (HB0.out.trans (hb1.mono HB0.out.size)))) (by simp only [List.length_nil]; have := HPC.out.1; have := HZ.out; omega) hb1.size 41
    have g2 := g1.below ho hb1 hb1.size
    have e : (w.alloc (.cells #[Value.string nm, .slice pa ps.length pc', .slice ka ks.length kc] 27)).heap.size = w.heap.size + 1 := by simp
    rw [e] at r1 g1 g2
    have g3 := g1.1
    rw [List.nil_append, List.length_map, HPC.out.1] at g3
    obtain ⟨A1, c1, rfl, _⟩ := owned_cel g3
    exact Lib.hid ⟨A1, c1, w1, r1, g3, g2⟩
  obtain ⟨A1, c1, w1, r1, o1, b1⟩ := R1.out
  have HO1 := Lib.hid (one_place HPC.out.1 o1 (by have := b1.size; simpa using this))
  have HB1 := Lib.hid (b1.alloc (by have := b1.size; simpa using this) (.cells #[.slice A1 pl c1] 41))
  have BX : Hid (∀ W, Below (w.heap.size + 1) (w.alloc (.cells #[Value.string nm, .slice pa ps.length pc', .slice ka ks.length kc] 27)) W → W.cell? ⟨w.heap.size, 2, none⟩ = some (Value.slice ka ks.length kc)) := Lib.hid (fun W h => (h.cell (Nat.lt_succ_self _)).trans (World.cell?_alloc_new _ _ _ _))
  have x2 := BX.out _ HB1.out
  clear R1 o1 b1
  go_enter Try.func8, Try.ntmps8
  go_wp2_with (at_builtin; refine Lib.wpList_append_run_sl _ rfl _ _ _ rfl _ _ rfl rfl r1 ?_)
  clear r1 x2
  go_loopw [5, 14] (fun out i wr => ∃ j : Nat, j ≤ ks.length ∧ i = .int .i64 j ∧ Below (w.heap.size + 1) (w.alloc (.cells #[Value.string nm, .slice pa ps.length pc', .slice ka ks.length kc] 27)) wr ∧ PlRow wr (w.heap.size + 1) out (p :: placesL (ks.take j) p 0)) (fun _ i _ => ks.length - (intOf i).toNat)
  case atStart => exact ⟨0, Nat.zero_le _, rfl, HB1.out, by simpa [placesL] using HO1.out⟩
  case round =>
    obtain ⟨j, hj, rfl, hb, hrow⟩ := hrel
    have HBX := Lib.hid hb
    have HB := Lib.hid (HB0.out.trans (hb.mono (Nat.le_succ _)))
    have HR := Lib.hid hrow
    by_cases hlt : j < ks.length
    · obtain ⟨vs, hown, _⟩ := hrow.row
      obtain ⟨Ao, co, rfl, _, _, _, _⟩ := owned_cel hown
      obtain ⟨b, o, e, hbk, c0, c1', c2⟩ := (HI.out.under HB.out).kcell (i := j) hlt
      obtain rfl : ka = _ := e
      have hkin := HI.out.kid (k := ks[j]) (List.getElem_mem hlt)
      have hheft : heftN ks[j] ≤ heftL ks ∧ (placesL (ks.take j) p 0).length + heftN ks[j] ≤ heftL ks := by
        have h1 := heftL_next ks j hlt
        have h2 := heftL_take ks (j + 1)
        have h3 := placesL_len (ks.take j) p 0
        omega
      have hz' : pl + (16 + nm.size + (ps.map heftP).sum + heftL ks) ≤ 268435456 := by
        have h1 := HZ.out
        rw [HZL.out] at h1
        exact h1
      have HNX : Hid (p :: placesL (ks.take (j + 1)) p 0 = (p :: placesL (ks.take j) p 0) ++ placesN ks[j] (p ++ [j])) := Lib.hid (by rw [placesL_next ks p j hlt]; rfl)
      have FIN : Hid (∀ (v12 : Value) (W : World) (lo2 : Nat), wr.heap.size ≤ lo2 → lo2 ≤ W.heap.size → PlRow W lo2 v12 (placesN ks[j] (p ++ [j])) → Below wr.heap.size wr W → ∃ A n c A' n' c' w', v12 = .slice A n c ∧ (Builtin.append_ #[33, 33] 33 #[.slice Ao (p :: placesL (ks.take j) p 0).length co, .slice A n c]).run Try.prog W = .ok (.slice A' n' c') w' ∧ PlRow w' (w.heap.size + 1) (.slice A' n' c') ((p :: placesL (ks.take j) p 0) ++ placesN ks[j] (p ++ [j])) ∧ Below (w.heap.size + 1) wr w') := Lib.hid (fun v12 W lo2 hlo hl2 h12 hbW => by
        have hbs := HBX.out.size
        simp at hbs
        obtain ⟨A, n, c, A', n', c', w', e1, e2, e3, e4⟩ := app_places (HR.out.on hbW) h12 (by omega) (fun g hg => by have := (HR.out.lt g hg).2; omega) (by have := (places_len ks[j] (p ++ [j])).1; simp only [List.length_cons]; omega) hl2
        exact ⟨A, n, c, A', n', c', w', e1, e2, e3, (hbW.mono (by omega)).trans (e4.mono (Nat.le_refl _))⟩)
      have AP8 : Hid (∀ (W : World) (g : Nat), W.ownsRow wr.heap.size 3 1 (.slice (some ⟨g, 0, none⟩) 0 0) 0 (ints []) → Below wr.heap.size wr W → ∃ A8 c8 w8, (Builtin.append_ #[41, 41] 41 #[.slice (some ⟨g, 0, none⟩) 0 0, .slice pA pl pc]).run Try.prog W = .ok (.slice A8 pl c8) w8 ∧ w8.ownsRow wr.heap.size 3 1 (.slice A8 pl c8) pl (ints p) ∧ W.grownBy w8 (some g) ∧ Below wr.heap.size wr w8) := Lib.hid (fun W g ho hbW => by
        obtain ⟨v, w', r, g1⟩ := app_ints (xs := []) pc ho ((HP.out.below HB.out).below (hbW.mono HB.out.size)) (by simp only [List.length_nil]; have := HPC.out.1; omega) hbW.size 41
        have g2 := g1.below ho hbW hbW.size
        have g3 := g1.1
        rw [List.nil_append, List.length_map, HPC.out.1] at g3
        obtain ⟨A, c, rfl, _⟩ := owned_cel g3
        exact ⟨A, c, w', r, g3, g1.2.1, g2⟩)
      have AP11 : Hid (∀ (W : World) (A8 : Option Addr) (c8 g : Nat), W.ownsRow wr.heap.size 3 1 (.slice A8 pl c8) pl (ints p) → Cel W (g + 1) (some ⟨g, 0, none⟩) 1 (ints [j]) → Below wr.heap.size wr W → ∃ A11 c11 W11, (Builtin.append_ #[41, 41] 41 #[.slice A8 pl c8, .slice (some ⟨g, 0, none⟩) 1 1]).run Try.prog W = .ok (.slice A11 (pl + 1) c11) W11 ∧ Cel W11 W11.heap.size A11 (pl + 1) (ints (p ++ [j])) ∧ pl + 1 ≤ c11 ∧ c11 ≤ 9223372036854775807 ∧ Below wr.heap.size wr W11) := Lib.hid (fun W A8 c8 g ho hc hbW => by
        have ho' : W.ownsRow wr.heap.size 3 1 (.slice A8 pl c8) p.length (ints p) := by rw [HPC.out.1]; exact ho
        obtain ⟨v, w', r, g1⟩ := app_ints 1 ho' hc (by have := HPC.out.1; simp only [List.length_cons, List.length_nil]; omega) hbW.size 41
        have ho2 : W.ownsRow wr.heap.size 3 1 (.slice A8 pl c8) (ints p).length (ints p) := by rw [List.length_map]; exact ho'
        have g2 := g1.below ho2 hbW hbW.size
        have g3 := g1.1
        have e : (ints (p ++ [j])).length = pl + 1 := by rw [List.length_map, List.length_append, HPC.out.1]; rfl
        rw [e] at g3
        obtain ⟨A, c, rfl, h1, h2, h3, _⟩ := owned_cel g3
        exact ⟨A, c, w', r, h1, h2, h3, g2⟩)
      have CALL : Hid (∀ (A : Option Addr) (c : Nat) (W : World), Below wr.heap.size wr W → Cel W W.heap.size A (pl + 1) (ints (p ++ [j])) → pl + 1 ≤ c → c ≤ 9223372036854775807 → Calls Try.prog 8 #[ks[j].val, .slice A (pl + 1) c] W fun e w' => (∃ v, e = .returned v ∧ PlRow w' W.heap.size v (placesN ks[j] (p ++ [j]))) ∧ Below W.heap.size W w') := Lib.hid (fun A c W hbW hcel hc hc' =>
        IH.out ks[j] (List.getElem_mem hlt) (p ++ [j]) A (pl + 1) c W ((hkin.under (HB.out.trans (hbW.mono HB.out.size))).more (HB.out.trans (hbW.mono HB.out.size)).size) (by rw [List.length_append, HPC.out.1]; rfl) hcel hc hc' (by omega))
      generalize hM : (p :: placesL (ks.take j) p 0).length = M at *
      obtain ⟨Q, hQ⟩ : ∃ Q, placesN ks[j] (p ++ [j]) = Q := ⟨_, rfl⟩
      obtain ⟨kd, hkd⟩ : ∃ kd, ks[j] = kd := ⟨_, rfl⟩
      rw [hQ] at CALL FIN HNX
      replace c0 : _ = some (Value.string ks[j].name) := c0
      replace c1' : _ = some ks[j].pv := c1'
      replace c2 : _ = some ks[j].kv := c2
      rw [hkd] at CALL c0 c1' c2
      clear hQ hkd hkin hheft hz' hb hrow hown hM
      obtain ⟨kn, kpa, kpc, kps, kka, kkc, kks⟩ := kd
      replace c0 : _ = some (Value.string kn) := c0
      replace c1' : _ = some (Value.slice kpa kps.length kpc) := c1'
      replace c2 : _ = some (Value.slice kka kks.length kkc) := c2
      replace CALL : Hid (∀ (A : Option Addr) (c : Nat) (W : World), Below wr.heap.size wr W → Cel W W.heap.size A (pl + 1) (ints (p ++ [j])) → pl + 1 ≤ c → c ≤ 9223372036854775807 → Calls Try.prog 8 #[.agg #[.string kn, .slice kpa kps.length kpc, .slice kka kks.length kkc], .slice A (pl + 1) c] W fun e w' => (∃ v, e = .returned v ∧ PlRow w' W.heap.size v Q) ∧ Below W.heap.size W w') := CALL
      generalize kps.length = kpl at *
      generalize kks.length = kkl at *
      have HS2 : Hid (∀ W, Below (w.heap.size + 1) wr W → (W.cell? ⟨w.heap.size, 2, none⟩ = some (Value.slice (some ⟨b, o, none⟩) ks.length kc) ∧ W.cell? ⟨b, o + j * 3, none⟩ = some (Value.string kn) ∧ W.cell? ⟨b, o + j * 3 + 1, none⟩ = some (Value.slice kpa kpl kpc) ∧ W.cell? ⟨b, o + j * 3 + 2, none⟩ = some (Value.slice kka kkl kkc))) := Lib.hid (fun W hW => by
        exact ⟨(hW.cell (p := ⟨w.heap.size, 2, none⟩) (Nat.lt_succ_self _)).trans (BX.out _ HBX.out), (hW.cell (p := ⟨b, o + j * 3, none⟩) (Nat.lt_succ_of_lt hbk)).trans c0, (hW.cell (p := ⟨b, o + j * 3 + 1, none⟩) (Nat.lt_succ_of_lt hbk)).trans c1', (hW.cell (p := ⟨b, o + j * 3 + 2, none⟩) (Nat.lt_succ_of_lt hbk)).trans c2⟩)
      have HS : Hid (∀ W, Below wr.heap.size wr W → (W.cell? ⟨w.heap.size, 2, none⟩ = some (Value.slice (some ⟨b, o, none⟩) ks.length kc) ∧ W.cell? ⟨b, o + j * 3, none⟩ = some (Value.string kn) ∧ W.cell? ⟨b, o + j * 3 + 1, none⟩ = some (Value.slice kpa kpl kpc) ∧ W.cell? ⟨b, o + j * 3 + 2, none⟩ = some (Value.slice kka kkl kkc))) := Lib.hid (fun W hW => by
        have ko : ∀ {a : Addr} {v : Value}, wr.cell? a = some v → W.cell? a = some v := fun {a v} h => (hW.cell (p := a) (World.block_lt_of_cell? wr _ h)).trans h
        exact ⟨ko (BX.out _ HBX.out), ko c0, ko c1', ko c2⟩)
      go_wp2_with fail
      refine wp_region_held_drew (S := fun W => W.cell? ⟨w.heap.size, 2, none⟩ = some (Value.slice (some ⟨b, o, none⟩) ks.length kc) ∧ W.cell? ⟨b, o + j * 3, none⟩ = some (Value.string kn) ∧ W.cell? ⟨b, o + j * 3 + 1, none⟩ = some (Value.slice kpa kpl kpc) ∧ W.cell? ⟨b, o + j * 3 + 2, none⟩ = some (Value.slice kka kkl kkc)) (by kernel_rfl) (HS.out _ (Below.refl _ wr).drew) (fun hHeld => ?_)
      refine held_take 0 rfl (by kernel_rfl) (by kernel_rfl) (by kernel_rfl) (fun _ _ _ h => h) (by rfl) hHeld (v := ?_) (fun w hSw => ?_) (fun _ => ?_)
      rotate_left
      · ((try dsimp only at hSw); go_simp; (try with_reducible rfl))
      simp only [Act.put, List.setIfInBounds_toArray, List.set_cons_zero, List.set_cons_succ]
      refine held_take 1 rfl (by kernel_rfl) (by kernel_rfl) (by kernel_rfl) (fun _ _ _ h => h) (by rfl) hHeld (v := ?_) (fun w hSw => ?_) (fun _ => ?_)
      rotate_left
      · ((try dsimp only at hSw); go_simp; (try with_reducible rfl))
      simp only [Act.put, List.setIfInBounds_toArray, List.set_cons_zero, List.set_cons_succ]
      refine held_take 2 rfl (by kernel_rfl) (by kernel_rfl) (by kernel_rfl) (fun _ _ _ h => h) (by rfl) hHeld (v := ?_) (fun w hSw => ?_) (fun _ => ?_)
      rotate_left
      · ((try dsimp only at hSw); go_simp; (try with_reducible rfl))
      simp only [Act.put, List.setIfInBounds_toArray, List.set_cons_zero, List.set_cons_succ]
      refine held_take 3 rfl (by kernel_rfl) (by kernel_rfl) (by kernel_rfl) (fun _ _ _ h => h) (by rfl) hHeld (v := ?_) (fun w hSw => ?_) (fun _ => ?_)
      rotate_left
      · ((try dsimp only at hSw); go_simp; (try with_reducible rfl))
      simp only [Act.put, List.setIfInBounds_toArray, List.set_cons_zero, List.set_cons_succ]
      refine held_take 4 rfl (by kernel_rfl) (by kernel_rfl) (by kernel_rfl) (fun _ _ _ h => h) (by rfl) hHeld (v := ?_) (fun w hSw => ?_) (fun _ => ?_)
      rotate_left
      · ((try dsimp only at hSw); go_simp; (try with_reducible rfl))
      simp only [Act.put, List.setIfInBounds_toArray, List.set_cons_zero, List.set_cons_succ]
      refine held_take 5 rfl (by kernel_rfl) (by kernel_rfl) (by kernel_rfl) (fun _ _ _ h => h) (by rfl) hHeld (v := ?_) (fun w hSw => ?_) (fun _ => ?_)
      rotate_left
      · ((try dsimp only at hSw); go_simp; (try with_reducible rfl))
      simp only [Act.put, List.setIfInBounds_toArray, List.set_cons_zero, List.set_cons_succ]
      refine held_take 7 rfl (by kernel_rfl) (by kernel_rfl) (by kernel_rfl) (fun _ _ _ h => h) (by rfl) hHeld (v := ?_) (fun w hSw => ?_) (fun _ => ?_)
      rotate_left
      · ((try dsimp only at hSw); go_simp; (try with_reducible rfl))
      simp only [Act.put, List.setIfInBounds_toArray, List.set_cons_zero, List.set_cons_succ]
      refine held_take 9 rfl (by kernel_rfl) (by kernel_rfl) (by kernel_rfl) (fun _ _ _ h => h) (by rfl) hHeld (v := ?_) (fun w hSw => ?_) (fun _ => ?_)
      rotate_left
      · ((try dsimp only at hSw); go_simp; (try with_reducible rfl))
      simp only [Act.put, List.setIfInBounds_toArray, List.set_cons_zero, List.set_cons_succ]
      refine held_two 6 10 (by kernel_rfl) rfl rfl (by rfl) (by rfl) (fun K hK => ?_) (fun K hK => ?_)
      · go_simp
        refine hK.out _ _ (HS.out _ ((Below.refl _ wr).drew.alloc (Nat.le_refl _) (.cells #[] 3))) (fun hHeld => ?_)
        clear hK K
        refine held_two 8 10 (by kernel_rfl) rfl rfl (by rfl) (by rfl) (fun K hK => ?_) (fun K hK => ?_)
        · obtain ⟨A8, c8, w8, r8, o8, _, b8⟩ := AP8.out (wr.drew.alloc (.cells #[] 3)) wr.heap.size (own_new wr.drew _ (Nat.le_refl _)) ((Below.refl _ wr).drew.alloc (Nat.le_refl _) (.cells #[] 3))
          obtain ⟨A11, c11, W11, r11, s11, l11, m11, b11⟩ := AP11.out (w8.alloc (.cells #[Value.int .i64 (j : Int)] 3)) A8 c8 w8.heap.size (o8.alloc _) (one_new w8 j) (b8.alloc b8.size (.cells #[Value.int .i64 (j : Int)] 3))
          refine wp_app (.tmp 23) (.tmp 24) rfl _ _ rfl rfl r8 ?_
          simp only [Act.put, List.setIfInBounds_toArray, List.set_cons_zero, List.set_cons_succ]
          refine hK.out _ _ (HS.out _ b8) (fun hHeld => ?_)
          clear hK K
          refine held_call 10 (by kernel_rfl) rfl (by rfl) (fun K hK => ?_)
          go_simp
          refine hK.out _ _ (HS.out _ (b8.alloc b8.size (.cells #[Value.int .i64 (j : Int)] 3))) (fun hHeld => ?_)
          clear hK K
          refine held_call 11 (by kernel_rfl) rfl (by rfl) (fun K hK => ?_)
          refine wp_app (.tmp 25) (.tmp 27) rfl _ _ rfl rfl r11 ?_
          simp only [Act.put, List.setIfInBounds_toArray, List.set_cons_zero, List.set_cons_succ]
          refine hK.out _ _ (HS.out _ b11) (fun hHeld => ?_)
          clear hK K
          refine held_call 12 (by kernel_rfl) rfl (by rfl) (fun K hK => ?_)
          go_simp
          refine (CALL.out A11 c11 W11 b11 s11 l11 m11).mono ?_
          rintro e w12 ⟨⟨v12, rfl, hr12⟩, hb12⟩
          have b12 := b11.trans (hb12.mono b11.size)
          obtain ⟨A12, n12, c12, A13, n13, c13, w13, e12, r13, hr13, b13⟩ := FIN.out v12 w12 W11.heap.size b11.size hb12.size hr12 b12
          subst e12
          dsimp only
          refine hK.out _ _ (HS.out _ b12) (fun hHeld => ?_)
          clear hK K
          refine held_call 13 (by kernel_rfl) rfl (by rfl) (fun K hK => ?_)
          refine wp_app (.tmp 17) (.tmp 29) rfl _ _ rfl rfl r13 ?_
          simp only [Act.put, List.setIfInBounds_toArray, List.set_cons_zero, List.set_cons_succ]
          refine hK.out _ _ (HS2.out _ b13) (fun hHeld => ?_)
          clear hK K
          refine held_take 14 rfl (by kernel_rfl) (by kernel_rfl) (by kernel_rfl) (fun _ _ _ h => h) (by rfl) hHeld (v := ?_) (fun w hSw => ?_) (fun _ => ?_)
          rotate_left
          · ((try dsimp only at hSw); go_simp; (try with_reducible rfl))
          simp only [Act.put, List.setIfInBounds_toArray, List.set_cons_zero, List.set_cons_succ]
          refine wpAnyH_done (by kernel_rfl) ?_ _
          have HR13 := Lib.hid hr13
          have HB13 := Lib.hid b13
          clear hHeld r13 hr13 hr12 hb12 b12 b11 s11 l11 m11 b13
          go_wp2
          go_roundw
          case rel => exact ⟨j + 1, by omega, by go_num, HBX.out.trans HB13.out, by rw [HNX.out]; exact HR13.out⟩
          case measure => simp [intOf]; omega
        · go_simp
          refine hK.out _ _ (HS.out _ (((Below.refl _ wr).drew.alloc (Nat.le_refl _) (.cells #[] 3)).alloc (by simp) (.cells #[Value.int .i64 (j : Int)] 3))) (fun hHeld => ?_)
          clear hK K
          have o6 := (own_new wr.drew wr.heap.size (Nat.le_refl _)).alloc (.cells #[Value.int .i64 (j : Int)] 3)
          obtain ⟨A8, c8, w8, r8, o8, g8, b8⟩ := AP8.out ((wr.drew.alloc (.cells #[] 3)).alloc (.cells #[Value.int .i64 (j : Int)] 3)) wr.heap.size o6 (((Below.refl _ wr).drew.alloc (Nat.le_refl _) (.cells #[] 3)).alloc (by simp) (.cells #[Value.int .i64 (j : Int)] 3))
          obtain ⟨A11, c11, W11, r11, s11, l11, m11, b11⟩ := AP11.out w8 A8 c8 (wr.drew.alloc (.cells #[] 3)).heap.size o8 (one_kept (one_new (wr.drew.alloc (.cells #[] 3)) j) g8 (by constructor <;> simp <;> omega)) b8
          have esz : (wr.drew.alloc (.cells #[] 3)).heap.size = wr.heap.size + 1 := by simp
          rw [esz] at r11
          refine held_call 8 (by kernel_rfl) rfl (by rfl) (fun K hK => ?_)
          refine wp_app (.tmp 23) (.tmp 24) rfl _ _ rfl rfl r8 ?_
          simp only [Act.put, List.setIfInBounds_toArray, List.set_cons_zero, List.set_cons_succ]
          refine hK.out _ _ (HS.out _ b8) (fun hHeld => ?_)
          clear hK K
          refine held_call 11 (by kernel_rfl) rfl (by rfl) (fun K hK => ?_)
          refine wp_app (.tmp 25) (.tmp 27) rfl _ _ rfl rfl r11 ?_
          simp only [Act.put, List.setIfInBounds_toArray, List.set_cons_zero, List.set_cons_succ]
          refine hK.out _ _ (HS.out _ b11) (fun hHeld => ?_)
          clear hK K
          refine held_call 12 (by kernel_rfl) rfl (by rfl) (fun K hK => ?_)
          go_simp
          refine (CALL.out A11 c11 W11 b11 s11 l11 m11).mono ?_
          rintro e w12 ⟨⟨v12, rfl, hr12⟩, hb12⟩
          have b12 := b11.trans (hb12.mono b11.size)
          obtain ⟨A12, n12, c12, A13, n13, c13, w13, e12, r13, hr13, b13⟩ := FIN.out v12 w12 W11.heap.size b11.size hb12.size hr12 b12
          subst e12
          dsimp only
          refine hK.out _ _ (HS.out _ b12) (fun hHeld => ?_)
          clear hK K
          refine held_call 13 (by kernel_rfl) rfl (by rfl) (fun K hK => ?_)
          refine wp_app (.tmp 17) (.tmp 29) rfl _ _ rfl rfl r13 ?_
          simp only [Act.put, List.setIfInBounds_toArray, List.set_cons_zero, List.set_cons_succ]
          refine hK.out _ _ (HS2.out _ b13) (fun hHeld => ?_)
          clear hK K
          refine held_take 14 rfl (by kernel_rfl) (by kernel_rfl) (by kernel_rfl) (fun _ _ _ h => h) (by rfl) hHeld (v := ?_) (fun w hSw => ?_) (fun _ => ?_)
          rotate_left
          · ((try dsimp only at hSw); go_simp; (try with_reducible rfl))
          simp only [Act.put, List.setIfInBounds_toArray, List.set_cons_zero, List.set_cons_succ]
          refine wpAnyH_done (by kernel_rfl) ?_ _
          have HR13 := Lib.hid hr13
          have HB13 := Lib.hid b13
          clear hHeld r13 hr13 hr12 hb12 b12 b11 s11 l11 m11 b13
          go_wp2
          go_roundw
          case rel => exact ⟨j + 1, by omega, by go_num, HBX.out.trans HB13.out, by rw [HNX.out]; exact HR13.out⟩
          case measure => simp [intOf]; omega
      · go_simp
        refine hK.out _ _ (HS.out _ ((Below.refl _ wr).drew.alloc (Nat.le_refl _) (.cells #[Value.int .i64 (j : Int)] 3))) (fun hHeld => ?_)
        clear hK K
        refine held_call 6 (by kernel_rfl) rfl (by rfl) (fun K hK => ?_)
        go_simp
        refine hK.out _ _ (HS.out _ (((Below.refl _ wr).drew.alloc (Nat.le_refl _) (.cells #[Value.int .i64 (j : Int)] 3)).alloc (by simp) (.cells #[] 3))) (fun hHeld => ?_)
        clear hK K
        have o6 := own_new (wr.drew.alloc (.cells #[Value.int .i64 (j : Int)] 3)) wr.heap.size (by simp)
        obtain ⟨A8, c8, w8, r8, o8, g8, b8⟩ := AP8.out ((wr.drew.alloc (.cells #[Value.int .i64 (j : Int)] 3)).alloc (.cells #[] 3)) (wr.drew.alloc (.cells #[Value.int .i64 (j : Int)] 3)).heap.size o6 (((Below.refl _ wr).drew.alloc (Nat.le_refl _) (.cells #[Value.int .i64 (j : Int)] 3)).alloc (by simp) (.cells #[] 3))
        obtain ⟨A11, c11, W11, r11, s11, l11, m11, b11⟩ := AP11.out w8 A8 c8 wr.heap.size o8 (one_kept ((one_new wr.drew j).below' (.cells #[] 3)) g8 (by constructor <;> simp <;> omega)) b8
        have esz : (wr.drew.alloc (.cells #[Value.int .i64 (j : Int)] 3)).heap.size = wr.heap.size + 1 := by simp
        rw [esz] at r8
        refine held_call 8 (by kernel_rfl) rfl (by rfl) (fun K hK => ?_)
        refine wp_app (.tmp 23) (.tmp 24) rfl _ _ rfl rfl r8 ?_
        simp only [Act.put, List.setIfInBounds_toArray, List.set_cons_zero, List.set_cons_succ]
        refine hK.out _ _ (HS.out _ b8) (fun hHeld => ?_)
        clear hK K
        refine held_call 11 (by kernel_rfl) rfl (by rfl) (fun K hK => ?_)
        refine wp_app (.tmp 25) (.tmp 27) rfl _ _ rfl rfl r11 ?_
        simp only [Act.put, List.setIfInBounds_toArray, List.set_cons_zero, List.set_cons_succ]
        refine hK.out _ _ (HS.out _ b11) (fun hHeld => ?_)
        clear hK K
        refine held_call 12 (by kernel_rfl) rfl (by rfl) (fun K hK => ?_)
        go_simp
        refine (CALL.out A11 c11 W11 b11 s11 l11 m11).mono ?_
        rintro e w12 ⟨⟨v12, rfl, hr12⟩, hb12⟩
        have b12 := b11.trans (hb12.mono b11.size)
        obtain ⟨A12, n12, c12, A13, n13, c13, w13, e12, r13, hr13, b13⟩ := FIN.out v12 w12 W11.heap.size b11.size hb12.size hr12 b12
        subst e12
        dsimp only
        refine hK.out _ _ (HS.out _ b12) (fun hHeld => ?_)
        clear hK K
        refine held_call 13 (by kernel_rfl) rfl (by rfl) (fun K hK => ?_)
        refine wp_app (.tmp 17) (.tmp 29) rfl _ _ rfl rfl r13 ?_
        simp only [Act.put, List.setIfInBounds_toArray, List.set_cons_zero, List.set_cons_succ]
        refine hK.out _ _ (HS2.out _ b13) (fun hHeld => ?_)
        clear hK K
        refine held_take 14 rfl (by kernel_rfl) (by kernel_rfl) (by kernel_rfl) (fun _ _ _ h => h) (by rfl) hHeld (v := ?_) (fun w hSw => ?_) (fun _ => ?_)
        rotate_left
        · ((try dsimp only at hSw); go_simp; (try with_reducible rfl))
        simp only [Act.put, List.setIfInBounds_toArray, List.set_cons_zero, List.set_cons_succ]
        refine wpAnyH_done (by kernel_rfl) ?_ _
        have HR13 := Lib.hid hr13
        have HB13 := Lib.hid b13
        clear hHeld r13 hr13 hr12 hb12 b12 b11 s11 l11 m11 b13
        go_wp2
        go_roundw
        case rel => exact ⟨j + 1, by omega, by go_num, HBX.out.trans HB13.out, by rw [HNX.out]; exact HR13.out⟩
        case measure => simp [intOf]; omega
    · obtain rfl : j = ks.length := by omega
      have HE : Hid (p :: placesL ks p 0 = placesN (Nd.mk nm pa pc' ps ka kc ks) p) := Lib.hid HPN.out.symm
      rw [List.take_length] at hrow
      have HR2 := Lib.hid (hrow.low (Nat.le_succ _))
      clear hb hrow
      go_wp2
      go_ret
      exact ⟨⟨_, rfl, by rw [← HE.out]; exact HR2.out⟩, HB.out⟩
end Go.Proofs.Ytckdddbiffoolaa
