/-
  Base, part 3: what the proofs of this claim lean on.
-/
import Derived.Test.YtijhjlpkbnajpaaBase1
import Derived.Test.YtijhjlpkbnajpaaBase2
import Derived.Maps.Own
import Derived.Maps.OwnSet
import Derived.Maps.OwnOps
import Derived.Maps.Views
import Derived.Test.YtijhjlpkbnajpaaChecked
import Derived.Below
import Derived.WalkKit
import Derived.WalkLawsBesides
import Derived.WalkSpells
import Derived.Lib.Hide
import Derived.Lib.IndexLaws
import Derived.IntWalk
import Derived.OpenShut
import Derived.Laws.Strings3
import Derived.Lib.Strings
import Derived.Lib.Slices
import Derived.BigCall
import Derived.BigGuard
import Derived.Deep.Draws
import Derived.BigQuiet
import Derived.Deep.DrawnRows

/-! The places of a node and of all below it: the document's answer. -/
namespace Go.Proofs.Ytijhjlpkbnajpaa
open Go.RowKit
set_option linter.unusedVariables false
set_option linter.unusedSimpArgs false

mutual
/-- The places of a node that stands at p, and of all below it, in order. -/
def placesN : Nd → List Nat → List (List Nat)
  | .mk _ _ _ _ _ _ ks, p => p :: placesL ks p 0
def placesL : List Nd → List Nat → Nat → List (List Nat)
  | [], _, _ => []
  | k :: r, p, i => placesN k (p ++ [i]) ++ placesL r p (i + 1)
end
theorem placesN_mk (n : Nd) (p : List Nat) : placesN n p = p :: placesL n.kids p 0 := by cases n; rw [placesN]; rfl
theorem placesL_append : ∀ (a b : List Nd) (p : List Nat) (i : Nat), placesL (a ++ b) p i = placesL a p i ++ placesL b p (i + a.length)
  | [], b, p, i => by simp [placesL]
  | x :: a, b, p, i => by
    simp only [List.cons_append, placesL, placesL_append a b, List.append_assoc, List.length_cons]
    congr 3; omega
theorem placesL_next (ks : List Nd) (p : List Nat) (j : Nat) (h : j < ks.length) : placesL (ks.take (j + 1)) p 0 = placesL (ks.take j) p 0 ++ placesN ks[j] (p ++ [j]) := by
  rw [take_next ks j h, placesL_append]
  simp [placesL, Nat.min_eq_left (Nat.le_of_lt h)]
/-- How many they are, and how long: by the node's weight. -/
theorem places_len : ∀ (n : Nd) (p : List Nat), (placesN n p).length ≤ heftN n ∧ ∀ q ∈ placesN n p, q.length ≤ p.length + heftN n := by
  refine Nd.ind ?_
  intro n ih p
  have hl : ∀ (r : List Nd) (i : Nat), (∀ k ∈ r, k ∈ n.kids) → (placesL r p i).length ≤ heftL r ∧ ∀ q ∈ placesL r p i, q.length ≤ p.length + 1 + heftL r := by
    intro r
    induction r with
    | nil => intro i _; simp [placesL]
    | cons k r ihr =>
      intro i hr
      obtain ⟨a1, a2⟩ := ih k (hr k (by simp)) (p ++ [i])
      obtain ⟨b1, b2⟩ := ihr (i + 1) (fun x hx => hr x (by simp [hx]))
      rw [placesL, heftL]
      refine ⟨by rw [List.length_append]; omega, fun q hq => ?_⟩
      rcases List.mem_append.1 hq with h | h
      · have := a2 q h; simp at this; omega
      · have := b2 q h; omega
  obtain ⟨h1, h2⟩ := hl n.kids 0 (fun _ h => h)
  have e : heftN n = 16 + n.name.size + (n.props.map heftP).sum + heftL n.kids := by cases n; rw [heftN]; rfl
  rw [placesN_mk]
  refine ⟨by simp only [List.length_cons]; omega, fun q hq => ?_⟩
  rcases List.mem_cons.1 hq with rfl | h
  · omega
  · have := h2 q h; omega

theorem wp_app {P : Program} {w w' : World} {o : Oper} {a : Act} {K : Act → World → Prop} {Q : Exit → Act → World → Prop} {t u : TypeId} (s x : Operand) (ho : o.op = .call { callee := .builtin .append, args := #[s, x], argTypes := #[t, u] })
    (y z : Value) (hs : a.eval s = y) (hx : a.eval x = z) {v : Value} (hr : (Builtin.append_ #[t, u] o.type #[y, z]).run P w = .ok v w') (hK : K (a.put o.dst v) w') : o.wp P a w K Q := by
  unfold Oper.wp execOp
  simp only [ho, resolve, invoke, builtin, Sem.run_bind, Sem.run_pure, Result.andThen_ok, List.map_toArray, List.map_cons, List.map_nil, hs, hx, hr]
  exact hK
theorem own_new (W : World) (B : Nat) (hB : B ≤ W.heap.size) : (W.alloc (.cells #[] 3)).ownsRow B 3 1 (.slice (some ⟨W.heap.size, 0, none⟩) 0 0) 0 (ints []) := World.ownsRow_made W #[] 0 hB (Nat.zero_le _) rfl
/-- A row of one number. -/
theorem one_new (W : World) (j : Nat) : Cel (W.alloc (.cells #[Value.int .i64 (j : Int)] 3)) (W.heap.size + 1) (some ⟨W.heap.size, 0, none⟩) 1 (ints [j]) :=
  ⟨rfl, fun _ => ⟨W.heap.size, 0, rfl, Nat.lt_succ_self _, fun i hi => by
    obtain rfl : i = 0 := by omega
    exact World.cell?_alloc_new _ _ _ _⟩⟩
theorem one_kept {W W' : World} {g r j : Nat} (h : Cel W (g + 1) (some ⟨g, 0, none⟩) 1 (ints [j])) (hg : W.grownBy W' (some r)) (hne : g ≠ r ∧ g < W.heap.size) : Cel W' (g + 1) (some ⟨g, 0, none⟩) 1 (ints [j]) :=
  ⟨rfl, fun _ => ⟨g, 0, rfl, Nat.lt_succ_self _, fun i hi => by
    obtain ⟨b, o, e, _, hc⟩ := h.2 (by omega)
    simp only [Option.some.injEq, Addr.mk.injEq] at e
    obtain ⟨rfl, rfl, _⟩ := e
    rw [← hc i hi]
    exact World.cell?_of_block (w := W) (hg.block _ hne.2 (fun e => hne.1 (Option.some.inj e)))⟩⟩
theorem Cel.below' {W : World} {g j : Nat} (h : Cel W (g + 1) (some ⟨g, 0, none⟩) 1 (ints [j])) (o : Obj) : Cel (W.alloc o) (g + 1) (some ⟨g, 0, none⟩) 1 (ints [j]) :=
  ⟨h.1, fun h0 => by
    obtain ⟨b, q, e, hb, hc⟩ := h.2 h0
    exact ⟨b, q, e, hb, fun i hi => by rw [← hc i hi]; exact Lib.cell?_alloc_some o ((hc i hi).trans (List.getElem?_eq_getElem (by simpa using hi))) |>.trans ((hc i hi).trans (List.getElem?_eq_getElem (by simpa using hi))).symm⟩⟩
theorem PlV.re {w : World} {lo lo' hi : Nat} {own own' : Option Nat} {v : Value} {p : List Nat} (h : PlV w lo hi own v p) (hn : ∀ b, lo ≤ b → b < hi → own ≠ some b → lo' ≤ b ∧ own' ≠ some b) : PlV w lo' hi own' v p := by
  obtain ⟨A, c, e, hc, h1, h2, h3⟩ := h
  refine ⟨A, c, e, hc, h1, h2, fun h0 b o e => ?_⟩
  obtain ⟨h4, h5⟩ := h3 h0 b o e
  obtain ⟨b', o', e', hb, _⟩ := hc.2 h0
  rw [e] at e'
  simp only [Option.some.injEq, Addr.mk.injEq] at e'
  exact hn b h4 (by omega) h5
theorem PlV.one {w : World} {lo hi : Nat} {own : Option Nat} {v : Value} {p : List Nat} (h : PlV w lo hi own v p) : v.oneCell' = true := by
  obtain ⟨A, c, rfl, _⟩ := h
  rfl
theorem two_one {w : World} {lo hi : Nat} {own : Option Nat} : ∀ {vs : List Value} {ps : List (List Nat)}, Two (PlV w lo hi own) vs ps → ∀ u ∈ vs, u.oneCell' = true
  | _, _, .nil, u, h => by cases h
  | _, _, .cons a t, u, h => by
    rcases List.mem_cons.1 h with rfl | h
    · exact a.one
    · exact two_one t u h
/-- A list of places is appended onto another one. -/
theorem app_places {w : World} {lo lo2 : Nat} {v u : Value} {ps qs : List (List Nat)} (hv : PlRow w lo v ps) (hu : PlRow w lo2 u qs) (hlo : lo ≤ lo2) (hlt : ∀ g, v.ownBlock = some g → g < lo2) (hbig : ps.length + qs.length ≤ 1073741824) (hlo2 : lo2 ≤ w.heap.size) :
    ∃ A n c A' n' c' w', u = .slice A n c ∧ (Builtin.append_ #[58, 58] 58 #[v, .slice A n c]).run Try.prog w = .ok (.slice A' n' c') w' ∧ PlRow w' lo (.slice A' n' c') (ps ++ qs) ∧ Below lo w w' := by
  obtain ⟨vs, hv1, hv2⟩ := hv.row
  obtain ⟨us, hu1, hu2⟩ := hu.row
  have lv := hv2.len
  have lu := hu2.len
  rw [← lv] at hv1
  obtain ⟨A, c, rfl, hcel, h1, h2, _⟩ := owned_cel hu1
  obtain ⟨i0, hi, hz, hs1, hb⟩ := info_any info_ints
  obtain ⟨v', w', r, g1, g2, g3⟩ := app_cel Try.underlying58 hi hz hs1 hb rfl c hv1 hcel (two_one hu2) (by omega) (by omega) (by omega) 58
  have hbl := (Below.refl lo w).grown g2 (by omega) (fun q hq => (hv1.lt q hq).1)
  obtain ⟨A', c', rfl, _, _, _, _⟩ := owned_cel g1
  have hown : ∀ b, b < w.heap.size → v.ownBlock ≠ some b → (Value.slice A' (vs ++ us).length c').ownBlock ≠ some b := fun b hb hne => by
    rcases g3 with e | e
    · rw [e]; exact hne
    · rw [e]; intro e2; have := Option.some.inj e2; omega
  have hcell : ∀ a : Addr, a.block < w.heap.size → v.ownBlock ≠ some a.block → w'.cell? a = w.cell? a := fun a ha hne => World.cell?_of_block (w := w) (g2.block _ ha (fun e => hne e.symm))
  have hre : ∀ b, lo2 ≤ b → b < w.heap.size → (Value.slice A qs.length c).ownBlock ≠ some b → lo ≤ b ∧ v.ownBlock ≠ some b := fun b hb1 _ _ => ⟨Nat.le_trans hlo hb1, fun e => Nat.lt_irrefl _ (Nat.lt_of_lt_of_le (hlt b e) hb1)⟩
  have e : (ps ++ qs).length = (vs ++ us).length := by rw [List.length_append, List.length_append, lv, lu]
  exact ⟨A, _, c, A', _, c', w', rfl, r, ⟨vs ++ us, by rw [e]; exact g1, Two.app (hv2.mono fun x p hx => hx.keep hbl.size hcell hown) (hu2.mono fun x p hx => (hx.re hre).keep hbl.size hcell hown)⟩, hbl⟩
theorem PlRow.low {w : World} {lo lo' : Nat} {v : Value} {ps : List (List Nat)} (h : PlRow w lo v ps) (hl : lo' ≤ lo) : PlRow w lo' v ps := by
  obtain ⟨vs, h1, h2⟩ := h.row
  refine ⟨vs, ⟨h1.1, ?_⟩, h2.mono fun x p hx => hx.re fun b hb _ hne => ⟨by omega, hne⟩⟩
  rcases h1.2 with h | ⟨g, cap, cur, e, hb, r⟩
  · exact .inl h
  · exact .inr ⟨g, cap, cur, e, by omega, r⟩
/-- Nothing that was there has been touched. -/
theorem PlRow.on {w w' : World} {lo : Nat} {v : Value} {ps : List (List Nat)} (h : PlRow w lo v ps) (hb : Below w.heap.size w w') : PlRow w' lo v ps := by
  obtain ⟨vs, h1, h2⟩ := h.row
  exact ⟨vs, own_on h1 hb, h2.mono fun x p hx => hx.keep hb.size (fun a ha _ => hb.cell ha) (fun _ _ h => h)⟩
theorem PlRow.lt {w : World} {lo : Nat} {v : Value} {ps : List (List Nat)} (h : PlRow w lo v ps) : ∀ g, v.ownBlock = some g → lo ≤ g ∧ g < w.heap.size := by
  obtain ⟨vs, h1, _⟩ := h.row
  exact h1.lt
/-- A list of one place. -/
theorem one_place {w : World} {lo : Nat} {A : Option Addr} {c : Nat} {p : List Nat} {pl : Nat} (hpl : p.length = pl) (h : w.ownsRow lo 3 1 (.slice A pl c) pl (ints p)) (hlo : lo ≤ w.heap.size) : PlRow (w.alloc (.cells #[.slice A pl c] 42)) lo (.slice (some ⟨w.heap.size, 0, none⟩) 1 1) [p] := by
  subst hpl
  obtain ⟨A', c', e, hc, h1, h2, h3⟩ := owned_cel h
  simp only [Value.slice.injEq, true_and] at e
  obtain ⟨rfl, rfl⟩ := e
  have hb := (Below.refl w.heap.size w).alloc (Nat.le_refl _) (.cells #[.slice A p.length c] 42)
  refine ⟨[.slice A p.length c], ⟨rfl, .inr ⟨w.heap.size, 1, _, rfl, hlo, heap_alloc_new w _, Nat.le_refl _, by unfold maxLen; omega, rfl, rfl⟩⟩, .cons ⟨A, c, rfl, hc.on hb, h1, h2, fun h0 b o e => ?_⟩ .nil⟩
  subst e
  have := h3 b rfl
  exact ⟨this.1, fun e => by simp [Value.ownBlock] at e; omega⟩
theorem placesL_len : ∀ (r : List Nd) (p : List Nat) (i : Nat), (placesL r p i).length ≤ heftL r
  | [], p, i => by simp [placesL]
  | k :: r, p, i => by
    have h1 := (places_len k (p ++ [i])).1
    have h2 := placesL_len r p (i + 1)
    rw [placesL, heftL, List.length_append]; omega

set_option maxRecDepth 20000 in
set_option maxHeartbeats 8000000 in
theorem refall_any : ∀ (n : Nd) (p : List Nat) (pA : Option Addr) (pl pc : Nat) (w : World), n.In w w.heap.size → p.length = pl → Cel w w.heap.size pA pl (ints p) → pl ≤ pc → pc ≤ 9223372036854775807 → pl + heftN n ≤ 268435456 →
    Calls Try.prog 19 #[n.val, .slice pA pl pc] w fun e w' => (∃ v, e = .returned v ∧ PlRow w' w.heap.size v (placesN n p)) ∧ Below w.heap.size w w' := by
  refine Nd.ind ?_
  intro n ih p pA pl pc w hin hpl hp hpc hpc' hz
  have HI := Lib.hid hin
  have HP := Lib.hid hp
  have IH := Lib.hid ih
  have HZ := Lib.hid hz
  obtain ⟨hkl, hkm⟩ := hin.klen
  have HPN := Lib.hid (placesN_mk n p)
  have HZL : Hid (heftN n = 16 + n.name.size + (n.props.map heftP).sum + heftL n.kids) := Lib.hid (by cases n; rw [heftN]; rfl)
  have HPC := Lib.hid (And.intro hpl (And.intro hpc hpc'))
  clear hin hp ih hz hpl hpc hpc'
  obtain ⟨nm, pa, pc', ps, ka, kc, ks⟩ := n
  replace hkl : ks.length ≤ kc := hkl
  replace hkm : kc ≤ 9223372036854775807 := hkm
  show Calls _ _ #[.agg #[.string nm, .slice pa ps.length pc', .slice ka ks.length kc], .slice pA pl pc] _ _
  have HB0 := Lib.hid ((Below.refl w.heap.size w).alloc (Nat.le_refl _) (.cells #[Value.string nm, .slice pa ps.length pc', .slice ka ks.length kc] 27))
  have R1 : Hid (∃ A1 c1 w1, (Builtin.append_ #[42, 42] 42 #[.slice (some ⟨w.heap.size + 1, 0, none⟩) 0 0, .slice pA pl pc]).run Try.prog ((w.alloc (.cells #[Value.string nm, .slice pa ps.length pc', .slice ka ks.length kc] 27)).alloc (.cells #[] 3)) = .ok (.slice A1 pl c1) w1 ∧ w1.ownsRow (w.heap.size + 1) 3 1 (.slice A1 pl c1) pl (ints p) ∧ Below (w.heap.size + 1) (w.alloc (.cells #[Value.string nm, .slice pa ps.length pc', .slice ka ks.length kc] 27)) w1) := by
    have hb1 := (Below.refl _ (w.alloc (.cells #[Value.string nm, .slice pa ps.length pc', .slice ka ks.length kc] 27))).alloc (Nat.le_refl _) (.cells #[] 3)
    have ho := own_new (w.alloc (.cells #[Value.string nm, .slice pa ps.length pc', .slice ka ks.length kc] 27)) _ (Nat.le_refl _)
    obtain ⟨v1, w1, r1, g1⟩ := app_ints (xs := []) pc ho ((HP.out.below (HB0.out.trans (hb1.mono HB0.out.size)))) (by simp only [List.length_nil]; have := HPC.out.1; have := HZ.out; omega) hb1.size 42
    have g2 := g1.below ho hb1 hb1.size
    have e : (w.alloc (.cells #[Value.string nm, .slice pa ps.length pc', .slice ka ks.length kc] 27)).heap.size = w.heap.size + 1 := by simp
    rw [e] at r1 g1 g2
    have g3 := g1.1
    rw [List.nil_append, List.length_map, HPC.out.1] at g3
    obtain ⟨A1, c1, rfl, _⟩ := owned_cel g3
    exact Lib.hid ⟨A1, c1, w1, r1, g3, g2⟩
  obtain ⟨A1, c1, w1, r1, o1, b1⟩ := R1.out
  have HO1 := Lib.hid (one_place HPC.out.1 o1 (by have := b1.size; simpa using this))
  have HB1 := Lib.hid (b1.alloc (by have := b1.size; simpa using this) (.cells #[.slice A1 pl c1] 42))
  have BX : Hid (∀ W, Below (w.heap.size + 1) (w.alloc (.cells #[Value.string nm, .slice pa ps.length pc', .slice ka ks.length kc] 27)) W → W.cell? ⟨w.heap.size, 2, none⟩ = some (Value.slice ka ks.length kc)) := Lib.hid (fun W h => (h.cell (Nat.lt_succ_self _)).trans (World.cell?_alloc_new _ _ _ _))
  have x2 := BX.out _ HB1.out
  clear R1 o1 b1
  go_enter Try.func19, Try.ntmps19
  go_wp2_with (at_builtin; refine Lib.wpList_append_run_sl _ rfl _ _ _ rfl _ _ rfl rfl r1 ?_)
  clear r1 x2
  go_loopw [5, 14] (fun out i wr => ∃ j : Nat, j ≤ ks.length ∧ i = .int .i64 j ∧ Below (w.heap.size + 1) (w.alloc (.cells #[Value.string nm, .slice pa ps.length pc', .slice ka ks.length kc] 27)) wr ∧ PlRow wr (w.heap.size + 1) out (p :: placesL (ks.take j) p 0)) (fun _ i _ => ks.length - (intOf i).toNat)
  case atStart => exact ⟨0, Nat.zero_le _, rfl, HB1.out, by simpa [placesL] using HO1.out⟩
  case round =>
    obtain ⟨j, hj, rfl, hb, hrow⟩ := hrel
    have HBX := Lib.hid hb
    have HB := Lib.hid (HB0.out.trans (hb.mono (Nat.le_succ _)))
    have HR := Lib.hid hrow
    by_cases hlt : j < ks.length
    · obtain ⟨vs, hown, _⟩ := hrow.row
      obtain ⟨Ao, co, rfl, _, _, _, _⟩ := owned_cel hown
      obtain ⟨b, o, e, hbk, c0, c1', c2⟩ := (HI.out.under HB.out).kcell (i := j) hlt
      obtain rfl : ka = _ := e
      have hkin := HI.out.kid (k := ks[j]) (List.getElem_mem hlt)
      have hheft : heftN ks[j] ≤ heftL ks ∧ (placesL (ks.take j) p 0).length + heftN ks[j] ≤ heftL ks := by
        have h1 := heftL_next ks j hlt
        have h2 := heftL_take ks (j + 1)
        have h3 := placesL_len (ks.take j) p 0
        omega
      have hz' : pl + (16 + nm.size + (ps.map heftP).sum + heftL ks) ≤ 268435456 := by
        have h1 := HZ.out
        rw [HZL.out] at h1
        exact h1
      have HNX : Hid (p :: placesL (ks.take (j + 1)) p 0 = (p :: placesL (ks.take j) p 0) ++ placesN ks[j] (p ++ [j])) := Lib.hid (by rw [placesL_next ks p j hlt]; rfl)
      have FIN : Hid (∀ (v12 : Value) (W : World) (lo2 : Nat), wr.heap.size ≤ lo2 → lo2 ≤ W.heap.size → PlRow W lo2 v12 (placesN ks[j] (p ++ [j])) → Below wr.heap.size wr W → ∃ A n c A' n' c' w', v12 = .slice A n c ∧ (Builtin.append_ #[58, 58] 58 #[.slice Ao (p :: placesL (ks.take j) p 0).length co, .slice A n c]).run Try.prog W = .ok (.slice A' n' c') w' ∧ PlRow w' (w.heap.size + 1) (.slice A' n' c') ((p :: placesL (ks.take j) p 0) ++ placesN ks[j] (p ++ [j])) ∧ Below (w.heap.size + 1) wr w') := Lib.hid (fun v12 W lo2 hlo hl2 h12 hbW => by
        have hbs := HBX.out.size
        simp at hbs
        obtain ⟨A, n, c, A', n', c', w', e1, e2, e3, e4⟩ := app_places (HR.out.on hbW) h12 (by omega) (fun g hg => by have := (HR.out.lt g hg).2; omega) (by have := (places_len ks[j] (p ++ [j])).1; simp only [List.length_cons]; omega) hl2
        exact ⟨A, n, c, A', n', c', w', e1, e2, e3, (hbW.mono (by omega)).trans (e4.mono (Nat.le_refl _))⟩)
      have AP8 : Hid (∀ (W : World) (g : Nat), W.ownsRow wr.heap.size 3 1 (.slice (some ⟨g, 0, none⟩) 0 0) 0 (ints []) → Below wr.heap.size wr W → ∃ A8 c8 w8, (Builtin.append_ #[42, 42] 42 #[.slice (some ⟨g, 0, none⟩) 0 0, .slice pA pl pc]).run Try.prog W = .ok (.slice A8 pl c8) w8 ∧ w8.ownsRow wr.heap.size 3 1 (.slice A8 pl c8) pl (ints p) ∧ W.grownBy w8 (some g) ∧ Below wr.heap.size wr w8) := Lib.hid (fun W g ho hbW => by
        obtain ⟨v, w', r, g1⟩ := app_ints (xs := []) pc ho ((HP.out.below HB.out).below (hbW.mono HB.out.size)) (by simp only [List.length_nil]; have := HPC.out.1; omega) hbW.size 42
        have g2 := g1.below ho hbW hbW.size
        have g3 := g1.1
        rw [List.nil_append, List.length_map, HPC.out.1] at g3
        obtain ⟨A, c, rfl, _⟩ := owned_cel g3
        exact ⟨A, c, w', r, g3, g1.2.1, g2⟩)
      have AP11 : Hid (∀ (W : World) (A8 : Option Addr) (c8 g : Nat), W.ownsRow wr.heap.size 3 1 (.slice A8 pl c8) pl (ints p) → Cel W (g + 1) (some ⟨g, 0, none⟩) 1 (ints [j]) → Below wr.heap.size wr W → ∃ A11 c11 W11, (Builtin.append_ #[42, 42] 42 #[.slice A8 pl c8, .slice (some ⟨g, 0, none⟩) 1 1]).run Try.prog W = .ok (.slice A11 (pl + 1) c11) W11 ∧ Cel W11 W11.heap.size A11 (pl + 1) (ints (p ++ [j])) ∧ pl + 1 ≤ c11 ∧ c11 ≤ 9223372036854775807 ∧ Below wr.heap.size wr W11) := Lib.hid (fun W A8 c8 g ho hc hbW => by
        have ho' : W.ownsRow wr.heap.size 3 1 (.slice A8 pl c8) p.length (ints p) := by rw [HPC.out.1]; exact ho
        obtain ⟨v, w', r, g1⟩ := app_ints 1 ho' hc (by have := HPC.out.1; simp only [List.length_cons, List.length_nil]; omega) hbW.size 42
        have ho2 : W.ownsRow wr.heap.size 3 1 (.slice A8 pl c8) (ints p).length (ints p) := by rw [List.length_map]; exact ho'
        have g2 := g1.below ho2 hbW hbW.size
        have g3 := g1.1
        have e : (ints (p ++ [j])).length = pl + 1 := by rw [List.length_map, List.length_append, HPC.out.1]; rfl
        rw [e] at g3
        obtain ⟨A, c, rfl, h1, h2, h3, _⟩ := owned_cel g3
        exact ⟨A, c, w', r, h1, h2, h3, g2⟩)
      have CALL : Hid (∀ (A : Option Addr) (c : Nat) (W : World), Below wr.heap.size wr W → Cel W W.heap.size A (pl + 1) (ints (p ++ [j])) → pl + 1 ≤ c → c ≤ 9223372036854775807 → Calls Try.prog 19 #[ks[j].val, .slice A (pl + 1) c] W fun e w' => (∃ v, e = .returned v ∧ PlRow w' W.heap.size v (placesN ks[j] (p ++ [j]))) ∧ Below W.heap.size W w') := Lib.hid (fun A c W hbW hcel hc hc' =>
        IH.out ks[j] (List.getElem_mem hlt) (p ++ [j]) A (pl + 1) c W ((hkin.under (HB.out.trans (hbW.mono HB.out.size))).more (HB.out.trans (hbW.mono HB.out.size)).size) (by rw [List.length_append, HPC.out.1]; rfl) hcel hc hc' (by omega))
      generalize hM : (p :: placesL (ks.take j) p 0).length = M at *
      obtain ⟨Q, hQ⟩ : ∃ Q, placesN ks[j] (p ++ [j]) = Q := ⟨_, rfl⟩
      obtain ⟨kd, hkd⟩ : ∃ kd, ks[j] = kd := ⟨_, rfl⟩
      rw [hQ] at CALL FIN HNX
      replace c0 : _ = some (Value.string ks[j].name) := c0
      replace c1' : _ = some ks[j].pv := c1'
      replace c2 : _ = some ks[j].kv := c2
      rw [hkd] at CALL c0 c1' c2
      clear hQ hkd hkin hheft hz' hb hrow hown hM
      obtain ⟨kn, kpa, kpc, kps, kka, kkc, kks⟩ := kd
      replace c0 : _ = some (Value.string kn) := c0
      replace c1' : _ = some (Value.slice kpa kps.length kpc) := c1'
      replace c2 : _ = some (Value.slice kka kks.length kkc) := c2
      replace CALL : Hid (∀ (A : Option Addr) (c : Nat) (W : World), Below wr.heap.size wr W → Cel W W.heap.size A (pl + 1) (ints (p ++ [j])) → pl + 1 ≤ c → c ≤ 9223372036854775807 → Calls Try.prog 19 #[.agg #[.string kn, .slice kpa kps.length kpc, .slice kka kks.length kkc], .slice A (pl + 1) c] W fun e w' => (∃ v, e = .returned v ∧ PlRow w' W.heap.size v Q) ∧ Below W.heap.size W w') := CALL
      generalize kps.length = kpl at *
      generalize kks.length = kkl at *
      have HS2 : Hid (∀ W, Below (w.heap.size + 1) wr W → (W.cell? ⟨w.heap.size, 2, none⟩ = some (Value.slice (some ⟨b, o, none⟩) ks.length kc) ∧ W.cell? ⟨b, o + j * 3, none⟩ = some (Value.string kn) ∧ W.cell? ⟨b, o + j * 3 + 1, none⟩ = some (Value.slice kpa kpl kpc) ∧ W.cell? ⟨b, o + j * 3 + 2, none⟩ = some (Value.slice kka kkl kkc))) := Lib.hid (fun W hW => by
        exact ⟨(hW.cell (p := ⟨w.heap.size, 2, none⟩) (Nat.lt_succ_self _)).trans (BX.out _ HBX.out), (hW.cell (p := ⟨b, o + j * 3, none⟩) (Nat.lt_succ_of_lt hbk)).trans c0, (hW.cell (p := ⟨b, o + j * 3 + 1, none⟩) (Nat.lt_succ_of_lt hbk)).trans c1', (hW.cell (p := ⟨b, o + j * 3 + 2, none⟩) (Nat.lt_succ_of_lt hbk)).trans c2⟩)
      have HS : Hid (∀ W, Below wr.heap.size wr W → (W.cell? ⟨w.heap.size, 2, none⟩ = some (Value.slice (some ⟨b, o, none⟩) ks.length kc) ∧ W.cell? ⟨b, o + j * 3, none⟩ = some (Value.string kn) ∧ W.cell? ⟨b, o + j * 3 + 1, none⟩ = some (Value.slice kpa kpl kpc) ∧ W.cell? ⟨b, o + j * 3 + 2, none⟩ = some (Value.slice kka kkl kkc))) := Lib.hid (fun W hW => by
        have ko : ∀ {a : Addr} {v : Value}, wr.cell? a = some v → W.cell? a = some v := fun {a v} h => (hW.cell (p := a) (World.block_lt_of_cell? wr _ h)).trans h
        exact ⟨ko (BX.out _ HBX.out), ko c0, ko c1', ko c2⟩)
      go_wp2_with fail
      refine wp_region_held_drew (S := fun W => W.cell? ⟨w.heap.size, 2, none⟩ = some (Value.slice (some ⟨b, o, none⟩) ks.length kc) ∧ W.cell? ⟨b, o + j * 3, none⟩ = some (Value.string kn) ∧ W.cell? ⟨b, o + j * 3 + 1, none⟩ = some (Value.slice kpa kpl kpc) ∧ W.cell? ⟨b, o + j * 3 + 2, none⟩ = some (Value.slice kka kkl kkc)) (by kernel_rfl) (HS.out _ (Below.refl _ wr).drew) (fun hHeld => ?_)
      refine held_take 0 rfl (by kernel_rfl) (by kernel_rfl) (by kernel_rfl) (fun _ _ _ h => h) (by rfl) hHeld (v := ?_) (fun w hSw => ?_) (fun _ => ?_)
      rotate_left
      · ((try dsimp only at hSw); go_simp; (try with_reducible rfl))
      simp only [Act.put, List.setIfInBounds_toArray, List.set_cons_zero, List.set_cons_succ]
      refine held_take 1 rfl (by kernel_rfl) (by kernel_rfl) (by kernel_rfl) (fun _ _ _ h => h) (by rfl) hHeld (v := ?_) (fun w hSw => ?_) (fun _ => ?_)
      rotate_left
      · ((try dsimp only at hSw); go_simp; (try with_reducible rfl))
      simp only [Act.put, List.setIfInBounds_toArray, List.set_cons_zero, List.set_cons_succ]
      refine held_take 2 rfl (by kernel_rfl) (by kernel_rfl) (by kernel_rfl) (fun _ _ _ h => h) (by rfl) hHeld (v := ?_) (fun w hSw => ?_) (fun _ => ?_)
      rotate_left
      · ((try dsimp only at hSw); go_simp; (try with_reducible rfl))
      simp only [Act.put, List.setIfInBounds_toArray, List.set_cons_zero, List.set_cons_succ]
      refine held_take 3 rfl (by kernel_rfl) (by kernel_rfl) (by kernel_rfl) (fun _ _ _ h => h) (by rfl) hHeld (v := ?_) (fun w hSw => ?_) (fun _ => ?_)
      rotate_left
      · ((try dsimp only at hSw); go_simp; (try with_reducible rfl))
      simp only [Act.put, List.setIfInBounds_toArray, List.set_cons_zero, List.set_cons_succ]
      refine held_take 4 rfl (by kernel_rfl) (by kernel_rfl) (by kernel_rfl) (fun _ _ _ h => h) (by rfl) hHeld (v := ?_) (fun w hSw => ?_) (fun _ => ?_)
      rotate_left
      · ((try dsimp only at hSw); go_simp; (try with_reducible rfl))
      simp only [Act.put, List.setIfInBounds_toArray, List.set_cons_zero, List.set_cons_succ]
      refine held_take 5 rfl (by kernel_rfl) (by kernel_rfl) (by kernel_rfl) (fun _ _ _ h => h) (by rfl) hHeld (v := ?_) (fun w hSw => ?_) (fun _ => ?_)
      rotate_left
      · ((try dsimp only at hSw); go_simp; (try with_reducible rfl))
      simp only [Act.put, List.setIfInBounds_toArray, List.set_cons_zero, List.set_cons_succ]
      refine held_take 7 rfl (by kernel_rfl) (by kernel_rfl) (by kernel_rfl) (fun _ _ _ h => h) (by rfl) hHeld (v := ?_) (fun w hSw => ?_) (fun _ => ?_)
      rotate_left
      · ((try dsimp only at hSw); go_simp; (try with_reducible rfl))
      simp only [Act.put, List.setIfInBounds_toArray, List.set_cons_zero, List.set_cons_succ]
      refine held_take 9 rfl (by kernel_rfl) (by kernel_rfl) (by kernel_rfl) (fun _ _ _ h => h) (by rfl) hHeld (v := ?_) (fun w hSw => ?_) (fun _ => ?_)
      rotate_left
      · ((try dsimp only at hSw); go_simp; (try with_reducible rfl))
      simp only [Act.put, List.setIfInBounds_toArray, List.set_cons_zero, List.set_cons_succ]
      refine held_two 6 10 (by kernel_rfl) rfl rfl (by rfl) (by rfl) (fun K hK => ?_) (fun K hK => ?_)
      · go_simp
        refine hK.out _ _ (HS.out _ ((Below.refl _ wr).drew.alloc (Nat.le_refl _) (.cells #[] 3))) (fun hHeld => ?_)
        clear hK K
        refine held_two 8 10 (by kernel_rfl) rfl rfl (by rfl) (by rfl) (fun K hK => ?_) (fun K hK => ?_)
        · obtain ⟨A8, c8, w8, r8, o8, _, b8⟩ := AP8.out (wr.drew.alloc (.cells #[] 3)) wr.heap.size (own_new wr.drew _ (Nat.le_refl _)) ((Below.refl _ wr).drew.alloc (Nat.le_refl _) (.cells #[] 3))
          obtain ⟨A11, c11, W11, r11, s11, l11, m11, b11⟩ := AP11.out (w8.alloc (.cells #[Value.int .i64 (j : Int)] 3)) A8 c8 w8.heap.size (o8.alloc _) (one_new w8 j) (b8.alloc b8.size (.cells #[Value.int .i64 (j : Int)] 3))
          refine wp_app (.tmp 23) (.tmp 24) rfl _ _ rfl rfl r8 ?_
          simp only [Act.put, List.setIfInBounds_toArray, List.set_cons_zero, List.set_cons_succ]
          refine hK.out _ _ (HS.out _ b8) (fun hHeld => ?_)
          clear hK K
          refine held_call 10 (by kernel_rfl) rfl (by rfl) (fun K hK => ?_)
          go_simp
          refine hK.out _ _ (HS.out _ (b8.alloc b8.size (.cells #[Value.int .i64 (j : Int)] 3))) (fun hHeld => ?_)
          clear hK K
          refine held_call 11 (by kernel_rfl) rfl (by rfl) (fun K hK => ?_)
          refine wp_app (.tmp 25) (.tmp 27) rfl _ _ rfl rfl r11 ?_
          simp only [Act.put, List.setIfInBounds_toArray, List.set_cons_zero, List.set_cons_succ]
          refine hK.out _ _ (HS.out _ b11) (fun hHeld => ?_)
          clear hK K
          refine held_call 12 (by kernel_rfl) rfl (by rfl) (fun K hK => ?_)
          go_simp
          refine (CALL.out A11 c11 W11 b11 s11 l11 m11).mono ?_
          rintro e w12 ⟨⟨v12, rfl, hr12⟩, hb12⟩
          have b12 := b11.trans (hb12.mono b11.size)
          obtain ⟨A12, n12, c12, A13, n13, c13, w13, e12, r13, hr13, b13⟩ := FIN.out v12 w12 W11.heap.size b11.size hb12.size hr12 b12
          subst e12
          dsimp only
          refine hK.out _ _ (HS.out _ b12) (fun hHeld => ?_)
          clear hK K
          refine held_call 13 (by kernel_rfl) rfl (by rfl) (fun K hK => ?_)
          refine wp_app (.tmp 17) (.tmp 29) rfl _ _ rfl rfl r13 ?_
          simp only [Act.put, List.setIfInBounds_toArray, List.set_cons_zero, List.set_cons_succ]
          refine hK.out _ _ (HS2.out _ b13) (fun hHeld => ?_)
          clear hK K
          refine held_take 14 rfl (by kernel_rfl) (by kernel_rfl) (by kernel_rfl) (fun _ _ _ h => h) (by rfl) hHeld (v := ?_) (fun w hSw => ?_) (fun _ => ?_)
          rotate_left
          · ((try dsimp only at hSw); go_simp; (try with_reducible rfl))
          simp only [Act.put, List.setIfInBounds_toArray, List.set_cons_zero, List.set_cons_succ]
          refine wpAnyH_done (by kernel_rfl) ?_ _
          have HR13 := Lib.hid hr13
          have HB13 := Lib.hid b13
          clear hHeld r13 hr13 hr12 hb12 b12 b11 s11 l11 m11 b13
          go_wp2
          go_roundw
          case rel => exact ⟨j + 1, by omega, by go_num, HBX.out.trans HB13.out, by rw [HNX.out]; exact HR13.out⟩
          case measure => simp [intOf]; omega
        · go_simp
          refine hK.out _ _ (HS.out _ (((Below.refl _ wr).drew.alloc (Nat.le_refl _) (.cells #[] 3)).alloc (by simp) (.cells #[Value.int .i64 (j : Int)] 3))) (fun hHeld => ?_)
          clear hK K
          have o6 := (own_new wr.drew wr.heap.size (Nat.le_refl _)).alloc (.cells #[Value.int .i64 (j : Int)] 3)
          obtain ⟨A8, c8, w8, r8, o8, g8, b8⟩ := AP8.out ((wr.drew.alloc (.cells #[] 3)).alloc (.cells #[Value.int .i64 (j : Int)] 3)) wr.heap.size o6 (((Below.refl _ wr).drew.alloc (Nat.le_refl _) (.cells #[] 3)).alloc (by simp) (.cells #[Value.int .i64 (j : Int)] 3))
          obtain ⟨A11, c11, W11, r11, s11, l11, m11, b11⟩ := AP11.out w8 A8 c8 (wr.drew.alloc (.cells #[] 3)).heap.size o8 (one_kept (one_new (wr.drew.alloc (.cells #[] 3)) j) g8 (by constructor <;> simp <;> omega)) b8
          have esz : (wr.drew.alloc (.cells #[] 3)).heap.size = wr.heap.size + 1 := by simp
          rw [esz] at r11
          refine held_call 8 (by kernel_rfl) rfl (by rfl) (fun K hK => ?_)
          refine wp_app (.tmp 23) (.tmp 24) rfl _ _ rfl rfl r8 ?_
          simp only [Act.put, List.setIfInBounds_toArray, List.set_cons_zero, List.set_cons_succ]
          refine hK.out _ _ (HS.out _ b8) (fun hHeld => ?_)
          clear hK K
          refine held_call 11 (by kernel_rfl) rfl (by rfl) (fun K hK => ?_)
          refine wp_app (.tmp 25) (.tmp 27) rfl _ _ rfl rfl r11 ?_
          simp only [Act.put, List.setIfInBounds_toArray, List.set_cons_zero, List.set_cons_succ]
          refine hK.out _ _ (HS.out _ b11) (fun hHeld => ?_)
          clear hK K
          refine held_call 12 (by kernel_rfl) rfl (by rfl) (fun K hK => ?_)
          go_simp
          refine (CALL.out A11 c11 W11 b11 s11 l11 m11).mono ?_
          rintro e w12 ⟨⟨v12, rfl, hr12⟩, hb12⟩
          have b12 := b11.trans (hb12.mono b11.size)
          obtain ⟨A12, n12, c12, A13, n13, c13, w13, e12, r13, hr13, b13⟩ := FIN.out v12 w12 W11.heap.size b11.size hb12.size hr12 b12
          subst e12
          dsimp only
          refine hK.out _ _ (HS.out _ b12) (fun hHeld => ?_)
          clear hK K
          refine held_call 13 (by kernel_rfl) rfl (by rfl) (fun K hK => ?_)
          refine wp_app (.tmp 17) (.tmp 29) rfl _ _ rfl rfl r13 ?_
          simp only [Act.put, List.setIfInBounds_toArray, List.set_cons_zero, List.set_cons_succ]
          refine hK.out _ _ (HS2.out _ b13) (fun hHeld => ?_)
          clear hK K
          refine held_take 14 rfl (by kernel_rfl) (by kernel_rfl) (by kernel_rfl) (fun _ _ _ h => h) (by rfl) hHeld (v := ?_) (fun w hSw => ?_) (fun _ => ?_)
          rotate_left
          · ((try dsimp only at hSw); go_simp; (try with_reducible rfl))
          simp only [Act.put, List.setIfInBounds_toArray, List.set_cons_zero, List.set_cons_succ]
          refine wpAnyH_done (by kernel_rfl) ?_ _
          have HR13 := Lib.hid hr13
          have HB13 := Lib.hid b13
          clear hHeld r13 hr13 hr12 hb12 b12 b11 s11 l11 m11 b13
          go_wp2
          go_roundw
          case rel => exact ⟨j + 1, by omega, by go_num, HBX.out.trans HB13.out, by rw [HNX.out]; exact HR13.out⟩
          case measure => simp [intOf]; omega
      · go_simp
        refine hK.out _ _ (HS.out _ ((Below.refl _ wr).drew.alloc (Nat.le_refl _) (.cells #[Value.int .i64 (j : Int)] 3))) (fun hHeld => ?_)
        clear hK K
        refine held_call 6 (by kernel_rfl) rfl (by rfl) (fun K hK => ?_)
        go_simp
        refine hK.out _ _ (HS.out _ (((Below.refl _ wr).drew.alloc (Nat.le_refl _) (.cells #[Value.int .i64 (j : Int)] 3)).alloc (by simp) (.cells #[] 3))) (fun hHeld => ?_)
        clear hK K
        have o6 := own_new (wr.drew.alloc (.cells #[Value.int .i64 (j : Int)] 3)) wr.heap.size (by simp)
        obtain ⟨A8, c8, w8, r8, o8, g8, b8⟩ := AP8.out ((wr.drew.alloc (.cells #[Value.int .i64 (j : Int)] 3)).alloc (.cells #[] 3)) (wr.drew.alloc (.cells #[Value.int .i64 (j : Int)] 3)).heap.size o6 (((Below.refl _ wr).drew.alloc (Nat.le_refl _) (.cells #[Value.int .i64 (j : Int)] 3)).alloc (by simp) (.cells #[] 3))
        obtain ⟨A11, c11, W11, r11, s11, l11, m11, b11⟩ := AP11.out w8 A8 c8 wr.heap.size o8 (one_kept ((one_new wr.drew j).below' (.cells #[] 3)) g8 (by constructor <;> simp <;> omega)) b8
        have esz : (wr.drew.alloc (.cells #[Value.int .i64 (j : Int)] 3)).heap.size = wr.heap.size + 1 := by simp
        rw [esz] at r8
        refine held_call 8 (by kernel_rfl) rfl (by rfl) (fun K hK => ?_)
        refine wp_app (.tmp 23) (.tmp 24) rfl _ _ rfl rfl r8 ?_
        simp only [Act.put, List.setIfInBounds_toArray, List.set_cons_zero, List.set_cons_succ]
        refine hK.out _ _ (HS.out _ b8) (fun hHeld => ?_)
        clear hK K
        refine held_call 11 (by kernel_rfl) rfl (by rfl) (fun K hK => ?_)
        refine wp_app (.tmp 25) (.tmp 27) rfl _ _ rfl rfl r11 ?_
        simp only [Act.put, List.setIfInBounds_toArray, List.set_cons_zero, List.set_cons_succ]
        refine hK.out _ _ (HS.out _ b11) (fun hHeld => ?_)
        clear hK K
        refine held_call 12 (by kernel_rfl) rfl (by rfl) (fun K hK => ?_)
        go_simp
        refine (CALL.out A11 c11 W11 b11 s11 l11 m11).mono ?_
        rintro e w12 ⟨⟨v12, rfl, hr12⟩, hb12⟩
        have b12 := b11.trans (hb12.mono b11.size)
        obtain ⟨A12, n12, c12, A13, n13, c13, w13, e12, r13, hr13, b13⟩ := FIN.out v12 w12 W11.heap.size b11.size hb12.size hr12 b12
        subst e12
        dsimp only
        refine hK.out _ _ (HS.out _ b12) (fun hHeld => ?_)
        clear hK K
        refine held_call 13 (by kernel_rfl) rfl (by rfl) (fun K hK => ?_)
        refine wp_app (.tmp 17) (.tmp 29) rfl _ _ rfl rfl r13 ?_
        simp only [Act.put, List.setIfInBounds_toArray, List.set_cons_zero, List.set_cons_succ]
        refine hK.out _ _ (HS2.out _ b13) (fun hHeld => ?_)
        clear hK K
        refine held_take 14 rfl (by kernel_rfl) (by kernel_rfl) (by kernel_rfl) (fun _ _ _ h => h) (by rfl) hHeld (v := ?_) (fun w hSw => ?_) (fun _ => ?_)
        rotate_left
        · ((try dsimp only at hSw); go_simp; (try with_reducible rfl))
        simp only [Act.put, List.setIfInBounds_toArray, List.set_cons_zero, List.set_cons_succ]
        refine wpAnyH_done (by kernel_rfl) ?_ _
        have HR13 := Lib.hid hr13
        have HB13 := Lib.hid b13
        clear hHeld r13 hr13 hr12 hb12 b12 b11 s11 l11 m11 b13
        go_wp2
        go_roundw
        case rel => exact ⟨j + 1, by omega, by go_num, HBX.out.trans HB13.out, by rw [HNX.out]; exact HR13.out⟩
        case measure => simp [intOf]; omega
    · obtain rfl : j = ks.length := by omega
      have HE : Hid (p :: placesL ks p 0 = placesN (Nd.mk nm pa pc' ps ka kc ks) p) := Lib.hid HPN.out.symm
      rw [List.take_length] at hrow
      have HR2 := Lib.hid (hrow.low (Nat.le_succ _))
      clear hb hrow
      go_wp2
      go_ret
      exact ⟨⟨_, rfl, by rw [← HE.out]; exact HR2.out⟩, HB.out⟩
end Go.Proofs.Ytijhjlpkbnajpaa

/-! Layer 3: whether one name is there twice, by a map of the names that were seen. -/
namespace Go.Proofs.Ytijhjlpkbnajpaa
open Go.RowKit Go.Maps Go.WideMaps
set_option linter.unusedVariables false
set_option linter.unusedSimpArgs false

/-- One name is there twice. -/
def twiceB (l : List ByteArray) : Bool := !decide l.Nodup

/-- The key that a name is, and the set of the first k names. -/
def keyL (s : ByteArray) : Lit := .string s.data.toList
def Sn (l : List ByteArray) (k : Nat) : DataW Unit := setOf (.agg []) ((l.take k).map keyL)

theorem Sn_zero (l : List ByteArray) : Sn l 0 = .map [] := by simp [Sn, setOf]
theorem Sn_succ (l : List ByteArray) (k : Nat) (hk : k < l.length) : Sn l (k + 1) = (Sn l k).put (keyL l[k]) (.agg []) := by
  unfold Sn
  rw [List.take_add_one, List.getElem?_eq_getElem hk, List.map_append, ← setOf_snoc]
  rfl
theorem has_Sn (l : List ByteArray) (k : Nat) (s : ByteArray) : Maps.has (Sn l k) (keyL s) = true ↔ s ∈ l.take k := by
  unfold Sn
  rw [has_setOf _ _ _ (fun y hy => by obtain ⟨_, _, rfl⟩ := List.mem_map.1 hy; trivial), List.any_map, List.any_eq_true]
  constructor
  · rintro ⟨x, hx, h⟩
    have e : x.data.toList = s.data.toList := by
      have h' : (keyL x).sameKey (keyL s) = true := h
      by_cases e : keyL x = keyL s
      · exact (Lit.string.inj e)
      · rw [sameKey_ne e] at h'; cases h'
    rw [← WideShapes.bytes_inj e]
    exact hx
  · intro h
    refine ⟨s, h, ?_⟩
    show (keyL s).sameKey (keyL s) = true
    simp [keyL, Lit.sameKey]
theorem has_no {l : List ByteArray} {k : Nat} {s : ByteArray} (h : s ∉ l.take k) : Maps.has (Sn l k) (keyL s) = false := by
  rcases e : Maps.has (Sn l k) (keyL s) with _ | _
  · rfl
  · exact absurd ((has_Sn l k s).1 e) h

theorem nodup_zero (l : List ByteArray) : (l.take 0).Nodup := by simp
theorem nodup_succ {l : List ByteArray} {k : Nat} (h : (l.take k).Nodup) (hk : k < l.length) (hn : l[k] ∉ l.take k) : (l.take (k + 1)).Nodup := by
  rw [List.take_add_one, List.getElem?_eq_getElem hk]
  rw [List.nodup_append]
  refine ⟨h, by simp, ?_⟩
  intro a ha b hb hab
  simp at hb
  subst hb hab
  exact hn ha
theorem twice_hit {l : List ByteArray} {k : Nat} (hk : k < l.length) (hn : l[k] ∈ l.take k) : twiceB l = true := by
  have : ¬ l.Nodup := fun h => by
    have h1 : (l.take k ++ l.drop k).Nodup := by rw [List.take_append_drop]; exact h
    rw [List.nodup_append] at h1
    exact h1.2.2 _ hn l[k] (by rw [List.drop_eq_getElem_cons hk]; exact List.mem_cons_self ..) rfl
  simp [twiceB, this]
theorem twice_all {l : List ByteArray} {k : Nat} (h : (l.take k).Nodup) (hk : ¬ k < l.length) : twiceB l = false := by
  rw [List.take_of_length_le (by omega)] at h
  simp [twiceB, h]

theorem ownsMap_below {w w' : World} {B b n : Nat} {k : TypeId} {R : Value → Option (DataW Unit × List MemPlace)} {D : DataW Unit} (h : w.ownsMap Try.prog k R b n D) (hb : Below B w w') (hlt : b < B) : w'.ownsMap Try.prog k R b n D := by
  obtain ⟨es, clock, h1, h2⟩ := h
  exact ⟨es, clock, (hb.block b hlt).trans h1, h2⟩

theorem lawS : Keyed Try.prog 9 := string_keyed Try.underlying9
theorem zeroS (w : World) : (zeroValue 71).run Try.prog w = .ok (.agg #[]) w := by kernel_rfl
theorem key_ok {s : ByteArray} (hs : s.size ≤ 140737488351232) : keyOf Try.prog 9 (.string s) = some (keyL s) := keyOf_string_mk Try.underlying9 (by unfold maxLen; omega)

end Go.Proofs.Ytijhjlpkbnajpaa

/-! Names, byte by byte: letters, digits, marks; the program's and the document's tests. -/
namespace Go.Proofs.Ytijhjlpkbnajpaa
open Go.RowKit
set_option linter.unusedVariables false
set_option linter.unusedSimpArgs false

def letB (c : Int) : Bool := decide ((97 ≤ c ∧ c ≤ 122) ∨ (65 ≤ c ∧ c ≤ 90))
def digB (c : Int) : Bool := decide (48 ≤ c ∧ c ≤ 57)
def markB (c : Int) : Bool := decide (c = 44 ∨ c = 46 ∨ c = 95 ∨ c = 43 ∨ c = 45)
def stB (c : Int) : Bool := letB c || digB c || markB c

end Go.Proofs.Ytijhjlpkbnajpaa

/-! name.isMadeOf: a text of 1 to 31 bytes, each of which may stand. -/
namespace Go.Proofs.Ytijhjlpkbnajpaa
open Go.RowKit
set_option linter.unusedVariables false
set_option linter.unusedSimpArgs false

def okM (marks : List UInt8) (c : UInt8) : Bool := letB c.toNat || digB c.toNat || decide (0 ≤ Lib.indexByte marks c)
/-- Made of letters, digits and the marks. -/
def madeB (marks l : List UInt8) : Bool := decide (1 ≤ l.length) && decide (l.length ≤ 31) && l.all (okM marks)

theorem size_len (s : ByteArray) : s.data.toList.length = s.size := rfl
theorem byte_le (c : UInt8) : 0 ≤ (c.toNat : Int) ∧ (c.toNat : Int) ≤ 255 := by have := c.toNat_lt; omega
theorem byte_back (c : UInt8) : ((c.toNat : Int).toNat).toUInt8 = c := by simp
theorem at_mem (s : ByteArray) (k : Nat) (h : k < s.size) : s[k] ∈ s.data.toList := by
  have : s[k] = s.data[k]'(by simpa using h) := rfl
  rw [this]; simp
theorem all_at (s : ByteArray) (p : UInt8 → Bool) (h : ∀ k (hk : k < s.size), p s[k] = true) : s.data.toList.all p = true := by
  rw [List.all_eq_true]
  intro x hx
  obtain ⟨k, hk, rfl⟩ := List.getElem_of_mem hx
  exact h k hk
theorem not_all (s : ByteArray) (p : UInt8 → Bool) (k : Nat) (hk : k < s.size) (h : p s[k] = false) : s.data.toList.all p = false := by
  rw [Bool.eq_false_iff]
  intro e
  rw [List.all_eq_true] at e
  have := e _ (at_mem s k hk)
  rw [h] at this; cases this

end Go.Proofs.Ytijhjlpkbnajpaa

/-! A text parted at the first @: the program's, the library's and the document's functions. -/
namespace Go.Proofs.Ytijhjlpkbnajpaa
open Go.RowKit
set_option linter.unusedVariables false
set_option linter.unusedSimpArgs false

/-- The first @ is at i. -/
def CutAt (s : ByteArray) (i : Nat) : Prop := i < s.size ∧ Lib.indexByte s.data.toList 64 = (i : Int)
/-- There is none. -/
def NoCut (s : ByteArray) : Prop := Lib.indexByte s.data.toList 64 = -1

theorem index_size (l : List UInt8) (c : UInt8) (i : Nat) (h : Lib.indexByte l c = i) : i < l.length := by
  have h1 := (Lib.indexByte_some h).1
  rcases Nat.lt_or_ge i l.length with h | h
  · exact h
  · rw [List.getElem?_eq_none h] at h1; cases h1
theorem cut_or_not (s : ByteArray) : NoCut s ∨ ∃ i, CutAt s i := by
  have hge := Lib.indexByte_ge s.data.toList 64
  by_cases hn : Lib.indexByte s.data.toList 64 = -1
  · exact .inl hn
  · refine .inr ⟨(Lib.indexByte s.data.toList 64).toNat, ?_, by omega⟩
    exact index_size s.data.toList 64 _ (by omega)
theorem elem_at (s : ByteArray) (k : Nat) (hk : k < s.size) : s.data.toList[k]? = some s[k] := by
  rw [List.getElem?_eq_getElem (show k < s.data.toList.length from hk)]; rfl
theorem NoCut.ne {s : ByteArray} (h : NoCut s) (k : Nat) (hk : k < s.size) : s[k] ≠ 64 := fun e => Lib.indexByte_none h k (by rw [elem_at s k hk, e])
theorem CutAt.at_ {s : ByteArray} {i : Nat} (h : CutAt s i) : s[i]'h.1 = 64 := by
  have h1 := (Lib.indexByte_some h.2).1
  rw [elem_at s i h.1] at h1
  exact Option.some.inj h1
theorem CutAt.ne {s : ByteArray} {i : Nat} (h : CutAt s i) (k : Nat) (hk : k < i) : s[k]'(Nat.lt_trans hk h.1) ≠ 64 := fun e =>
  (Lib.indexByte_some h.2).2 k hk (by rw [elem_at s k (Nat.lt_trans hk h.1), e])
theorem byte_ne (c d : UInt8) (h : c ≠ d) : ((c.toNat : Int) == (d.toNat : Int)) = false := by
  rw [beq_eq_false_iff_ne]; intro e; exact h (UInt8.toNat.inj (by omega))

end Go.Proofs.Ytijhjlpkbnajpaa

/-! name.Node and name.Prop: what the program answers, as a test on the bytes. -/
namespace Go.Proofs.Ytijhjlpkbnajpaa
open Go.RowKit
set_option linter.unusedVariables false
set_option linter.unusedSimpArgs false

def nodeMarks : List UInt8 := [44, 46, 95, 43, 45]
def propMarks : List UInt8 := [44, 46, 95, 43, 45, 63, 35]
def firstB (l : List UInt8) : Bool := letB (l.getD 0 0).toNat || decide ((l.getD 0 0).toNat = 95)
def baseB (l : List UInt8) : Bool := madeB nodeMarks l && firstB l

theorem first_at (s : ByteArray) (h : 0 < s.size) : s.data.toList.getD 0 0 = s[0] := by
  rw [List.getD, elem_at s 0 h]; rfl
theorem made_pos {m l : List UInt8} (h : madeB m l = true) : 0 < l.length := by
  unfold madeB at h
  rw [Bool.and_eq_true, Bool.and_eq_true, decide_eq_true_eq] at h
  omega

end Go.Proofs.Ytijhjlpkbnajpaa

/-! The document's functions of names: the same tests on the bytes. -/
namespace Go.Proofs.Ytijhjlpkbnajpaa
open Go.RowKit
set_option linter.unusedVariables false
set_option linter.unusedSimpArgs false

set_option maxRecDepth 100000 in
theorem node_marks : ∀ n : Fin 256, okM nodeMarks (UInt8.ofNat n.val) = stB n.val := by decide
theorem node_ok (c : UInt8) : okM nodeMarks c = stB c.toNat := by
  have h := node_marks ⟨c.toNat, c.toNat_lt⟩
  simpa using h
def stP (c : Int) : Bool := stB c || decide (c = 63) || decide (c = 35)
set_option maxRecDepth 100000 in
theorem prop_marks : ∀ n : Fin 256, okM propMarks (UInt8.ofNat n.val) = stP n.val := by decide
theorem prop_ok (c : UInt8) : okM propMarks c = stP c.toNat := by
  have h := prop_marks ⟨c.toNat, c.toNat_lt⟩
  simpa using h

/-- All bytes but the one at i may stand. -/
def AllBut (s : ByteArray) (i : Int) (k : Nat) : Prop := ∀ j (hj : j < s.size), j < k → (j : Int) ≠ i → stB s[j].toNat = true

theorem AllBut.zero (s : ByteArray) (i : Int) : AllBut s i 0 := fun _ _ h => absurd h (by omega)
theorem AllBut.succ {s : ByteArray} {i : Int} {k : Nat} (h : AllBut s i k) (hk : k < s.size) (h1 : (k : Int) ≠ i → stB s[k].toNat = true) : AllBut s i (k + 1) := fun j hj hjk hne => by
  by_cases e : j = k
  · subst e; exact h1 hne
  · exact h j hj (by omega) hne

theorem made_true (s : ByteArray) (h1 : 1 ≤ s.size) (h2 : s.size ≤ 31) (h : ∀ j (hj : j < s.size), stB s[j].toNat = true) : madeB nodeMarks s.data.toList = true := by
  unfold madeB
  rw [size_len, decide_eq_true h1, decide_eq_true h2, all_at s _ (fun j hj => by rw [node_ok]; exact h j hj)]; rfl
theorem made_len (s : ByteArray) (h : ¬ (1 ≤ s.size ∧ s.size ≤ 31)) : madeB nodeMarks s.data.toList = false := by
  unfold madeB
  rw [size_len]
  by_cases h1 : 1 ≤ s.size
  · rw [decide_eq_false (p := s.size ≤ 31) (by omega), Bool.and_false]; rfl
  · rw [decide_eq_false h1]; rfl
theorem made_bad (s : ByteArray) (j : Nat) (hj : j < s.size) (h : stB s[j].toNat = false) : madeB nodeMarks s.data.toList = false := by
  unfold madeB
  rw [not_all s _ j hj (by rw [node_ok]; exact h), Bool.and_false]
end Go.Proofs.Ytijhjlpkbnajpaa

/-! The document's Node: the same test as the program's. -/
namespace Go.Proofs.Ytijhjlpkbnajpaa
open Go.RowKit
set_option linter.unusedVariables false
set_option linter.unusedSimpArgs false

theorem ext_size (s : ByteArray) (a b : Nat) (h : b ≤ s.size) : (s.extract a b).size = b - a := by rw [ByteArray.size_extract]; omega
theorem head_at (s : ByteArray) (i j : Nat) (h : i ≤ s.size) (hj : j < i) : (s.extract 0 i)[j]'(by rw [ext_size _ _ _ h]; omega) = s[j] := by
  rw [ByteArray.getElem_extract]; simp only [Nat.zero_add]
theorem tail_at (s : ByteArray) (i j : Nat) (hj : j < (s.extract (i + 1) s.size).size) : (s.extract (i + 1) s.size)[j] = s[i + 1 + j]'(by rw [ext_size _ _ _ (Nat.le_refl _)] at hj; omega) :=
  ByteArray.getElem_extract hj

end Go.Proofs.Ytijhjlpkbnajpaa

/-! Layer 3: the names' tests, as functions of the text alone. -/
namespace Go.Proofs.Ytijhjlpkbnajpaa
open Go.RowKit
set_option linter.unusedVariables false
set_option linter.unusedSimpArgs false

theorem draws_under (w : World) (n : Nat) : Below w.heap.size w (w.drewN n) := ⟨rfl, rfl, rfl, Nat.le_refl _, fun _ _ => rfl⟩

/-- Is the text a node's name? What both functions answer. -/
def nodeB (s : ByteArray) : Bool :=
  if Lib.indexByte s.data.toList 64 = -1 then baseB s.data.toList
  else baseB (s.extract 0 (Lib.indexByte s.data.toList 64).toNat).data.toList && madeB nodeMarks (s.extract ((Lib.indexByte s.data.toList 64).toNat + 1) s.size).data.toList
theorem nodeB_none {s : ByteArray} (h : NoCut s) : nodeB s = baseB s.data.toList := if_pos h
theorem nodeB_some {s : ByteArray} {i : Nat} (h : CutAt s i) : nodeB s = (baseB (s.extract 0 i).data.toList && madeB nodeMarks (s.extract (i + 1) s.size).data.toList) := by
  have e : (Lib.indexByte s.data.toList 64).toNat = i := by rw [h.2]; rfl
  rw [nodeB, if_neg (by rw [h.2]; omega), e]
/-- Is the text a property's name? -/
def propB (s : ByteArray) : Bool := madeB propMarks s.data.toList

end Go.Proofs.Ytijhjlpkbnajpaa

/-! Layer 3: what is asked of a node itself. -/
namespace Go.Proofs.Ytijhjlpkbnajpaa
open Go.RowKit
set_option linter.unusedVariables false
set_option linter.unusedSimpArgs false

/-- A property whose name is none. -/
def misP (p : PV) : Bool := !propB p.name
/-- May a node at that depth bear its name? -/
noncomputable def nameOk (n : Nd) (d : Int) : Bool := if d = 1 then n.name.toList.isEmpty else nodeB n.name
/-- The first error of a node itself. -/
noncomputable def aloneE (n : Nd) (d : Int) : Int :=
  if 16 < d then 6 else if nameOk n d = false then 5 else if n.props.any misP = true then 5 else if twiceB (n.props.map PV.name) = true then 9 else if twiceB (n.kids.map Nd.name) = true then 9 else 0

/-- None of the first k is bad. -/
def Good {α : Type} (f : α → Bool) (l : List α) (k : Nat) : Prop := ∀ j (hj : j < l.length), j < k → f l[j] = false
theorem Good.zero {α : Type} (f : α → Bool) (l : List α) : Good f l 0 := fun _ _ h => absurd h (Nat.not_lt_zero _)
theorem Good.succ {α : Type} {f : α → Bool} {l : List α} {k : Nat} (h : Good f l k) (hk : k < l.length) (he : f l[k] = false) : Good f l (k + 1) := fun j hj hlt => by
  rcases Nat.lt_succ_iff_lt_or_eq.1 hlt with h' | rfl
  · exact h j hj h'
  · exact he
theorem Good.all {α : Type} {f : α → Bool} {l : List α} {k : Nat} (h : Good f l k) (hk : ¬ k < l.length) : l.any f = false := by
  rw [List.any_eq_false]
  intro x hx
  obtain ⟨i, hi, rfl⟩ := List.getElem_of_mem hx
  rw [h i hi (by omega)]
  simp
theorem any_at {α : Type} {f : α → Bool} {l : List α} {k : Nat} (hk : k < l.length) (he : f l[k] = true) : l.any f = true := List.any_eq_true.2 ⟨_, List.getElem_mem hk, he⟩

end Go.Proofs.Ytijhjlpkbnajpaa

/-! Layer 3: the first error of a node, and of those below it. -/
namespace Go.Proofs.Ytijhjlpkbnajpaa
open Go.RowKit
set_option linter.unusedVariables false
set_option linter.unusedSimpArgs false

mutual
/-- The first error of a node at a depth, and of all below it. -/
noncomputable def wrongN : Nd → Int → Int
  | .mk a b c p e f ks, d => if aloneE (.mk a b c p e f ks) d = 0 then wrongL ks (d + 1) else aloneE (.mk a b c p e f ks) d
noncomputable def wrongL : List Nd → Int → Int
  | [], _ => 0
  | k :: l, d => if wrongN k d = 0 then wrongL l d else wrongN k d
end
theorem wrongN_mk (n : Nd) (d : Int) : wrongN n d = if aloneE n d = 0 then wrongL n.kids (d + 1) else aloneE n d := by
  cases n
  rw [wrongN]
  rfl
theorem wrongL_hit (d : Int) : ∀ (l : List Nd) (k : Nat) (hk : k < l.length), (∀ j (hj : j < l.length), j < k → wrongN l[j] d = 0) → wrongN l[k] d ≠ 0 → wrongL l d = wrongN l[k] d
  | x :: l, 0, hk, _, h => by
    have h' : wrongN x d ≠ 0 := h
    rw [wrongL, if_neg h']
    rfl
  | x :: l, k + 1, hk, h', h => by
    have h0 : wrongN x d = 0 := h' 0 (by simp) (by omega)
    rw [wrongL, if_pos h0, wrongL_hit d l k (by simpa using hk) (fun j hj hlt => h' (j + 1) (by simpa using hj) (by omega)) h]
    rfl
theorem wrongL_all (d : Int) : ∀ (l : List Nd), (∀ j (hj : j < l.length), wrongN l[j] d = 0) → wrongL l d = 0
  | [], _ => rfl
  | x :: l, h => by
    have h0 : wrongN x d = 0 := h 0 (by simp)
    rw [wrongL, if_pos h0, wrongL_all d l (fun j hj => h (j + 1) (by simpa using hj))]
/-- The first k have no error. -/
def Fine (l : List Nd) (d : Int) (k : Nat) : Prop := ∀ j (hj : j < l.length), j < k → wrongN l[j] d = 0
theorem Fine.zero (l : List Nd) (d : Int) : Fine l d 0 := fun _ _ h => absurd h (Nat.not_lt_zero _)
theorem Fine.succ {l : List Nd} {d : Int} {k : Nat} (h : Fine l d k) (hk : k < l.length) (he : wrongN l[k] d = 0) : Fine l d (k + 1) := fun j hj hlt => by
  rcases Nat.lt_succ_iff_lt_or_eq.1 hlt with h' | rfl
  · exact h j hj h'
  · exact he
theorem alone_deep {n : Nd} {d : Int} (h : aloneE n d = 0) : d ≤ 16 := by
  by_cases h16 : 16 < d
  · rw [aloneE, if_pos h16] at h; omega
  · omega

end Go.Proofs.Ytijhjlpkbnajpaa

/-! Layer 3: the document's first error of a node, and of those below it. -/
namespace Go.Proofs.Ytijhjlpkbnajpaa
open Go.RowKit
set_option linter.unusedVariables false
set_option linter.unusedSimpArgs false

theorem mem_take_at {α : Type} {l : List α} {k i : Nat} (hk : k < l.length) (hki : k < i) : l[k] ∈ l.take i :=
  List.mem_iff_getElem.2 ⟨k, by rw [List.length_take]; omega, by rw [List.getElem_take]⟩
theorem not_mem_missed {l : List ByteArray} {s : ByteArray} {i : Nat} (h : Missed l s i) : s ∉ l.take i := fun hm => by
  obtain ⟨k, hk, he⟩ := List.mem_iff_getElem.1 hm
  rw [List.length_take] at hk
  rw [List.getElem_take] at he
  exact h.2 k (by omega) (by omega) he

end Go.Proofs.Ytijhjlpkbnajpaa

/-! Layer 3: a tree as it lies in memory; whether there are too many. -/
namespace Go.Proofs.Ytijhjlpkbnajpaa
open Go.RowKit Go.ChangeShapes Go.WideShapes Go.Deep
set_option linter.unusedVariables false
set_option linter.unusedSimpArgs false

/-- A tree as it lies: its reserves' slice, and its root. -/
structure Tr where
  boot : Int
  ra : Option Addr
  rc : Nat
  rs : List (Int × Int)
  root : Nd

def Tr.rv (t : Tr) : Value := .slice t.ra t.rs.length t.rc
def Tr.val (t : Tr) : Value := .agg #[.int .u32 t.boot, t.rv, .string t.root.name, t.root.pv, t.root.kv]

/-- The cells of a row of reserves. -/
def RRow (w : World) (B : Nat) (a : Option Addr) (l : List (Int × Int)) : Prop :=
  0 < l.length → ∃ b o, a = some ⟨b, o, none⟩ ∧ b < B ∧ ∀ i (h : i < l.length), w.cell? ⟨b, o + i * 2, none⟩ = some (.int .u64 l[i].1) ∧ w.cell? ⟨b, o + i * 2 + 1, none⟩ = some (.int .u64 l[i].2)

structure Tr.In (w : World) (B : Nat) (t : Tr) : Prop where
  boot : 0 ≤ t.boot ∧ t.boot ≤ 4294967295
  len : t.rs.length ≤ t.rc ∧ t.rc ≤ 9223372036854775807 ∧ t.rs.length * 16 ≤ 140737488351232
  row : RRow w B t.ra t.rs
  nums : ∀ r ∈ t.rs, (0 ≤ r.1 ∧ r.1 ≤ 18446744073709551615) ∧ (0 ≤ r.2 ∧ r.2 ≤ 18446744073709551615)
  root : t.root.In w B

section
variable {w w' : World} {B B' : Nat}
theorem RRow.keep {a : Option Addr} {l : List (Int × Int)} (h : RRow w B a l) (hk : ∀ a : Addr, a.block < B → w'.cell? a = w.cell? a) : RRow w' B a l := fun h0 => by
  obtain ⟨b, o, e, hb, hc⟩ := h h0
  exact ⟨b, o, e, hb, fun i hi => ⟨(hk _ hb).trans (hc i hi).1, (hk _ hb).trans (hc i hi).2⟩⟩
theorem RRow.more {a : Option Addr} {l : List (Int × Int)} (h : RRow w B a l) (hB : B ≤ B') : RRow w B' a l := fun h0 => by
  obtain ⟨b, o, e, hb, hc⟩ := h h0
  exact ⟨b, o, e, by omega, hc⟩
theorem Tr.In.under {t : Tr} (h : t.In w B) (hb : Below B w w') : t.In w' B := ⟨h.boot, h.len, h.row.keep (fun _ hp => hb.cell hp), h.nums, h.root.under hb⟩
theorem Tr.In.more {t : Tr} (h : t.In w B) (hB : B ≤ B') : t.In w B' := ⟨h.boot, h.len, h.row.more hB, h.nums, h.root.more hB⟩
theorem Tr.In.on {t : Tr} (h : t.In w w.heap.size) (hb : Below w.heap.size w w') : t.In w' w'.heap.size := (h.under hb).more hb.size
theorem Tr.In.rcell {t : Tr} (h : t.In w B) {i : Nat} (hi : i < t.rs.length) : ∃ b o, t.ra = some ⟨b, o, none⟩ ∧ b < B ∧ w.cell? ⟨b, o + i * 2, none⟩ = some (.int .u64 t.rs[i].1) ∧ w.cell? ⟨b, o + i * 2 + 1, none⟩ = some (.int .u64 t.rs[i].2) := by
  obtain ⟨b, o, e, hb, hc⟩ := h.row (by omega)
  exact ⟨b, o, e, hb, hc i hi⟩
end

theorem Try.cellsRes : Try.prog.cellsOf 109 = 2 := by kernel_rfl
theorem Try.cellsRess : Try.prog.cellsOf 23 = 1 := by kernel_rfl
theorem Try.cellsU64 : Try.prog.cellsOf 84 = 1 := by kernel_rfl
theorem Try.cellsU32 : Try.prog.cellsOf 22 = 1 := by kernel_rfl
theorem Try.cellsTree : Try.prog.cellsOf 29 = 5 := by kernel_rfl
theorem Try.bytesRes : Try.prog.bytesOf 109 = 16 := by kernel_rfl

section
variable {H : Type} {enc : TypeId × Value → H} {w : World} {base : Nat} {spare : Nat → Bool} {held : Bool}

theorem open_res {fuel : Nat} {cs : List Value} {x : DataW H × List MemPlace} (h : DataW.trod enc Try.prog w base spare held fuel 109 cs = some x) :
    ∃ r : Int × Int, cs = [.int .u64 r.1, .int .u64 r.2] ∧ (0 ≤ r.1 ∧ r.1 ≤ 18446744073709551615) ∧ (0 ≤ r.2 ∧ r.2 ≤ 18446744073709551615) := by
  obtain ⟨y0, y1, n, rfl, hl, h0, h1⟩ := trod_struct2 Try.underlying109 h
  rw [Try.cellsRes] at hl
  obtain ⟨c0, c1, rfl⟩ : ∃ c0 c1, cs = [c0, c1] := by
    exact two_of hl
  rw [Try.cellsU64] at h0 h1
  obtain ⟨a, e0, _, w0⟩ := DataW.trod_int Try.underlying84 h0
  obtain ⟨c, e1, _, w1⟩ := DataW.trod_int Try.underlying84 h1
  simp only [List.drop_succ_cons, List.drop_zero, List.take_succ_cons, List.take_zero, List.cons.injEq, and_true] at e0 e1
  subst e0 e1
  exact ⟨(a, c), rfl, bounds_u64 w0, bounds_u64 w1⟩

/-- A tree that came in is such a tree. -/
theorem open_tr {fuel : Nat} {cs : List Value} {x : DataW H × List MemPlace} (h : DataW.trod enc Try.prog w base spare held fuel 29 cs = some x) (hw : ∀ z ∈ DataW.weights Try.prog 29 x.1, z ≤ 140737488351232) :
    ∃ t : Tr, cs = [.int .u32 t.boot, t.rv, .string t.root.name, t.root.pv, t.root.kv] ∧ t.In w w.heap.size := by
  obtain ⟨y0, y1, y2, n, rfl, hl, h0, h1, h2⟩ := trod_struct3 Try.underlying29 h
  rw [Try.cellsTree] at hl
  obtain ⟨c0, c1, c2, c3, c4, rfl⟩ : ∃ c0 c1 c2 c3 c4, cs = [c0, c1, c2, c3, c4] := by
    exact five_of hl
  rw [Try.cellsU32] at h0
  rw [Try.cellsRess] at h1
  rw [Try.cellsNode] at h2
  simp only [List.drop_zero, List.drop_succ_cons, List.take_succ_cons, List.take_zero] at h0 h1 h2
  simp only [DataW.weights, DataW.weightsEach, Try.underlying29, List.map_cons, List.map_nil] at hw
  have hw1 := fun z hz => hw z (List.mem_append_right _ (List.mem_append_left _ hz))
  have hw2 := fun z hz => hw z (List.mem_append_right _ (List.mem_append_right _ (List.mem_append_left _ hz)))
  obtain ⟨boot, e0, _, wb⟩ := DataW.trod_int Try.underlying22 h0
  obtain ⟨ra, rc, rs, e1, hr1, hr2, hr3, hrg, hrow⟩ := open_row (c := 2) (fun r : Int × Int => [.int .u64 r.1, .int .u64 r.2]) (fun r => (0 ≤ r.1 ∧ r.1 ≤ 18446744073709551615) ∧ (0 ≤ r.2 ∧ r.2 ≤ 18446744073709551615)) Try.underlying23 Try.cellsRes (by omega) (fun _ => rfl) (fun n cs y _ hy _ => open_res hy) h1 hw1
  obtain ⟨root, e2, hin⟩ := open_nd _ n _ _ (Nat.le_refl _) h2 hw2
  simp only [List.cons.injEq, and_true] at e0 e1 e2
  obtain ⟨rfl, rfl, rfl⟩ := e2
  subst e0 e1
  rw [Try.bytesRes] at hr3
  exact ⟨⟨boot, ra, rc, rs, root⟩, rfl, bounds_u32 wb, ⟨hr1, hr2, hr3⟩, fun h0 => by
    obtain ⟨b, o, e, hb, hc⟩ := hrow h0
    exact ⟨b, o, e, hb, fun i hi => ⟨hc i hi 0 (by omega), hc i hi 1 (by omega)⟩⟩, hrg, hin⟩
end

/-- A reserve of noughts. -/
def zeroR (r : Int × Int) : Bool := decide (r.1 = 0) && decide (r.2 = 0)

/-- Are there too many? -/
def manyE (t : Tr) : Int := if 4096 < wrap64 (nodesN t.root) ∨ 8192 < wrap64 (propsN t.root) ∨ 64 < t.rs.length then 7 else if t.rs.any zeroR = true then 7 else 0

end Go.Proofs.Ytijhjlpkbnajpaa

/-! Layer 3: the first error of a tree, the program's and the document's. -/
namespace Go.Proofs.Ytijhjlpkbnajpaa
open Go.RowKit
set_option linter.unusedVariables false
set_option linter.unusedSimpArgs false
attribute [local go_sem ↓] Go.wp_at_zero Go.wp_at_succ

/-- The first error of a tree. -/
noncomputable def checkE (t : Tr) : Int := if wrongN t.root 1 = 0 then manyE t else wrongN t.root 1

set_option maxHeartbeats 4000000 in
theorem few_any (t : Tr) (w : World) (hin : t.In w w.heap.size) :
    Calls Try.prog 7 #[t.val] w fun e w' => (∃ r : Bool, e = .returned (.bool r)) ∧ Below w.heap.size w w' := by
  have C1 := Lib.hid (fun w h => size_any t.root 0 w h (by omega) (by omega))
  have HI := Lib.hid hin
  clear hin
  obtain ⟨boot, ra, rc, rs, ⟨nm, pa, pc, ps, ka, kc, ks⟩⟩ := t
  show Calls _ _ #[.agg #[.int .u32 boot, .slice ra rs.length rc, .string nm, .slice pa ps.length pc, .slice ka ks.length kc]] _ _
  have HB := Lib.hid ((Below.refl w.heap.size w).alloc (Nat.le_refl _) (.cells #[.int .u32 boot, .slice ra rs.length rc, .string nm, .slice pa ps.length pc, .slice ka ks.length kc] 29))
  go_enter Try.func7, Try.ntmps7
  go_wp2_with fail
  refine (C1.out _ ((HI.out.on HB.out).root)).mono ?_
  rintro e w1 ⟨⟨z, rfl⟩, hb⟩
  have HB1 := Lib.hid (HB.out.trans (hb.mono HB.out.size))
  have b1 := (hb.cell (p := ⟨w.heap.size, 1, none⟩) (by simp)).trans (World.cell?_alloc_new _ _ _ _)
  replace b1 : _ = some (Value.slice ra rs.length rc) := b1
  clear hb
  by_cases hz : z ≤ 100000
  · go_wp2
    go_ret
    exact ⟨⟨_, rfl⟩, HB1.out⟩
  · go_wp2
    go_ret
    first | exact ⟨⟨_, rfl⟩, HB1.out⟩ | exact ⟨.inl rfl, HB1.out⟩

end Go.Proofs.Ytijhjlpkbnajpaa
