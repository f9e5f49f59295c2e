/-
  The places of a node and of all below it: the document's answer.
-/
import Derived.Test.YtmgokplpkmndoaaGreatQEqual
import Derived.Test.YtmgokplpkmndoaaGreatDNode
namespace Go.Proofs.YtmgokplpkmndoaaGreat
open Go.RowKit
set_option linter.unusedVariables false
set_option linter.unusedSimpArgs false

mutual
/-- The places of a node that stands at p, and of all below it, in order. -/
def placesN : Nd → List Nat → List (List Nat)
  | .mk _ _ _ _ _ _ ks, p => p :: placesL ks p 0
def placesL : List Nd → List Nat → Nat → List (List Nat)
  | [], _, _ => []
  | k :: r, p, i => placesN k (p ++ [i]) ++ placesL r p (i + 1)
end
theorem placesN_mk (n : Nd) (p : List Nat) : placesN n p = p :: placesL n.kids p 0 := by cases n; rw [placesN]; rfl
theorem placesL_append : ∀ (a b : List Nd) (p : List Nat) (i : Nat), placesL (a ++ b) p i = placesL a p i ++ placesL b p (i + a.length)
  | [], b, p, i => by simp [placesL]
  | x :: a, b, p, i => by
    simp only [List.cons_append, placesL, placesL_append a b, List.append_assoc, List.length_cons]
    congr 3; omega
theorem placesL_next (ks : List Nd) (p : List Nat) (j : Nat) (h : j < ks.length) : placesL (ks.take (j + 1)) p 0 = placesL (ks.take j) p 0 ++ placesN ks[j] (p ++ [j]) := by
  rw [take_next ks j h, placesL_append]
  simp [placesL, Nat.min_eq_left (Nat.le_of_lt h)]
/-- How many they are, and how long: by the node's weight. -/
theorem places_len : ∀ (n : Nd) (p : List Nat), (placesN n p).length ≤ heftN n ∧ ∀ q ∈ placesN n p, q.length ≤ p.length + heftN n := by
  refine Nd.ind ?_
  intro n ih p
  have hl : ∀ (r : List Nd) (i : Nat), (∀ k ∈ r, k ∈ n.kids) → (placesL r p i).length ≤ heftL r ∧ ∀ q ∈ placesL r p i, q.length ≤ p.length + 1 + heftL r := by
    intro r
    induction r with
    | nil => intro i _; simp [placesL]
    | cons k r ihr =>
      intro i hr
      obtain ⟨a1, a2⟩ := ih k (hr k (by simp)) (p ++ [i])
      obtain ⟨b1, b2⟩ := ihr (i + 1) (fun x hx => hr x (by simp [hx]))
      rw [placesL, heftL]
      refine ⟨by rw [List.length_append]; omega, fun q hq => ?_⟩
      rcases List.mem_append.1 hq with h | h
      · have := a2 q h; simp at this; omega
      · have := b2 q h; omega
  obtain ⟨h1, h2⟩ := hl n.kids 0 (fun _ h => h)
  have e : heftN n = 16 + n.name.size + (n.props.map heftP).sum + heftL n.kids := by cases n; rw [heftN]; rfl
  rw [placesN_mk]
  refine ⟨by simp only [List.length_cons]; omega, fun q hq => ?_⟩
  rcases List.mem_cons.1 hq with rfl | h
  · omega
  · have := h2 q h; omega

theorem wp_app {P : Program} {w w' : World} {o : Oper} {a : Act} {K : Act → World → Prop} {Q : Exit → Act → World → Prop} {t u : TypeId} (s x : Operand) (ho : o.op = .call { callee := .builtin .append, args := #[s, x], argTypes := #[t, u] })
    (y z : Value) (hs : a.eval s = y) (hx : a.eval x = z) {v : Value} (hr : (Builtin.append_ #[t, u] o.type #[y, z]).run P w = .ok v w') (hK : K (a.put o.dst v) w') : o.wp P a w K Q := by
  unfold Oper.wp execOp
  simp only [ho, resolve, invoke, builtin, Sem.run_bind, Sem.run_pure, Result.andThen_ok, List.map_toArray, List.map_cons, List.map_nil, hs, hx, hr]
  exact hK
theorem own_new (W : World) (B : Nat) (hB : B ≤ W.heap.size) : (W.alloc (.cells #[] 3)).ownsRow B 3 1 (.slice (some ⟨W.heap.size, 0, none⟩) 0 0) 0 (ints []) := World.ownsRow_made W #[] 0 hB (Nat.zero_le _) rfl
/-- A row of one number. -/
theorem one_new (W : World) (j : Nat) : Cel (W.alloc (.cells #[Value.int .i64 (j : Int)] 3)) (W.heap.size + 1) (some ⟨W.heap.size, 0, none⟩) 1 (ints [j]) :=
  ⟨rfl, fun _ => ⟨W.heap.size, 0, rfl, Nat.lt_succ_self _, fun i hi => by
    obtain rfl : i = 0 := by omega
    exact World.cell?_alloc_new _ _ _ _⟩⟩
theorem one_kept {W W' : World} {g r j : Nat} (h : Cel W (g + 1) (some ⟨g, 0, none⟩) 1 (ints [j])) (hg : W.grownBy W' (some r)) (hne : g ≠ r ∧ g < W.heap.size) : Cel W' (g + 1) (some ⟨g, 0, none⟩) 1 (ints [j]) :=
  ⟨rfl, fun _ => ⟨g, 0, rfl, Nat.lt_succ_self _, fun i hi => by
    obtain ⟨b, o, e, _, hc⟩ := h.2 (by omega)
    simp only [Option.some.injEq, Addr.mk.injEq] at e
    obtain ⟨rfl, rfl, _⟩ := e
    rw [← hc i hi]
    exact World.cell?_of_block (w := W) (hg.block _ hne.2 (fun e => hne.1 (Option.some.inj e)))⟩⟩
theorem Cel.below' {W : World} {g j : Nat} (h : Cel W (g + 1) (some ⟨g, 0, none⟩) 1 (ints [j])) (o : Obj) : Cel (W.alloc o) (g + 1) (some ⟨g, 0, none⟩) 1 (ints [j]) :=
  ⟨h.1, fun h0 => by
    obtain ⟨b, q, e, hb, hc⟩ := h.2 h0
    exact ⟨b, q, e, hb, fun i hi => by rw [← hc i hi]; exact Lib.cell?_alloc_some o ((hc i hi).trans (List.getElem?_eq_getElem (by simpa using hi))) |>.trans ((hc i hi).trans (List.getElem?_eq_getElem (by simpa using hi))).symm⟩⟩
theorem PlV.re {w : World} {lo lo' hi : Nat} {own own' : Option Nat} {v : Value} {p : List Nat} (h : PlV w lo hi own v p) (hn : ∀ b, lo ≤ b → b < hi → own ≠ some b → lo' ≤ b ∧ own' ≠ some b) : PlV w lo' hi own' v p := by
  obtain ⟨A, c, e, hc, h1, h2, h3⟩ := h
  refine ⟨A, c, e, hc, h1, h2, fun h0 b o e => ?_⟩
  obtain ⟨h4, h5⟩ := h3 h0 b o e
  obtain ⟨b', o', e', hb, _⟩ := hc.2 h0
  rw [e] at e'
  simp only [Option.some.injEq, Addr.mk.injEq] at e'
  exact hn b h4 (by omega) h5
theorem PlV.one {w : World} {lo hi : Nat} {own : Option Nat} {v : Value} {p : List Nat} (h : PlV w lo hi own v p) : v.oneCell' = true := by
  obtain ⟨A, c, rfl, _⟩ := h
  rfl
theorem two_one {w : World} {lo hi : Nat} {own : Option Nat} : ∀ {vs : List Value} {ps : List (List Nat)}, Two (PlV w lo hi own) vs ps → ∀ u ∈ vs, u.oneCell' = true
  | _, _, .nil, u, h => by cases h
  | _, _, .cons a t, u, h => by
    rcases List.mem_cons.1 h with rfl | h
    · exact a.one
    · exact two_one t u h
/-- A list of places is appended onto another one. -/
theorem app_places {w : World} {lo lo2 : Nat} {v u : Value} {ps qs : List (List Nat)} (hv : PlRow w lo v ps) (hu : PlRow w lo2 u qs) (hlo : lo ≤ lo2) (hlt : ∀ g, v.ownBlock = some g → g < lo2) (hbig : ps.length + qs.length ≤ 1073741824) (hlo2 : lo2 ≤ w.heap.size) :
    ∃ A n c A' n' c' w', u = .slice A n c ∧ (Builtin.append_ #[177, 177] 177 #[v, .slice A n c]).run Tryz.prog w = .ok (.slice A' n' c') w' ∧ PlRow w' lo (.slice A' n' c') (ps ++ qs) ∧ Below lo w w' := by
  obtain ⟨vs, hv1, hv2⟩ := hv.row
  obtain ⟨us, hu1, hu2⟩ := hu.row
  have lv := hv2.len
  have lu := hu2.len
  rw [← lv] at hv1
  obtain ⟨A, c, rfl, hcel, h1, h2, _⟩ := owned_cel hu1
  obtain ⟨i0, hi, hz, hs1, hb⟩ := info_any info_ints
  obtain ⟨v', w', r, g1, g2, g3⟩ := app_cel Tryz.underlying177 hi hz hs1 hb rfl c hv1 hcel (two_one hu2) (by omega) (by omega) (by omega) 177
  have hbl := (Below.refl lo w).grown g2 (by omega) (fun q hq => (hv1.lt q hq).1)
  obtain ⟨A', c', rfl, _, _, _, _⟩ := owned_cel g1
  have hown : ∀ b, b < w.heap.size → v.ownBlock ≠ some b → (Value.slice A' (vs ++ us).length c').ownBlock ≠ some b := fun b hb hne => by
    rcases g3 with e | e
    · rw [e]; exact hne
    · rw [e]; intro e2; have := Option.some.inj e2; omega
  have hcell : ∀ a : Addr, a.block < w.heap.size → v.ownBlock ≠ some a.block → w'.cell? a = w.cell? a := fun a ha hne => World.cell?_of_block (w := w) (g2.block _ ha (fun e => hne e.symm))
  have hre : ∀ b, lo2 ≤ b → b < w.heap.size → (Value.slice A qs.length c).ownBlock ≠ some b → lo ≤ b ∧ v.ownBlock ≠ some b := fun b hb1 _ _ => ⟨Nat.le_trans hlo hb1, fun e => Nat.lt_irrefl _ (Nat.lt_of_lt_of_le (hlt b e) hb1)⟩
  have e : (ps ++ qs).length = (vs ++ us).length := by rw [List.length_append, List.length_append, lv, lu]
  exact ⟨A, _, c, A', _, c', w', rfl, r, ⟨vs ++ us, by rw [e]; exact g1, Two.app (hv2.mono fun x p hx => hx.keep hbl.size hcell hown) (hu2.mono fun x p hx => (hx.re hre).keep hbl.size hcell hown)⟩, hbl⟩
theorem PlRow.low {w : World} {lo lo' : Nat} {v : Value} {ps : List (List Nat)} (h : PlRow w lo v ps) (hl : lo' ≤ lo) : PlRow w lo' v ps := by
  obtain ⟨vs, h1, h2⟩ := h.row
  refine ⟨vs, ⟨h1.1, ?_⟩, h2.mono fun x p hx => hx.re fun b hb _ hne => ⟨by omega, hne⟩⟩
  rcases h1.2 with h | ⟨g, cap, cur, e, hb, r⟩
  · exact .inl h
  · exact .inr ⟨g, cap, cur, e, by omega, r⟩
/-- Nothing that was there has been touched. -/
theorem PlRow.on {w w' : World} {lo : Nat} {v : Value} {ps : List (List Nat)} (h : PlRow w lo v ps) (hb : Below w.heap.size w w') : PlRow w' lo v ps := by
  obtain ⟨vs, h1, h2⟩ := h.row
  exact ⟨vs, own_on h1 hb, h2.mono fun x p hx => hx.keep hb.size (fun a ha _ => hb.cell ha) (fun _ _ h => h)⟩
theorem PlRow.lt {w : World} {lo : Nat} {v : Value} {ps : List (List Nat)} (h : PlRow w lo v ps) : ∀ g, v.ownBlock = some g → lo ≤ g ∧ g < w.heap.size := by
  obtain ⟨vs, h1, _⟩ := h.row
  exact h1.lt
/-- A list of one place. -/
theorem one_place {w : World} {lo : Nat} {A : Option Addr} {c : Nat} {p : List Nat} {pl : Nat} (hpl : p.length = pl) (h : w.ownsRow lo 3 1 (.slice A pl c) pl (ints p)) (hlo : lo ≤ w.heap.size) : PlRow (w.alloc (.cells #[.slice A pl c] 52)) lo (.slice (some ⟨w.heap.size, 0, none⟩) 1 1) [p] := by
  subst hpl
  obtain ⟨A', c', e, hc, h1, h2, h3⟩ := owned_cel h
  simp only [Value.slice.injEq, true_and] at e
  obtain ⟨rfl, rfl⟩ := e
  have hb := (Below.refl w.heap.size w).alloc (Nat.le_refl _) (.cells #[.slice A p.length c] 52)
  refine ⟨[.slice A p.length c], ⟨rfl, .inr ⟨w.heap.size, 1, _, rfl, hlo, heap_alloc_new w _, Nat.le_refl _, by unfold maxLen; omega, rfl, rfl⟩⟩, .cons ⟨A, c, rfl, hc.on hb, h1, h2, fun h0 b o e => ?_⟩ .nil⟩
  subst e
  have := h3 b rfl
  exact ⟨this.1, fun e => by simp [Value.ownBlock] at e; omega⟩
theorem placesL_len : ∀ (r : List Nd) (p : List Nat) (i : Nat), (placesL r p i).length ≤ heftL r
  | [], p, i => by simp [placesL]
  | k :: r, p, i => by
    have h1 := (places_len k (p ++ [i])).1
    have h2 := placesL_len r p (i + 1)
    rw [placesL, heftL, List.length_append]; omega

end Go.Proofs.YtmgokplpkmndoaaGreat
