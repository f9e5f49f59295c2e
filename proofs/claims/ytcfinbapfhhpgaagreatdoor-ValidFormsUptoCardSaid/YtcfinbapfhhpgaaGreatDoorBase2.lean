/-
  Base, part 2.
-/
import Derived.Test.YtcfinbapfhhpgaaGreatDoorBase1
import Derived.Maps.Own
import Derived.Maps.OwnSet
import Derived.Maps.OwnOps
import Derived.Maps.Views
import Derived.Test.YtcfinbapfhhpgaaGreatDoorChecked
import Derived.Below
import Derived.WalkKit
import Derived.WalkLawsBesides
import Derived.WalkSpells
import Derived.Lib.Hide
import Derived.Lib.IndexLaws
import Derived.IntWalk
import Derived.OpenShut
import Derived.Test.YtcfinbapfhhpgaaGreatDoorShelf
namespace Go.Proofs.YtcfinbapfhhpgaaGreatDoor
open Go.RowKit
set_option linter.unusedVariables false
set_option linter.unusedSimpArgs false
set_option maxRecDepth 20000
set_option maxHeartbeats 16000000
mutual
def qac_ : Nd -> List Nat -> List (List Nat)
 | .mk _ _ _ _ _ _ ks, p => p :: qaf_ ks p 0
def qaf_ : List Nd -> List Nat -> Nat -> List (List Nat)
 | [], _, _ => []
 | k :: r, p, i => qac_ k (p ++ [i]) ++ qaf_ r p (i + 1)
end
theorem qa5_ (n : Nd) (p : List Nat) : qac_ n p = p :: qaf_ n.kids p 0 := by cases n; rw [qac_]; rfl
theorem qc3_ : ∀ (a b : List Nd) (p : List Nat) (i : Nat), qaf_ (a ++ b) p i = qaf_ a p i ++ qaf_ b p (i + a.length)
 | [], b, p, i => by simp [qaf_]
 | x :: a, b, p, i => by
  simp only [List.cons_append, qaf_, qc3_ a b, List.append_assoc, List.length_cons]
  congr 3; omega
theorem qbz_ (ks : List Nd) (p : List Nat) (j : Nat) (h : j < ks.length) : qaf_ (ks.take (j + 1)) p 0 = qaf_ (ks.take j) p 0 ++ qac_ ks[j] (p ++ [j]) := by
 rw [qdp_ ks j h, qc3_]
 simp [qaf_, Nat.min_eq_left (Nat.le_of_lt h)]
theorem qbr_ : ∀ (n : Nd) (p : List Nat), (qac_ n p).length <= heftN n /\ ∀ q ∈ qac_ n p, q.length <= p.length + heftN n := by
 refine Nd.ind ?_
 intro n ih p
 have hl : ∀ (r : List Nd) (i : Nat), (∀ k ∈ r, k ∈ n.kids) -> (qaf_ r p i).length <= heftL r /\ ∀ q ∈ qaf_ r p i, q.length <= p.length + 1 + heftL r := by
  intro r
  induction r with
  | nil => intro i _; simp [qaf_]
  | cons k r ihr =>
   intro i hr
   obtain ⟨a1, a2⟩ := ih k (hr k (by simp)) (p ++ [i])
   obtain ⟨b1, b2⟩ := ihr (i + 1) (fun x hx => hr x (by simp [hx]))
   rw [qaf_, heftL]
   refine ⟨by rw [List.length_append]; omega, fun q hq => ?_⟩
   rcases List.mem_append.1 hq with h | h
   ·have := a2 q h; simp at this; omega
   ·have := b2 q h; omega
 obtain ⟨h1, h2⟩ := hl n.kids 0 (fun _ h => h)
 have e : heftN n = 16 + n.name.size + (n.props.map heftP).sum + heftL n.kids := by cases n; rw [heftN]; rfl
 rw [qa5_]
 refine ⟨by simp only [List.length_cons]; omega, fun q hq => ?_⟩
 rcases List.mem_cons.1 hq with rfl | h
 ·omega
 ·have := h2 q h; omega
theorem qh4_ {P : Program} {w w' : World} {o : Oper} {a : Act} {K : Act -> World -> Prop} {Q : Exit -> Act -> World -> Prop} {t u : TypeId} (s x : Operand) (ho : o.op = .call { callee := .builtin .append, args := #[s, x], argTypes := #[t, u] })
  (y z : Value) (hs : a.eval s = y) (hx : a.eval x = z) {v : Value} (hr : (Builtin.append_ #[t, u] o.type #[y, z]).run P w = .ok v w') (hK : K (a.put o.dst v) w') : o.wp P a w K Q := by
 unfold Oper.wp execOp
 simp only [ho, resolve, invoke, builtin, Sem.run_bind, Sem.run_pure, Result.andThen_ok, List.map_toArray, List.map_cons, List.map_nil, hs, hx, hr]
 exact hK
theorem qi2_ (W : World) (B : Nat) (hB : B <= W.heap.size) : (W.alloc (.cells #[] 3)).ownsRow B 3 1 (.slice (some ⟨W.heap.size, 0, none⟩) 0 0) 0 (ints []) := World.ownsRow_made W #[] 0 hB (Nat.zero_le _) rfl
theorem qie_ (W : World) (j : Nat) : Cel (W.alloc (.cells #[Value.int .i64 (j : Int)] 3)) (W.heap.size + 1) (some ⟨W.heap.size, 0, none⟩) 1 (ints [j]) :=
 ⟨rfl, fun _ => ⟨W.heap.size, 0, rfl, Nat.lt_succ_self _, fun i hi => by
  obtain rfl : i = 0 := by omega
  exact World.cell?_alloc_new _ _ _ _⟩⟩
theorem qn8_ {W W' : World} {g r j : Nat} (h : Cel W (g + 1) (some ⟨g, 0, none⟩) 1 (ints [j])) (hg : W.grownBy W' (some r)) (hne : g ≠ r /\ g < W.heap.size) : Cel W' (g + 1) (some ⟨g, 0, none⟩) 1 (ints [j]) :=
 ⟨rfl, fun _ => ⟨g, 0, rfl, Nat.lt_succ_self _, fun i hi => by
  obtain ⟨b, o, e, _, hc⟩ := h.2 (by omega)
  simp only [Option.some.injEq, Addr.mk.injEq] at e
  obtain ⟨rfl, rfl, _⟩ := e
  rw [<- hc i hi]
  exact World.cell?_of_block (w := W) (hg.block _ hne.2 (fun e => hne.1 (Option.some.inj e)))⟩⟩
theorem Cel.below' {W : World} {g j : Nat} (h : Cel W (g + 1) (some ⟨g, 0, none⟩) 1 (ints [j])) (o : Obj) : Cel (W.alloc o) (g + 1) (some ⟨g, 0, none⟩) 1 (ints [j]) :=
 ⟨h.1, fun h0 => by
  obtain ⟨b, q, e, hb, hc⟩ := h.2 h0
  exact ⟨b, q, e, hb, fun i hi => by rw [<- hc i hi]; exact Lib.cell?_alloc_some o ((hc i hi).trans (List.getElem?_eq_getElem (by simpa using hi))) |>.trans ((hc i hi).trans (List.getElem?_eq_getElem (by simpa using hi))).symm⟩⟩
theorem PlV.re {w : World} {lo lo' hi : Nat} {own own' : Option Nat} {v : Value} {p : List Nat} (h : PlV w lo hi own v p) (hn : ∀ b, lo <= b -> b < hi -> own ≠ some b -> lo' <= b /\ own' ≠ some b) : PlV w lo' hi own' v p := by
 obtain ⟨A, c, e, hc, h1, h2, h3⟩ := h
 refine ⟨A, c, e, hc, h1, h2, fun h0 b o e => ?_⟩
 obtain ⟨h4, h5⟩ := h3 h0 b o e
 obtain ⟨b', o', e', hb, _⟩ := hc.2 h0
 rw [e] at e'
 simp only [Option.some.injEq, Addr.mk.injEq] at e'
 exact hn b h4 (by omega) h5
theorem PlV.one {w : World} {lo hi : Nat} {own : Option Nat} {v : Value} {p : List Nat} (h : PlV w lo hi own v p) : v.oneCell' = true := by
 obtain ⟨A, c, rfl, _⟩ := h
 rfl
theorem two_one {w : World} {lo hi : Nat} {own : Option Nat} : ∀ {vs : List Value} {ps : List (List Nat)}, Two (PlV w lo hi own) vs ps -> ∀ u ∈ vs, u.oneCell' = true
 | _, _, .nil, u, h => by cases h
 | _, _, .cons a t, u, h => by
  rcases List.mem_cons.1 h with rfl | h
  ·exact a.one
  ·exact two_one t u h
theorem qm3_ {w : World} {lo lo2 : Nat} {v u : Value} {ps qs : List (List Nat)} (hv : PlRow w lo v ps) (hu : PlRow w lo2 u qs) (hlo : lo <= lo2) (hlt : ∀ g, v.ownBlock = some g -> g < lo2) (hbig : ps.length + qs.length <= 1073741824) (hlo2 : lo2 <= w.heap.size) :
  ∃ A n c A' n' c' w', u = .slice A n c /\ (Builtin.append_ #[52, 52] 52 #[v, .slice A n c]).run Tryz.prog w = .ok (.slice A' n' c') w' /\ PlRow w' lo (.slice A' n' c') (ps ++ qs) /\ Below lo w w' := by
 obtain ⟨vs, hv1, hv2⟩ := hv.row
 obtain ⟨us, hu1, hu2⟩ := hu.row
 have lv := hv2.len
 have lu := hu2.len
 rw [<- lv] at hv1
 obtain ⟨A, c, rfl, hcel, h1, h2, _⟩ := qai_ hu1
 obtain ⟨i0, hi, hz, hs1, hb⟩ := qaw_ info_ints
 obtain ⟨v', w', r, g1, g2, g3⟩ := qlt_ Tryz.underlying52 hi hz hs1 hb rfl c hv1 hcel (two_one hu2) (by omega) (by omega) (by omega) 52
 have hbl := (Below.refl lo w).grown g2 (by omega) (fun q hq => (hv1.lt q hq).1)
 obtain ⟨A', c', rfl, _, _, _, _⟩ := qai_ g1
 have hown : ∀ b, b < w.heap.size -> v.ownBlock ≠ some b -> (Value.slice A' (vs ++ us).length c').ownBlock ≠ some b := fun b hb hne => by
  rcases g3 with e | e
  ·rw [e]; exact hne
  ·rw [e]; intro e2; have := Option.some.inj e2; omega
 have hcell : ∀ a : Addr, a.block < w.heap.size -> v.ownBlock ≠ some a.block -> w'.cell? a = w.cell? a := fun a ha hne => World.cell?_of_block (w := w) (g2.block _ ha (fun e => hne e.symm))
 have hre : ∀ b, lo2 <= b -> b < w.heap.size -> (Value.slice A qs.length c).ownBlock ≠ some b -> lo <= b /\ v.ownBlock ≠ some b := fun b hb1 _ _ => ⟨Nat.le_trans hlo hb1, fun e => Nat.lt_irrefl _ (Nat.lt_of_lt_of_le (hlt b e) hb1)⟩
 have e : (ps ++ qs).length = (vs ++ us).length := by rw [List.length_append, List.length_append, lv, lu]
 exact ⟨A, _, c, A', _, c', w', rfl, r, ⟨vs ++ us, by rw [e]; exact g1, Two.app (hv2.mono fun x p hx => hx.keep hbl.size hcell hown) (hu2.mono fun x p hx => (hx.re hre).keep hbl.size hcell hown)⟩, hbl⟩
theorem PlRow.low {w : World} {lo lo' : Nat} {v : Value} {ps : List (List Nat)} (h : PlRow w lo v ps) (hl : lo' <= lo) : PlRow w lo' v ps := by
 obtain ⟨vs, h1, h2⟩ := h.row
 refine ⟨vs, ⟨h1.1, ?_⟩, h2.mono fun x p hx => hx.re fun b hb _ hne => ⟨by omega, hne⟩⟩
 rcases h1.2 with h | ⟨g, cap, cur, e, hb, r⟩
 ·exact .inl h
 ·exact .inr ⟨g, cap, cur, e, by omega, r⟩
theorem PlRow.on {w w' : World} {lo : Nat} {v : Value} {ps : List (List Nat)} (h : PlRow w lo v ps) (hb : Below w.heap.size w w') : PlRow w' lo v ps := by
 obtain ⟨vs, h1, h2⟩ := h.row
 exact ⟨vs, qez_ h1 hb, h2.mono fun x p hx => hx.keep hb.size (fun a ha _ => hb.cell ha) (fun _ _ h => h)⟩
theorem PlRow.lt {w : World} {lo : Nat} {v : Value} {ps : List (List Nat)} (h : PlRow w lo v ps) : ∀ g, v.ownBlock = some g -> lo <= g /\ g < w.heap.size := by
 obtain ⟨vs, h1, _⟩ := h.row
 exact h1.lt
theorem one_place {w : World} {lo : Nat} {A : Option Addr} {c : Nat} {p : List Nat} {pl : Nat} (hpl : p.length = pl) (h : w.ownsRow lo 3 1 (.slice A pl c) pl (ints p)) (hlo : lo <= w.heap.size) : PlRow (w.alloc (.cells #[.slice A pl c] 56)) lo (.slice (some ⟨w.heap.size, 0, none⟩) 1 1) [p] := by
 subst hpl
 obtain ⟨A', c', e, hc, h1, h2, h3⟩ := qai_ h
 simp only [Value.slice.injEq, true_and] at e
 obtain ⟨rfl, rfl⟩ := e
 have hb := (Below.refl w.heap.size w).alloc (Nat.le_refl _) (.cells #[.slice A p.length c] 56)
 refine ⟨[.slice A p.length c], ⟨rfl, .inr ⟨w.heap.size, 1, _, rfl, hlo, heap_alloc_new w _, Nat.le_refl _, by unfold maxLen; omega, rfl, rfl⟩⟩, .cons ⟨A, c, rfl, hc.on hb, h1, h2, fun h0 b o e => ?_⟩ .nil⟩
 subst e
 have := h3 b rfl
 exact ⟨this.1, fun e => by simp [Value.ownBlock] at e; omega⟩
theorem qcw_ : ∀ (r : List Nd) (p : List Nat) (i : Nat), (qaf_ r p i).length <= heftL r
 | [], p, i => by simp [qaf_]
 | k :: r, p, i => by
  have h1 := (qbr_ k (p ++ [i])).1
  have h2 := qcw_ r p (i + 1)
  rw [qaf_, heftL, List.length_append]; omega
theorem qn1_ : ∀ (n : Nd) (p : List Nat) (pA : Option Addr) (pl pc : Nat) (w : World), n.In w w.heap.size -> p.length = pl -> Cel w w.heap.size pA pl (ints p) -> pl <= pc -> pc <= 9223372036854775807 -> pl + heftN n <= 268435456 ->
  Calls Tryz.prog 14 #[n.val, .slice pA pl pc] w fun e w' => (∃ v, e = .returned v /\ PlRow w' w.heap.size v (qac_ n p)) /\ Below w.heap.size w w' := by
 refine Nd.ind ?_
 intro n ih p pA pl pc w hin hpl hp hpc hpc' hz
 have HI := Lib.hid hin
 have HP := Lib.hid hp
 have IH := Lib.hid ih
 have HZ := Lib.hid hz
 obtain ⟨hkl, hkm⟩ := hin.klen
 have HPN := Lib.hid (qa5_ n p)
 have HZL : Hid (heftN n = 16 + n.name.size + (n.props.map heftP).sum + heftL n.kids) := Lib.hid (by cases n; rw [heftN]; rfl)
 have HPC := Lib.hid (And.intro hpl (And.intro hpc hpc'))
 clear hin hp ih hz hpl hpc hpc'
 obtain ⟨nm, pa, pc', ps, ka, kc, ks⟩ := n
 replace hkl : ks.length <= kc := hkl
 replace hkm : kc <= 9223372036854775807 := hkm
 show Calls _ _ #[.agg #[.string nm, .slice pa ps.length pc', .slice ka ks.length kc], .slice pA pl pc] _ _
 have HB0 := Lib.hid ((Below.refl w.heap.size w).alloc (Nat.le_refl _) (.cells #[Value.string nm, .slice pa ps.length pc', .slice ka ks.length kc] 27))
 have R1 : Hid (∃ A1 c1 w1, (Builtin.append_ #[56, 56] 56 #[.slice (some ⟨w.heap.size + 1, 0, none⟩) 0 0, .slice pA pl pc]).run Tryz.prog ((w.alloc (.cells #[Value.string nm, .slice pa ps.length pc', .slice ka ks.length kc] 27)).alloc (.cells #[] 3)) = .ok (.slice A1 pl c1) w1 /\ w1.ownsRow (w.heap.size + 1) 3 1 (.slice A1 pl c1) pl (ints p) /\ Below (w.heap.size + 1) (w.alloc (.cells #[Value.string nm, .slice pa ps.length pc', .slice ka ks.length kc] 27)) w1) := by
  have hb1 := (Below.refl _ (w.alloc (.cells #[Value.string nm, .slice pa ps.length pc', .slice ka ks.length kc] 27))).alloc (Nat.le_refl _) (.cells #[] 3)
  have ho := qi2_ (w.alloc (.cells #[Value.string nm, .slice pa ps.length pc', .slice ka ks.length kc] 27)) _ (Nat.le_refl _)
  obtain ⟨v1, w1, r1, g1⟩ := qd2_ (xs := []) pc ho ((HP.out.below (HB0.out.trans (hb1.mono HB0.out.size)))) (by simp only [List.length_nil]; have := HPC.out.1; have := HZ.out; omega) hb1.size 56
  have g2 := g1.below ho hb1 hb1.size
  have e : (w.alloc (.cells #[Value.string nm, .slice pa ps.length pc', .slice ka ks.length kc] 27)).heap.size = w.heap.size + 1 := by simp
  rw [e] at r1 g1 g2
  have g3 := g1.1
  rw [List.nil_append, List.length_map, HPC.out.1] at g3
  obtain ⟨A1, c1, rfl, _⟩ := qai_ g3
  exact Lib.hid ⟨A1, c1, w1, r1, g3, g2⟩
 obtain ⟨A1, c1, w1, r1, o1, b1⟩ := R1.out
 have HO1 := Lib.hid (one_place HPC.out.1 o1 (by have := b1.size; simpa using this))
 have HB1 := Lib.hid (b1.alloc (by have := b1.size; simpa using this) (.cells #[.slice A1 pl c1] 56))
 have BX : Hid (∀ W, Below (w.heap.size + 1) (w.alloc (.cells #[Value.string nm, .slice pa ps.length pc', .slice ka ks.length kc] 27)) W -> W.cell? ⟨w.heap.size, 2, none⟩ = some (Value.slice ka ks.length kc)) := Lib.hid (fun W h => (h.cell (Nat.lt_succ_self _)).trans (World.cell?_alloc_new _ _ _ _))
 have x2 := BX.out _ HB1.out
 clear R1 o1 b1
 go_enter Tryz.func14, Tryz.ntmps14
 go_wp2_with (at_builtin; refine Lib.wpList_append_run_sl _ rfl _ _ _ rfl _ _ rfl rfl r1 ?_)
 clear r1 x2
 go_loopw [5, 14] (fun out i wr => ∃ j : Nat, j <= ks.length /\ i = .int .i64 j /\ Below (w.heap.size + 1) (w.alloc (.cells #[Value.string nm, .slice pa ps.length pc', .slice ka ks.length kc] 27)) wr /\ PlRow wr (w.heap.size + 1) out (p :: qaf_ (ks.take j) p 0)) (fun _ i _ => ks.length - (intOf i).toNat)
 case atStart => exact ⟨0, Nat.zero_le _, rfl, HB1.out, by simpa [qaf_] using HO1.out⟩
 case round =>
  obtain ⟨j, hj, rfl, hb, hrow⟩ := hrel
  have HBX := Lib.hid hb
  have HB := Lib.hid (HB0.out.trans (hb.mono (Nat.le_succ _)))
  have HR := Lib.hid hrow
  by_cases hlt : j < ks.length
  ·obtain ⟨vs, hown, _⟩ := hrow.row
   obtain ⟨Ao, co, rfl, _, _, _, _⟩ := qai_ hown
   obtain ⟨b, o, e, hbk, c0, c1', c2⟩ := (HI.out.under HB.out).kcell (i := j) hlt
   obtain rfl : ka = _ := e
   have hkin := HI.out.kid (k := ks[j]) (List.getElem_mem hlt)
   have hheft : heftN ks[j] <= heftL ks /\ (qaf_ (ks.take j) p 0).length + heftN ks[j] <= heftL ks := by
    have h1 := qbh_ ks j hlt
    have h2 := qbb_ ks (j + 1)
    have h3 := qcw_ (ks.take j) p 0
    omega
   have hz' : pl + (16 + nm.size + (ps.map heftP).sum + heftL ks) <= 268435456 := by
    have h1 := HZ.out
    rw [HZL.out] at h1
    exact h1
   have HNX : Hid (p :: qaf_ (ks.take (j + 1)) p 0 = (p :: qaf_ (ks.take j) p 0) ++ qac_ ks[j] (p ++ [j])) := Lib.hid (by rw [qbz_ ks p j hlt]; rfl)
   have FIN : Hid (∀ (v12 : Value) (W : World) (lo2 : Nat), wr.heap.size <= lo2 -> lo2 <= W.heap.size -> PlRow W lo2 v12 (qac_ ks[j] (p ++ [j])) -> Below wr.heap.size wr W -> ∃ A n c A' n' c' w', v12 = .slice A n c /\ (Builtin.append_ #[52, 52] 52 #[.slice Ao (p :: qaf_ (ks.take j) p 0).length co, .slice A n c]).run Tryz.prog W = .ok (.slice A' n' c') w' /\ PlRow w' (w.heap.size + 1) (.slice A' n' c') ((p :: qaf_ (ks.take j) p 0) ++ qac_ ks[j] (p ++ [j])) /\ Below (w.heap.size + 1) wr w') := Lib.hid (fun v12 W lo2 hlo hl2 h12 hbW => by
    have hbs := HBX.out.size
    simp at hbs
    obtain ⟨A, n, c, A', n', c', w', e1, e2, e3, e4⟩ := qm3_ (HR.out.on hbW) h12 (by omega) (fun g hg => by have := (HR.out.lt g hg).2; omega) (by have := (qbr_ ks[j] (p ++ [j])).1; simp only [List.length_cons]; omega) hl2
    exact ⟨A, n, c, A', n', c', w', e1, e2, e3, (hbW.mono (by omega)).trans (e4.mono (Nat.le_refl _))⟩)
   have AP8 : Hid (∀ (W : World) (g : Nat), W.ownsRow wr.heap.size 3 1 (.slice (some ⟨g, 0, none⟩) 0 0) 0 (ints []) -> Below wr.heap.size wr W -> ∃ A8 c8 w8, (Builtin.append_ #[56, 56] 56 #[.slice (some ⟨g, 0, none⟩) 0 0, .slice pA pl pc]).run Tryz.prog W = .ok (.slice A8 pl c8) w8 /\ w8.ownsRow wr.heap.size 3 1 (.slice A8 pl c8) pl (ints p) /\ W.grownBy w8 (some g) /\ Below wr.heap.size wr w8) := Lib.hid (fun W g ho hbW => by
    obtain ⟨v, w', r, g1⟩ := qd2_ (xs := []) pc ho ((HP.out.below HB.out).below (hbW.mono HB.out.size)) (by simp only [List.length_nil]; have := HPC.out.1; omega) hbW.size 56
    have g2 := g1.below ho hbW hbW.size
    have g3 := g1.1
    rw [List.nil_append, List.length_map, HPC.out.1] at g3
    obtain ⟨A, c, rfl, _⟩ := qai_ g3
    exact ⟨A, c, w', r, g3, g1.2.1, g2⟩)
   have AP11 : Hid (∀ (W : World) (A8 : Option Addr) (c8 g : Nat), W.ownsRow wr.heap.size 3 1 (.slice A8 pl c8) pl (ints p) -> Cel W (g + 1) (some ⟨g, 0, none⟩) 1 (ints [j]) -> Below wr.heap.size wr W -> ∃ A11 c11 W11, (Builtin.append_ #[56, 56] 56 #[.slice A8 pl c8, .slice (some ⟨g, 0, none⟩) 1 1]).run Tryz.prog W = .ok (.slice A11 (pl + 1) c11) W11 /\ Cel W11 W11.heap.size A11 (pl + 1) (ints (p ++ [j])) /\ pl + 1 <= c11 /\ c11 <= 9223372036854775807 /\ Below wr.heap.size wr W11) := Lib.hid (fun W A8 c8 g ho hc hbW => by
    have ho' : W.ownsRow wr.heap.size 3 1 (.slice A8 pl c8) p.length (ints p) := by rw [HPC.out.1]; exact ho
    obtain ⟨v, w', r, g1⟩ := qd2_ 1 ho' hc (by have := HPC.out.1; simp only [List.length_cons, List.length_nil]; omega) hbW.size 56
    have ho2 : W.ownsRow wr.heap.size 3 1 (.slice A8 pl c8) (ints p).length (ints p) := by rw [List.length_map]; exact ho'
    have g2 := g1.below ho2 hbW hbW.size
    have g3 := g1.1
    have e : (ints (p ++ [j])).length = pl + 1 := by rw [List.length_map, List.length_append, HPC.out.1]; rfl
    rw [e] at g3
    obtain ⟨A, c, rfl, h1, h2, h3, _⟩ := qai_ g3
    exact ⟨A, c, w', r, h1, h2, h3, g2⟩)
   have CALL : Hid (∀ (A : Option Addr) (c : Nat) (W : World), Below wr.heap.size wr W -> Cel W W.heap.size A (pl + 1) (ints (p ++ [j])) -> pl + 1 <= c -> c <= 9223372036854775807 -> Calls Tryz.prog 14 #[ks[j].val, .slice A (pl + 1) c] W fun e w' => (∃ v, e = .returned v /\ PlRow w' W.heap.size v (qac_ ks[j] (p ++ [j]))) /\ Below W.heap.size W w') := Lib.hid (fun A c W hbW hcel hc hc' =>
    IH.out ks[j] (List.getElem_mem hlt) (p ++ [j]) A (pl + 1) c W ((hkin.under (HB.out.trans (hbW.mono HB.out.size))).more (HB.out.trans (hbW.mono HB.out.size)).size) (by rw [List.length_append, HPC.out.1]; rfl) hcel hc hc' (by omega))
   generalize hM : (p :: qaf_ (ks.take j) p 0).length = M at *
   obtain ⟨Q, hQ⟩ : ∃ Q, qac_ ks[j] (p ++ [j]) = Q := ⟨_, rfl⟩
   obtain ⟨kd, hkd⟩ : ∃ kd, ks[j] = kd := ⟨_, rfl⟩
   rw [hQ] at CALL FIN HNX
   replace c0 : _ = some (Value.string ks[j].name) := c0
   replace c1' : _ = some ks[j].pv := c1'
   replace c2 : _ = some ks[j].kv := c2
   rw [hkd] at CALL c0 c1' c2
   clear hQ hkd hkin hheft hz' hb hrow hown hM
   obtain ⟨kn, kpa, kpc, kps, kka, kkc, kks⟩ := kd
   replace c0 : _ = some (Value.string kn) := c0
   replace c1' : _ = some (Value.slice kpa kps.length kpc) := c1'
   replace c2 : _ = some (Value.slice kka kks.length kkc) := c2
   replace CALL : Hid (∀ (A : Option Addr) (c : Nat) (W : World), Below wr.heap.size wr W -> Cel W W.heap.size A (pl + 1) (ints (p ++ [j])) -> pl + 1 <= c -> c <= 9223372036854775807 -> Calls Tryz.prog 14 #[.agg #[.string kn, .slice kpa kps.length kpc, .slice kka kks.length kkc], .slice A (pl + 1) c] W fun e w' => (∃ v, e = .returned v /\ PlRow w' W.heap.size v Q) /\ Below W.heap.size W w') := CALL
   generalize kps.length = kpl at *
   generalize kks.length = kkl at *
   have HS2 : Hid (∀ W, Below (w.heap.size + 1) wr W -> (W.cell? ⟨w.heap.size, 2, none⟩ = some (Value.slice (some ⟨b, o, none⟩) ks.length kc) /\ W.cell? ⟨b, o + j * 3, none⟩ = some (Value.string kn) /\ W.cell? ⟨b, o + j * 3 + 1, none⟩ = some (Value.slice kpa kpl kpc) /\ W.cell? ⟨b, o + j * 3 + 2, none⟩ = some (Value.slice kka kkl kkc))) := Lib.hid (fun W hW => by
    exact ⟨(hW.cell (p := ⟨w.heap.size, 2, none⟩) (Nat.lt_succ_self _)).trans (BX.out _ HBX.out), (hW.cell (p := ⟨b, o + j * 3, none⟩) (Nat.lt_succ_of_lt hbk)).trans c0, (hW.cell (p := ⟨b, o + j * 3 + 1, none⟩) (Nat.lt_succ_of_lt hbk)).trans c1', (hW.cell (p := ⟨b, o + j * 3 + 2, none⟩) (Nat.lt_succ_of_lt hbk)).trans c2⟩)
   have HS : Hid (∀ W, Below wr.heap.size wr W -> (W.cell? ⟨w.heap.size, 2, none⟩ = some (Value.slice (some ⟨b, o, none⟩) ks.length kc) /\ W.cell? ⟨b, o + j * 3, none⟩ = some (Value.string kn) /\ W.cell? ⟨b, o + j * 3 + 1, none⟩ = some (Value.slice kpa kpl kpc) /\ W.cell? ⟨b, o + j * 3 + 2, none⟩ = some (Value.slice kka kkl kkc))) := Lib.hid (fun W hW => by
    have ko : ∀ {a : Addr} {v : Value}, wr.cell? a = some v -> W.cell? a = some v := fun {a v} h => (hW.cell (p := a) (World.block_lt_of_cell? wr _ h)).trans h
    exact ⟨ko (BX.out _ HBX.out), ko c0, ko c1', ko c2⟩)
   go_wp2_with fail
   refine wp_region_held_drew (S := fun W => W.cell? ⟨w.heap.size, 2, none⟩ = some (Value.slice (some ⟨b, o, none⟩) ks.length kc) /\ W.cell? ⟨b, o + j * 3, none⟩ = some (Value.string kn) /\ W.cell? ⟨b, o + j * 3 + 1, none⟩ = some (Value.slice kpa kpl kpc) /\ W.cell? ⟨b, o + j * 3 + 2, none⟩ = some (Value.slice kka kkl kkc)) (by kernel_rfl) (HS.out _ (Below.refl _ wr).drew) (fun hHeld => ?_)
   refine tk 0 hHeld fun _ => ?_
   refine tk 1 hHeld fun _ => ?_
   refine tk 2 hHeld fun _ => ?_
   refine tk 3 hHeld fun _ => ?_
   refine tk 4 hHeld fun _ => ?_
   refine tk 5 hHeld fun _ => ?_
   refine tk 7 hHeld fun _ => ?_
   refine tk 9 hHeld fun _ => ?_
   refine qfs_ 6 10 (by kernel_rfl) rfl rfl (by rfl) (by rfl) (fun K hK => ?_) (fun K hK => ?_)
   ·go_simp
    refine hK.out _ _ (HS.out _ ((Below.refl _ wr).drew.alloc (Nat.le_refl _) (.cells #[] 3))) (fun hHeld => ?_)
    clear hK K
    refine qfs_ 8 10 (by kernel_rfl) rfl rfl (by rfl) (by rfl) (fun K hK => ?_) (fun K hK => ?_)
    ·obtain ⟨A8, c8, w8, r8, o8, _, b8⟩ := AP8.out (wr.drew.alloc (.cells #[] 3)) wr.heap.size (qi2_ wr.drew _ (Nat.le_refl _)) ((Below.refl _ wr).drew.alloc (Nat.le_refl _) (.cells #[] 3))
     obtain ⟨A11, c11, W11, r11, s11, l11, m11, b11⟩ := AP11.out (w8.alloc (.cells #[Value.int .i64 (j : Int)] 3)) A8 c8 w8.heap.size (o8.alloc _) (qie_ w8 j) (b8.alloc b8.size (.cells #[Value.int .i64 (j : Int)] 3))
     refine qh4_ (.tmp 23) (.tmp 24) rfl _ _ rfl rfl r8 ?_
     simp only [Act.put, List.setIfInBounds_toArray, List.set_cons_zero, List.set_cons_succ]
     refine hK.out _ _ (HS.out _ b8) (fun hHeld => ?_)
     clear hK K
     refine qab_ 10 (by kernel_rfl) rfl (by rfl) (fun K hK => ?_)
     go_simp
     refine hK.out _ _ (HS.out _ (b8.alloc b8.size (.cells #[Value.int .i64 (j : Int)] 3))) (fun hHeld => ?_)
     clear hK K
     refine qab_ 11 (by kernel_rfl) rfl (by rfl) (fun K hK => ?_)
     refine qh4_ (.tmp 25) (.tmp 27) rfl _ _ rfl rfl r11 ?_
     simp only [Act.put, List.setIfInBounds_toArray, List.set_cons_zero, List.set_cons_succ]
     refine hK.out _ _ (HS.out _ b11) (fun hHeld => ?_)
     clear hK K
     refine qab_ 12 (by kernel_rfl) rfl (by rfl) (fun K hK => ?_)
     go_simp
     refine (CALL.out A11 c11 W11 b11 s11 l11 m11).mono ?_
     rintro e w12 ⟨⟨v12, rfl, hr12⟩, hb12⟩
     have b12 := b11.trans (hb12.mono b11.size)
     obtain ⟨A12, n12, c12, A13, n13, c13, w13, e12, r13, hr13, b13⟩ := FIN.out v12 w12 W11.heap.size b11.size hb12.size hr12 b12
     subst e12
     dsimp only
     refine hK.out _ _ (HS.out _ b12) (fun hHeld => ?_)
     clear hK K
     refine qab_ 13 (by kernel_rfl) rfl (by rfl) (fun K hK => ?_)
     refine qh4_ (.tmp 17) (.tmp 29) rfl _ _ rfl rfl r13 ?_
     simp only [Act.put, List.setIfInBounds_toArray, List.set_cons_zero, List.set_cons_succ]
     refine hK.out _ _ (HS2.out _ b13) (fun hHeld => ?_)
     clear hK K
     refine tk 14 hHeld fun _ => ?_
     refine wpAnyH_done (by kernel_rfl) ?_ _
     have HR13 := Lib.hid hr13
     have HB13 := Lib.hid b13
     clear hHeld r13 hr13 hr12 hb12 b12 b11 s11 l11 m11 b13
     go_wp2
     go_roundw
     case rel => exact ⟨j + 1, by omega, by go_num, HBX.out.trans HB13.out, by rw [HNX.out]; exact HR13.out⟩
     case measure => simp [intOf]; omega
    ·go_simp
     refine hK.out _ _ (HS.out _ (((Below.refl _ wr).drew.alloc (Nat.le_refl _) (.cells #[] 3)).alloc (by simp) (.cells #[Value.int .i64 (j : Int)] 3))) (fun hHeld => ?_)
     clear hK K
     have o6 := (qi2_ wr.drew wr.heap.size (Nat.le_refl _)).alloc (.cells #[Value.int .i64 (j : Int)] 3)
     obtain ⟨A8, c8, w8, r8, o8, g8, b8⟩ := AP8.out ((wr.drew.alloc (.cells #[] 3)).alloc (.cells #[Value.int .i64 (j : Int)] 3)) wr.heap.size o6 (((Below.refl _ wr).drew.alloc (Nat.le_refl _) (.cells #[] 3)).alloc (by simp) (.cells #[Value.int .i64 (j : Int)] 3))
     obtain ⟨A11, c11, W11, r11, s11, l11, m11, b11⟩ := AP11.out w8 A8 c8 (wr.drew.alloc (.cells #[] 3)).heap.size o8 (qn8_ (qie_ (wr.drew.alloc (.cells #[] 3)) j) g8 (by constructor <;> simp <;> omega)) b8
     have esz : (wr.drew.alloc (.cells #[] 3)).heap.size = wr.heap.size + 1 := by simp
     rw [esz] at r11
     refine qab_ 8 (by kernel_rfl) rfl (by rfl) (fun K hK => ?_)
     refine qh4_ (.tmp 23) (.tmp 24) rfl _ _ rfl rfl r8 ?_
     simp only [Act.put, List.setIfInBounds_toArray, List.set_cons_zero, List.set_cons_succ]
     refine hK.out _ _ (HS.out _ b8) (fun hHeld => ?_)
     clear hK K
     refine qab_ 11 (by kernel_rfl) rfl (by rfl) (fun K hK => ?_)
     refine qh4_ (.tmp 25) (.tmp 27) rfl _ _ rfl rfl r11 ?_
     simp only [Act.put, List.setIfInBounds_toArray, List.set_cons_zero, List.set_cons_succ]
     refine hK.out _ _ (HS.out _ b11) (fun hHeld => ?_)
     clear hK K
     refine qab_ 12 (by kernel_rfl) rfl (by rfl) (fun K hK => ?_)
     go_simp
     refine (CALL.out A11 c11 W11 b11 s11 l11 m11).mono ?_
     rintro e w12 ⟨⟨v12, rfl, hr12⟩, hb12⟩
     have b12 := b11.trans (hb12.mono b11.size)
     obtain ⟨A12, n12, c12, A13, n13, c13, w13, e12, r13, hr13, b13⟩ := FIN.out v12 w12 W11.heap.size b11.size hb12.size hr12 b12
     subst e12
     dsimp only
     refine hK.out _ _ (HS.out _ b12) (fun hHeld => ?_)
     clear hK K
     refine qab_ 13 (by kernel_rfl) rfl (by rfl) (fun K hK => ?_)
     refine qh4_ (.tmp 17) (.tmp 29) rfl _ _ rfl rfl r13 ?_
     simp only [Act.put, List.setIfInBounds_toArray, List.set_cons_zero, List.set_cons_succ]
     refine hK.out _ _ (HS2.out _ b13) (fun hHeld => ?_)
     clear hK K
     refine tk 14 hHeld fun _ => ?_
     refine wpAnyH_done (by kernel_rfl) ?_ _
     have HR13 := Lib.hid hr13
     have HB13 := Lib.hid b13
     clear hHeld r13 hr13 hr12 hb12 b12 b11 s11 l11 m11 b13
     go_wp2
     go_roundw
     case rel => exact ⟨j + 1, by omega, by go_num, HBX.out.trans HB13.out, by rw [HNX.out]; exact HR13.out⟩
     case measure => simp [intOf]; omega
   ·go_simp
    refine hK.out _ _ (HS.out _ ((Below.refl _ wr).drew.alloc (Nat.le_refl _) (.cells #[Value.int .i64 (j : Int)] 3))) (fun hHeld => ?_)
    clear hK K
    refine qab_ 6 (by kernel_rfl) rfl (by rfl) (fun K hK => ?_)
    go_simp
    refine hK.out _ _ (HS.out _ (((Below.refl _ wr).drew.alloc (Nat.le_refl _) (.cells #[Value.int .i64 (j : Int)] 3)).alloc (by simp) (.cells #[] 3))) (fun hHeld => ?_)
    clear hK K
    have o6 := qi2_ (wr.drew.alloc (.cells #[Value.int .i64 (j : Int)] 3)) wr.heap.size (by simp)
    obtain ⟨A8, c8, w8, r8, o8, g8, b8⟩ := AP8.out ((wr.drew.alloc (.cells #[Value.int .i64 (j : Int)] 3)).alloc (.cells #[] 3)) (wr.drew.alloc (.cells #[Value.int .i64 (j : Int)] 3)).heap.size o6 (((Below.refl _ wr).drew.alloc (Nat.le_refl _) (.cells #[Value.int .i64 (j : Int)] 3)).alloc (by simp) (.cells #[] 3))
    obtain ⟨A11, c11, W11, r11, s11, l11, m11, b11⟩ := AP11.out w8 A8 c8 wr.heap.size o8 (qn8_ ((qie_ wr.drew j).below' (.cells #[] 3)) g8 (by constructor <;> simp <;> omega)) b8
    have esz : (wr.drew.alloc (.cells #[Value.int .i64 (j : Int)] 3)).heap.size = wr.heap.size + 1 := by simp
    rw [esz] at r8
    refine qab_ 8 (by kernel_rfl) rfl (by rfl) (fun K hK => ?_)
    refine qh4_ (.tmp 23) (.tmp 24) rfl _ _ rfl rfl r8 ?_
    simp only [Act.put, List.setIfInBounds_toArray, List.set_cons_zero, List.set_cons_succ]
    refine hK.out _ _ (HS.out _ b8) (fun hHeld => ?_)
    clear hK K
    refine qab_ 11 (by kernel_rfl) rfl (by rfl) (fun K hK => ?_)
    refine qh4_ (.tmp 25) (.tmp 27) rfl _ _ rfl rfl r11 ?_
    simp only [Act.put, List.setIfInBounds_toArray, List.set_cons_zero, List.set_cons_succ]
    refine hK.out _ _ (HS.out _ b11) (fun hHeld => ?_)
    clear hK K
    refine qab_ 12 (by kernel_rfl) rfl (by rfl) (fun K hK => ?_)
    go_simp
    refine (CALL.out A11 c11 W11 b11 s11 l11 m11).mono ?_
    rintro e w12 ⟨⟨v12, rfl, hr12⟩, hb12⟩
    have b12 := b11.trans (hb12.mono b11.size)
    obtain ⟨A12, n12, c12, A13, n13, c13, w13, e12, r13, hr13, b13⟩ := FIN.out v12 w12 W11.heap.size b11.size hb12.size hr12 b12
    subst e12
    dsimp only
    refine hK.out _ _ (HS.out _ b12) (fun hHeld => ?_)
    clear hK K
    refine qab_ 13 (by kernel_rfl) rfl (by rfl) (fun K hK => ?_)
    refine qh4_ (.tmp 17) (.tmp 29) rfl _ _ rfl rfl r13 ?_
    simp only [Act.put, List.setIfInBounds_toArray, List.set_cons_zero, List.set_cons_succ]
    refine hK.out _ _ (HS2.out _ b13) (fun hHeld => ?_)
    clear hK K
    refine tk 14 hHeld fun _ => ?_
    refine wpAnyH_done (by kernel_rfl) ?_ _
    have HR13 := Lib.hid hr13
    have HB13 := Lib.hid b13
    clear hHeld r13 hr13 hr12 hb12 b12 b11 s11 l11 m11 b13
    go_wp2
    go_roundw
    case rel => exact ⟨j + 1, by omega, by go_num, HBX.out.trans HB13.out, by rw [HNX.out]; exact HR13.out⟩
    case measure => simp [intOf]; omega
  ·obtain rfl : j = ks.length := by omega
   have HE : Hid (p :: qaf_ ks p 0 = qac_ (Nd.mk nm pa pc' ps ka kc ks) p) := Lib.hid HPN.out.symm
   rw [List.take_length] at hrow
   have HR2 := Lib.hid (hrow.low (Nat.le_succ _))
   clear hb hrow
   go_wp2
   go_ret
   exact ⟨⟨_, rfl, by rw [<- HE.out]; exact HR2.out⟩, HB.out⟩
section
open Go.RowKit Go.Maps Go.WideMaps
def qb0_ (l : List ByteArray) : Bool := !decide l.Nodup
def keyL (s : ByteArray) : Lit := .string s.data.toList
def Sn (l : List ByteArray) (k : Nat) : DataW Unit := setOf (.agg []) ((l.take k).map keyL)
theorem Sn_zero (l : List ByteArray) : Sn l 0 = .map [] := by simp [Sn, setOf]
theorem Sn_succ (l : List ByteArray) (k : Nat) (hk : k < l.length) : Sn l (k + 1) = (Sn l k).put (keyL l[k]) (.agg []) := by
 unfold Sn
 rw [List.take_add_one, List.getElem?_eq_getElem hk, List.map_append, <- setOf_snoc]
 rfl
theorem has_Sn (l : List ByteArray) (k : Nat) (s : ByteArray) : Maps.has (Sn l k) (keyL s) = true ↔ s ∈ l.take k := by
 unfold Sn
 rw [has_setOf _ _ _ (fun y hy => by obtain ⟨_, _, rfl⟩ := List.mem_map.1 hy; trivial), List.any_map, List.any_eq_true]
 constructor
 ·rintro ⟨x, hx, h⟩
  have e : x.data.toList = s.data.toList := by
   have h' : (keyL x).sameKey (keyL s) = true := h
   by_cases e : keyL x = keyL s
   ·exact (Lit.string.inj e)
   ·rw [sameKey_ne e] at h'; cases h'
  rw [<- WideShapes.bytes_inj e]
  exact hx
 ·intro h
  refine ⟨s, h, ?_⟩
  show (keyL s).sameKey (keyL s) = true
  simp [keyL, Lit.sameKey]
theorem has_no {l : List ByteArray} {k : Nat} {s : ByteArray} (h : s ∉ l.take k) : Maps.has (Sn l k) (keyL s) = false := by
 rcases e : Maps.has (Sn l k) (keyL s) with _ | _
 ·rfl
 ·exact absurd ((has_Sn l k s).1 e) h
theorem qcr_ (l : List ByteArray) : (l.take 0).Nodup := by simp
theorem qcp_ {l : List ByteArray} {k : Nat} (h : (l.take k).Nodup) (hk : k < l.length) (hn : l[k] ∉ l.take k) : (l.take (k + 1)).Nodup := by
 rw [List.take_add_one, List.getElem?_eq_getElem hk]
 rw [List.nodup_append]
 refine ⟨h, by simp, ?_⟩
 intro a ha b hb hab
 simp at hb
 subst hb hab
 exact hn ha
theorem qdm_ {l : List ByteArray} {k : Nat} (hk : k < l.length) (hn : l[k] ∈ l.take k) : qb0_ l = true := by
 have : ¬ l.Nodup := fun h => by
  have h1 : (l.take k ++ l.drop k).Nodup := by rw [List.take_append_drop]; exact h
  rw [List.nodup_append] at h1
  exact h1.2.2 _ hn l[k] (by rw [List.drop_eq_getElem_cons hk]; exact List.mem_cons_self ..) rfl
 simp [qb0_, this]
theorem qdh_ {l : List ByteArray} {k : Nat} (h : (l.take k).Nodup) (hk : ¬ k < l.length) : qb0_ l = false := by
 rw [List.take_of_length_le (by omega)] at h
 simp [qb0_, h]
theorem qba_ {w w' : World} {B b n : Nat} {k : TypeId} {R : Value -> Option (DataW Unit × List MemPlace)} {D : DataW Unit} (h : w.ownsMap Tryz.prog k R b n D) (hb : Below B w w') (hlt : b < B) : w'.ownsMap Tryz.prog k R b n D := by
 obtain ⟨es, clock, h1, h2⟩ := h
 exact ⟨es, clock, (hb.block b hlt).trans h1, h2⟩
theorem lawS : Keyed Tryz.prog 9 := string_keyed Tryz.underlying9
theorem zeroS (w : World) : (zeroValue 151).run Tryz.prog w = .ok (.agg #[]) w := by kernel_rfl
theorem key_ok {s : ByteArray} (hs : s.size <= 140737488351232) : keyOf Tryz.prog 9 (.string s) = some (keyL s) := keyOf_string_mk Tryz.underlying9 (by unfold maxLen; omega)
theorem qkv_ (p : PV) (w : World) : Calls Tryz.prog 97 #[.agg #[.string p.name, p.val]] w fun e w' => e = .returned (.string p.name) /\ Below w.heap.size w w' := by
 obtain ⟨x, a, c, zs⟩ := p
 show Calls _ _ #[.agg #[.string x, .slice a zs.length c]] _ _
 go_enter Tryz.func97, Tryz.ntmps97
 go_wp2
 go_ret
 exact ⟨rfl, (Below.refl _ _).alloc (Nat.le_refl _) _⟩
theorem qkw_ (n : Nd) (w : World) : Calls Tryz.prog 99 #[n.val] w fun e w' => e = .returned (.string n.name) /\ Below w.heap.size w w' := by
 obtain ⟨nm, pa, pc, ps, ka, kc, ks⟩ := n
 show Calls _ _ #[.agg #[.string nm, .slice pa ps.length pc, .slice ka ks.length kc]] _ _
 go_enter Tryz.func99, Tryz.ntmps99
 go_wp2
 go_ret
 exact ⟨rfl, (Below.refl _ _).alloc (Nat.le_refl _) _⟩
theorem qoz_ (n : Nd) (w : World) (hin : n.In w w.heap.size) (r : Bool) (hr : qb0_ (n.props.map PV.name) = r) :
  Calls Tryz.prog 96 #[n.pv, .func (.func 97) #[] #[]] w fun e w' => e = .returned (.bool r) /\ Below w.heap.size w w' := by
 have hmm := @run_makeMap Tryz.prog
 obtain ⟨nm, pa, pc, ps, ka, kc, ks⟩ := n
 have HI := Lib.hid hin
 have HR := Lib.hid (show qb0_ (ps.map PV.name) = r from hr)
 obtain ⟨hl, hm⟩ : ps.length <= pc /\ pc <= 9223372036854775807 := hin.plen
 obtain ⟨_, hsz, _⟩ : nm.size <= 140737488351232 /\ ps.length * 40 <= 140737488351232 /\ _ := hin.name_le
 have HM := Lib.hid (show (ps.map PV.name).length = ps.length from List.length_map _)
 clear hin hr
 show Calls _ _ #[.slice pa ps.length pc, _] _ _
 go_enter Tryz.func96, Tryz.ntmps96
 go_wp2_with fail
 go_loopw [13] (fun i wr => ∃ k : Nat, k <= ps.length /\ i = .int .i64 k /\ ((ps.map PV.name).take k).Nodup /\ wr.ownsMap Tryz.prog 9 unitElem w.heap.size k (Sn (ps.map PV.name) k) /\ Below w.heap.size w wr /\ w.heap.size < wr.heap.size) (fun i _ => ps.length - (intOf i).toNat)
 case atStart => exact ⟨0, Nat.zero_le _, rfl, qcr_ _, by rw [Sn_zero]; exact World.ownsMap_made _ _ _ _, (Below.refl _ _).alloc (Nat.le_refl _) _, by simp⟩
 case round =>
  obtain ⟨k, hk, rfl, hnd, hown, hb, hz⟩ := hrel
  have HN := Lib.hid hnd
  have HB := Lib.hid hb
  have HO := Lib.hid hown
  have HZ := Lib.hid hz
  clear hnd hb hown hz
  by_cases hlt : k < ps.length
  ·obtain ⟨b, o, e, hb, c0, c1⟩ := (HI.out.under HB.out).pcell (i := k) hlt
   obtain rfl : pa = _ := e
   replace c0 : _ = some (Value.string ps[k].name) := c0
   replace c1 : _ = some (Value.slice ps[k].addr ps[k].zs.length ps[k].cap) := c1
   have hxm : Hid ((ps.map PV.name)[k]'(by rw [HM.out]; exact hlt) = ps[k].name) := List.getElem_map _
   have HK := Lib.hid (key_ok (HI.out.prop (List.getElem_mem hlt)).1.1)
   have HA := Lib.hid (Below.alloc (Below.refl wr.heap.size wr) (Nat.le_refl _) (.cells #[Value.string ps[k].name, .slice ps[k].addr ps[k].zs.length ps[k].cap] 84))
   have HC := Lib.hid (qkv_ ps[k])
   by_cases hmem : ps[k].name ∈ (ps.map PV.name).take k
   ·have hhas := (has_Sn (ps.map PV.name) k ps[k].name).2 hmem
    obtain rfl : r = true := by rw [<- HR.out]; exact qdm_ (k := k) (by rw [HM.out]; exact hlt) (by rw [hxm.out]; exact hmem)
    clear hmem
    go_wp2_with fail
    refine (HC.out _).mono ?_
    rintro e w1 ⟨rfl, hb1⟩
    have HB1 := Lib.hid (HA.out.trans (hb1.mono HA.out.size))
    have HO1 := Lib.hid (qba_ HO.out HB1.out HZ.out)
    clear hb1
    go_wp2_with (first | (at_lookup; refine wpList_lookup_own_unit _ rfl _ _ 260 rfl 9 151 lawS Tryz.underlying260 (zeroS _) w.heap.size k _ rfl HO1.out _ _ rfl HK.out ?_) | fail)
    go_ret
    exact ⟨rfl, (HB.out.trans (HB1.out.mono HB.out.size)).alloc (by have h1 := HB.out.size; have h2 := HB1.out.size; omega) _⟩
   ·have hhas := has_no hmem
    have HN1 := Lib.hid (qcp_ HN.out (by rw [HM.out]; exact hlt) (by rw [hxm.out]; exact hmem))
    clear hmem
    go_wp2_with fail
    refine (HC.out _).mono ?_
    rintro e w1 ⟨rfl, hb1⟩
    have HB1 := Lib.hid (HA.out.trans (hb1.mono HA.out.size))
    have HO1 := Lib.hid (qba_ HO.out HB1.out HZ.out)
    have d0 : ∀ o, (w1.alloc o).cell? ⟨wr.heap.size, 0, none⟩ = some (Value.string ps[k].name) := fun o => Lib.cell?_alloc_some o ((hb1.cell (p := ⟨wr.heap.size, 0, none⟩) (by simp)).trans (World.cell?_alloc_new _ _ _ _))
    have d1 : ∀ o, (w1.alloc o).cell? ⟨wr.heap.size, 1, none⟩ = some (Value.slice ps[k].addr ps[k].zs.length ps[k].cap) := fun o => Lib.cell?_alloc_some o ((hb1.cell (p := ⟨wr.heap.size, 1, none⟩) (by simp)).trans (World.cell?_alloc_new _ _ _ _))
    clear hb1
    go_wp2_with (first | (at_lookup; refine wpList_lookup_own_unit _ rfl _ _ 260 rfl 9 151 lawS Tryz.underlying260 (zeroS _) w.heap.size k _ rfl HO1.out _ _ rfl HK.out ?_) | fail)
    refine (HC.out _).mono ?_
    rintro e w2 ⟨rfl, hb2⟩
    have HB2 := Lib.hid ((HB1.out.alloc HB1.out.size (.cells #[] 151)).trans (hb2.mono (by have := HB1.out.size; simp; omega)))
    have HO2 := Lib.hid (qba_ HO.out HB2.out HZ.out)
    clear hb2
    go_wp2_with (first | (at_mapUpdate; refine wpList_mapUpdate_own _ rfl _ _ _ 260 rfl 9 151 lawS Tryz.underlying260 unitElem w.heap.size k _ rfl HO2.out (by unfold maxLen; omega) _ _ _ rfl rfl HK.out (.agg []) [] unitElem_mk ?_; intro w3 hown3 hgrow3) | fail)
    go_roundw
    case rel => exact ⟨k + 1, by omega, by go_num, HN1.out, by have h := hown3; rw [<- hxm.out, <- Sn_succ] at h; exact h, (HB.out.trans (HB2.out.mono HB.out.size)).grown hgrow3 (by have h1 := HB.out.size; have h2 := HB2.out.size; omega) (fun j hj => by cases hj; exact Nat.le_refl _), by have h1 := HZ.out; have h2 := HB2.out.size; have h3 := hgrow3.size; omega⟩
    case measure => simp [intOf]; omega
  ·obtain rfl : r = false := by rw [<- HR.out]; exact qdh_ HN.out (by rw [HM.out]; exact hlt)
   go_wp2
   go_ret
   exact ⟨rfl, HB.out⟩
theorem qo8_ (n : Nd) (w : World) (hin : n.In w w.heap.size) (r : Bool) (hr : qb0_ (n.kids.map Nd.name) = r) :
  Calls Tryz.prog 98 #[n.kv, .func (.func 99) #[] #[]] w fun e w' => e = .returned (.bool r) /\ Below w.heap.size w w' := by
 have hmm := @run_makeMap Tryz.prog
 obtain ⟨nm, pa, pc, ps, ka, kc, ks⟩ := n
 have HI := Lib.hid hin
 have HR := Lib.hid (show qb0_ (ks.map Nd.name) = r from hr)
 obtain ⟨hl, hm⟩ : ks.length <= kc /\ kc <= 9223372036854775807 := hin.klen
 obtain ⟨_, _, hsz⟩ : nm.size <= 140737488351232 /\ _ /\ ks.length * 64 <= 140737488351232 := hin.name_le
 have HM := Lib.hid (show (ks.map Nd.name).length = ks.length from List.length_map _)
 clear hin hr
 show Calls _ _ #[.slice ka ks.length kc, _] _ _
 go_enter Tryz.func98, Tryz.ntmps98
 go_wp2_with fail
 go_loopw [13] (fun i wr => ∃ k : Nat, k <= ks.length /\ i = .int .i64 k /\ ((ks.map Nd.name).take k).Nodup /\ wr.ownsMap Tryz.prog 9 unitElem w.heap.size k (Sn (ks.map Nd.name) k) /\ Below w.heap.size w wr /\ w.heap.size < wr.heap.size) (fun i _ => ks.length - (intOf i).toNat)
 case atStart => exact ⟨0, Nat.zero_le _, rfl, qcr_ _, by rw [Sn_zero]; exact World.ownsMap_made _ _ _ _, (Below.refl _ _).alloc (Nat.le_refl _) _, by simp⟩
 case round =>
  obtain ⟨k, hk, rfl, hnd, hown, hb, hz⟩ := hrel
  have HN := Lib.hid hnd
  have HB := Lib.hid hb
  have HO := Lib.hid hown
  have HZ := Lib.hid hz
  clear hnd hb hown hz
  by_cases hlt : k < ks.length
  ·obtain ⟨b, o, e, hb, c0, c1, c2⟩ := (HI.out.under HB.out).kcell (i := k) hlt
   obtain rfl : ka = _ := e
   replace c0 : _ = some (Value.string ks[k].name) := c0
   replace c1 : _ = some (Value.slice ks[k].pa ks[k].props.length ks[k].pc) := c1
   replace c2 : _ = some (Value.slice ks[k].ka ks[k].kids.length ks[k].kc) := c2
   have hxm : Hid ((ks.map Nd.name)[k]'(by rw [HM.out]; exact hlt) = ks[k].name) := List.getElem_map _
   have HK := Lib.hid (key_ok (HI.out.kid (List.getElem_mem hlt)).name_le.1)
   have HA := Lib.hid (Below.alloc (Below.refl wr.heap.size wr) (Nat.le_refl _) (.cells #[Value.string ks[k].name, .slice ks[k].pa ks[k].props.length ks[k].pc, .slice ks[k].ka ks[k].kids.length ks[k].kc] 27))
   have HC := Lib.hid (qkw_ ks[k])
   by_cases hmem : ks[k].name ∈ (ks.map Nd.name).take k
   ·have hhas := (has_Sn (ks.map Nd.name) k ks[k].name).2 hmem
    obtain rfl : r = true := by rw [<- HR.out]; exact qdm_ (k := k) (by rw [HM.out]; exact hlt) (by rw [hxm.out]; exact hmem)
    clear hmem
    go_wp2_with fail
    refine (HC.out _).mono ?_
    rintro e w1 ⟨rfl, hb1⟩
    have HB1 := Lib.hid (HA.out.trans (hb1.mono HA.out.size))
    have HO1 := Lib.hid (qba_ HO.out HB1.out HZ.out)
    clear hb1
    go_wp2_with (first | (at_lookup; refine wpList_lookup_own_unit _ rfl _ _ 260 rfl 9 151 lawS Tryz.underlying260 (zeroS _) w.heap.size k _ rfl HO1.out _ _ rfl HK.out ?_) | fail)
    go_ret
    exact ⟨rfl, (HB.out.trans (HB1.out.mono HB.out.size)).alloc (by have h1 := HB.out.size; have h2 := HB1.out.size; omega) _⟩
   ·have hhas := has_no hmem
    have HN1 := Lib.hid (qcp_ HN.out (by rw [HM.out]; exact hlt) (by rw [hxm.out]; exact hmem))
    clear hmem
    go_wp2_with fail
    refine (HC.out _).mono ?_
    rintro e w1 ⟨rfl, hb1⟩
    have HB1 := Lib.hid (HA.out.trans (hb1.mono HA.out.size))
    have HO1 := Lib.hid (qba_ HO.out HB1.out HZ.out)
    have d0 : ∀ o, (w1.alloc o).cell? ⟨wr.heap.size, 0, none⟩ = some (Value.string ks[k].name) := fun o => Lib.cell?_alloc_some o ((hb1.cell (p := ⟨wr.heap.size, 0, none⟩) (by simp)).trans (World.cell?_alloc_new _ _ _ _))
    have d1 : ∀ o, (w1.alloc o).cell? ⟨wr.heap.size, 1, none⟩ = some (Value.slice ks[k].pa ks[k].props.length ks[k].pc) := fun o => Lib.cell?_alloc_some o ((hb1.cell (p := ⟨wr.heap.size, 1, none⟩) (by simp)).trans (World.cell?_alloc_new _ _ _ _))
    have d2 : ∀ o, (w1.alloc o).cell? ⟨wr.heap.size, 2, none⟩ = some (Value.slice ks[k].ka ks[k].kids.length ks[k].kc) := fun o => Lib.cell?_alloc_some o ((hb1.cell (p := ⟨wr.heap.size, 2, none⟩) (by simp)).trans (World.cell?_alloc_new _ _ _ _))
    clear hb1
    go_wp2_with (first | (at_lookup; refine wpList_lookup_own_unit _ rfl _ _ 260 rfl 9 151 lawS Tryz.underlying260 (zeroS _) w.heap.size k _ rfl HO1.out _ _ rfl HK.out ?_) | fail)
    refine (HC.out _).mono ?_
    rintro e w2 ⟨rfl, hb2⟩
    have HB2 := Lib.hid ((HB1.out.alloc HB1.out.size (.cells #[] 151)).trans (hb2.mono (by have := HB1.out.size; simp; omega)))
    have HO2 := Lib.hid (qba_ HO.out HB2.out HZ.out)
    clear hb2
    go_wp2_with (first | (at_mapUpdate; refine wpList_mapUpdate_own _ rfl _ _ _ 260 rfl 9 151 lawS Tryz.underlying260 unitElem w.heap.size k _ rfl HO2.out (by unfold maxLen; omega) _ _ _ rfl rfl HK.out (.agg []) [] unitElem_mk ?_; intro w3 hown3 hgrow3) | fail)
    go_roundw
    case rel => exact ⟨k + 1, by omega, by go_num, HN1.out, by have h := hown3; rw [<- hxm.out, <- Sn_succ] at h; exact h, (HB.out.trans (HB2.out.mono HB.out.size)).grown hgrow3 (by have h1 := HB.out.size; have h2 := HB2.out.size; omega) (fun j hj => by cases hj; exact Nat.le_refl _), by have h1 := HZ.out; have h2 := HB2.out.size; have h3 := hgrow3.size; omega⟩
    case measure => simp [intOf]; omega
  ·obtain rfl : r = false := by rw [<- HR.out]; exact qdh_ HN.out (by rw [HM.out]; exact hlt)
   go_wp2
   go_ret
   exact ⟨rfl, HB.out⟩
end
def letB (c : Int) : Bool := decide ((97 <= c /\ c <= 122) \/ (65 <= c /\ c <= 90))
def digB (c : Int) : Bool := decide (48 <= c /\ c <= 57)
def markB (c : Int) : Bool := decide (c = 44 \/ c = 46 \/ c = 95 \/ c = 43 \/ c = 45)
def stB (c : Int) : Bool := letB c || digB c || markB c
theorem qcs_ (c : Int) (w : World) (h : 0 <= c /\ c <= 255) (r : Bool) (hr : r = letB c) :
  Calls Tryz.prog 187 #[.int .u8 c] w fun e w' => e = .returned (.bool r) /\ w = w' := by
 have HR := Lib.hid hr
 clear hr
 go_enter Tryz.func187, Tryz.ntmps187
 go_wp2
 all_goals
  go_ret
  refine ⟨congrArg (fun b => Ending.returned (.bool b)) ?_, rfl⟩
  rw [HR.out, Bool.eq_iff_iff]
  simp only [letB, Bool.or_eq_true, Bool.and_eq_true, decide_eq_true_eq]
  try simp
  try omega
theorem qhj_ (c : Int) (w : World) (h : 0 <= c /\ c <= 255) (r : Bool) (hr : r = digB c) :
  Calls Tryz.prog 188 #[.int .u8 c] w fun e w' => e = .returned (.bool r) /\ w = w' := by
 have HR := Lib.hid hr
 clear hr
 go_enter Tryz.func188, Tryz.ntmps188
 go_wp2
 all_goals
  go_ret
  refine ⟨congrArg (fun b => Ending.returned (.bool b)) ?_, rfl⟩
  rw [HR.out, Bool.eq_iff_iff]
  simp only [digB, Bool.or_eq_true, Bool.and_eq_true, decide_eq_true_eq]
  try simp
  try omega
def okM (marks : List UInt8) (c : UInt8) : Bool := letB c.toNat || digB c.toNat || decide (0 <= Lib.indexByte marks c)
def madeB (marks l : List UInt8) : Bool := decide (1 <= l.length) && decide (l.length <= 31) && l.all (okM marks)
theorem qhh_ (s : ByteArray) : s.data.toList.length = s.size := rfl
theorem qgh_ (c : UInt8) : 0 <= (c.toNat : Int) /\ (c.toNat : Int) <= 255 := by have := c.toNat_lt; omega
theorem byte_back (c : UInt8) : ((c.toNat : Int).toNat).toUInt8 = c := by simp
theorem at_mem (s : ByteArray) (k : Nat) (h : k < s.size) : s[k] ∈ s.data.toList := by
 have : s[k] = s.data[k]'(by simpa using h) := rfl
 rw [this]; simp
theorem all_at (s : ByteArray) (p : UInt8 -> Bool) (h : ∀ k (hk : k < s.size), p s[k] = true) : s.data.toList.all p = true := by
 rw [List.all_eq_true]
 intro x hx
 obtain ⟨k, hk, rfl⟩ := List.getElem_of_mem hx
 exact h k hk
theorem qnu_ (s : ByteArray) (p : UInt8 -> Bool) (k : Nat) (hk : k < s.size) (h : p s[k] = false) : s.data.toList.all p = false := by
 rw [Bool.eq_false_iff]
 intro e
 rw [List.all_eq_true] at e
 have := e _ (at_mem s k hk)
 rw [h] at this; cases this
theorem qim_ (m : ByteArray) (c : UInt8) (w : World) (r : Int) (hr : r = Lib.indexByte m.data.toList c) :
  Calls Tryz.prog 189 #[.string m, .int .u8 c.toNat] w fun e w' => e = .returned (.int .i64 r) /\ w = w' :=
 (Go.Proofs.Tryz.strings_IndexByte m c.toNat w).mono fun e w' ⟨h1, h2⟩ => ⟨by rw [h1, byte_back, hr], h2.symm⟩
theorem qhs_ (s m : ByteArray) (w : World) (hs : s.size <= 140737488351232) (r : Bool) (hr : r = madeB m.data.toList s.data.toList) :
  Calls Tryz.prog 169 #[.string s, .string m] w fun e w' => e = .returned (.bool r) /\ w = w' := by
 have HR := Lib.hid hr
 clear hr
 have L := Lib.hid (qhh_ s)
 by_cases h1 : s.size < 1
 ·obtain rfl : r = false := by rw [HR.out]; unfold madeB; rw [L.out, decide_eq_false (by omega)]; rfl
  go_enter Tryz.func169, Tryz.ntmps169
  go_wp2
  go_ret
  exact ⟨rfl, rfl⟩
 by_cases h2 : 31 < s.size
 ·obtain rfl : r = false := by rw [HR.out]; unfold madeB; rw [L.out, decide_eq_false (p := s.size <= 31) (by omega), Bool.and_false]; rfl
  go_enter Tryz.func169, Tryz.ntmps169
  go_wp2
  go_ret
  exact ⟨rfl, rfl⟩
 go_enter Tryz.func169, Tryz.ntmps169
 go_wp2
 go_loop [16] (fun i => ∃ k : Nat, k <= s.size /\ i = .int .i64 k /\ ∀ j (hj : j < s.size), j < k -> okM m.data.toList s[j] = true) (fun i => s.size - (intOf i).toNat)
 case atStart => exact ⟨0, Nat.zero_le _, rfl, fun _ _ h => absurd h (by omega)⟩
 case round =>
  obtain ⟨k, hk, rfl, hall⟩ := hrel
  have HA := Lib.hid hall
  clear hall
  by_cases hlt : k < s.size
  ·have hb := qgh_ s[k]
   have fine : okM m.data.toList s[k] = true -> Hid (∀ j (hj : j < s.size), j < k + 1 -> okM m.data.toList s[j] = true) := fun h j hj hjk => by
    by_cases e : j = k
    ·subst e; exact h
    ·exact HA.out j hj (by omega)
   have bad : okM m.data.toList s[k] = false -> r = false := fun h => by
    rw [HR.out]; unfold madeB; rw [qnu_ s _ k hlt h, Bool.and_false]
   cases hl : letB (s[k].toNat : Int)
   ·cases hd : digB (s[k].toNat : Int)
    ·by_cases hm : 0 <= Lib.indexByte m.data.toList s[k]
     ·have HF := fine (by unfold okM; rw [hl, hd, decide_eq_true hm]; rfl)
      obtain ⟨q, hq⟩ : ∃ q, q = Lib.indexByte m.data.toList s[k] := ⟨_, rfl⟩
      have hq0 : 0 <= q := by rw [hq]; exact hm
      have C1 := Lib.hid (qcs_ s[k].toNat w hb false hl.symm)
      have C2 := Lib.hid (qhj_ s[k].toNat w hb false hd.symm)
      have C3 := Lib.hid (qim_ m s[k] w q hq)
      clear fine bad hl hd hm hq
      go_wp2_with (first | (go_at_call 187; refine C1.out.mono ?_; rintro e w' ⟨rfl, rfl⟩) | (go_at_call 188; refine C2.out.mono ?_; rintro e w' ⟨rfl, rfl⟩) | (go_at_call 189; refine C3.out.mono ?_; rintro e w' ⟨rfl, rfl⟩))
      go_round
      case rel => exact ⟨k + 1, by omega, by go_num, HF⟩
      case measure => simp [intOf]; omega
     ·obtain rfl := bad (by unfold okM; rw [hl, hd, decide_eq_false hm]; rfl)
      obtain ⟨q, hq⟩ : ∃ q, q = Lib.indexByte m.data.toList s[k] := ⟨_, rfl⟩
      have hq0 : q < 0 := by rw [hq]; omega
      have C1 := Lib.hid (qcs_ s[k].toNat w hb false hl.symm)
      have C2 := Lib.hid (qhj_ s[k].toNat w hb false hd.symm)
      have C3 := Lib.hid (qim_ m s[k] w q hq)
      clear fine bad hl hd hm hq
      go_wp2_with (first | (go_at_call 187; refine C1.out.mono ?_; rintro e w' ⟨rfl, rfl⟩) | (go_at_call 188; refine C2.out.mono ?_; rintro e w' ⟨rfl, rfl⟩) | (go_at_call 189; refine C3.out.mono ?_; rintro e w' ⟨rfl, rfl⟩))
      go_ret
      exact ⟨rfl, rfl⟩
    ·have HF := fine (by unfold okM; rw [hl, hd]; rfl)
     have C1 := Lib.hid (qcs_ s[k].toNat w hb false hl.symm)
     have C2 := Lib.hid (qhj_ s[k].toNat w hb true hd.symm)
     clear fine bad hl hd
     go_wp2_with (first | (go_at_call 187; refine C1.out.mono ?_; rintro e w' ⟨rfl, rfl⟩) | (go_at_call 188; refine C2.out.mono ?_; rintro e w' ⟨rfl, rfl⟩))
     go_round
     case rel => exact ⟨k + 1, by omega, by go_num, HF⟩
     case measure => simp [intOf]; omega
   ·have HF := fine (by unfold okM; rw [hl]; rfl)
    have C1 := Lib.hid (qcs_ s[k].toNat w hb true hl.symm)
    clear fine bad hl
    go_wp2_with (go_at_call 187; refine C1.out.mono ?_; rintro e w' ⟨rfl, rfl⟩)
    go_round
    case rel => exact ⟨k + 1, by omega, by go_num, HF⟩
    case measure => simp [intOf]; omega
  ·have HT : r = true := by
    rw [HR.out]; unfold madeB
    rw [L.out, decide_eq_true (by omega), decide_eq_true (by omega), all_at s _ (fun j hj => HA.out j hj (by omega))]; rfl
   obtain rfl := HT
   go_wp2
   go_ret
   exact ⟨rfl, rfl⟩
end Go.Proofs.YtcfinbapfhhpgaaGreatDoor
