/-
  Base, part 6: what the proofs of this claim lean on.
-/
import Derived.Test.YtnopcnbeklbfoaaBase5
import Derived.Test.YtnopcnbeklbfoaaBase4
import Derived.Lib.AppendStr
import Derived.WalkArith
import Derived.Test.YtnopcnbeklbfoaaBase3

/-! Layer 5: the writer as it lies in memory: the structure, the texts, the names' places; what it puts behind them. -/
namespace Go.Proofs.Ytnopcnbeklbfoaa
open Go.RowKit Go.Maps Go.WideMaps
set_option linter.unusedVariables false
set_option linter.unusedSimpArgs false

structure Wr (w : World) (B R m : Nat) (sv tv : Value) (zs ts : List Int) (l : List ByteArray) : Prop where
  rd : w.ownsRow B 104 3 (.slice (some ⟨R, 0, none⟩) 1 1) 1 [sv, tv, .map (some m)]
  srow : w.ownsRow B 5 1 sv zs.length (u8s zs)
  trow : w.ownsRow B 5 1 tv ts.length (u8s ts)
  map : w.ownsMap Try.prog 9 (plainElem Try.prog 22) m l.length (mapT l)
  apart : ∀ g, sv.ownBlock = some g → tv.ownBlock ≠ some g
  sR : sv.ownBlock ≠ some R
  tR : tv.ownBlock ≠ some R
  sm : sv.ownBlock ≠ some m
  tm : tv.ownBlock ≠ some m
  Rm : R ≠ m
  bm : B ≤ m
  sb : ∀ z ∈ zs, 0 ≤ z ∧ z < 256
  tb : ∀ z ∈ ts, 0 ≤ z ∧ z < 256
  base : B ≤ w.heap.size

/-- What the writer leaves of memory: its own blocks alone are others. -/
structure Moved (w w' : World) (B R m : Nat) (sv tv sv' tv' : Value) : Prop where
  below : Below B w w'
  oth : ∀ k, k < w.heap.size → k ≠ R → k ≠ m → sv.ownBlock ≠ some k → tv.ownBlock ≠ some k → w'.heap[k]? = w.heap[k]?
  s : ∀ k, k < w.heap.size → sv'.ownBlock = some k → sv.ownBlock = some k
  t : ∀ k, k < w.heap.size → tv'.ownBlock = some k → tv.ownBlock = some k
theorem Moved.of {w w' : World} {B R m : Nat} {sv tv : Value} (h : Below w.heap.size w w') (hB : B ≤ w.heap.size) : Moved w w' B R m sv tv sv tv :=
  ⟨h.mono hB, fun k hk _ _ _ _ => h.block k hk, fun _ _ e => e, fun _ _ e => e⟩
theorem Moved.trans {w w1 w2 : World} {B R m : Nat} {sv tv sv1 tv1 sv2 tv2 : Value} (h : Moved w w1 B R m sv tv sv1 tv1) (k : Moved w1 w2 B R m sv1 tv1 sv2 tv2) : Moved w w2 B R m sv tv sv2 tv2 :=
  ⟨h.below.trans k.below, fun i hi h1 h2 h3 h4 => (k.oth i (Nat.lt_of_lt_of_le hi h.below.size) h1 h2 (fun e => h3 (h.s i hi e)) (fun e => h4 (h.t i hi e))).trans (h.oth i hi h1 h2 h3 h4), fun i hi e => h.s i hi (k.s i (Nat.lt_of_lt_of_le hi h.below.size) e), fun i hi e => h.t i hi (k.t i (Nat.lt_of_lt_of_le hi h.below.size) e)⟩

section
variable {w w' : World} {B R m : Nat} {sv tv v' : Value} {zs ts ys : List Int} {l : List ByteArray}
theorem Wr.cells (h : Wr w B R m sv tv zs ts l) : w.cell? ⟨R, 0, none⟩ = some sv ∧ w.cell? ⟨R, 1, none⟩ = some tv ∧ w.cell? ⟨R, 2, none⟩ = some (.map (some m)) :=
  ⟨h.rd.cellAt 0 (by omega), h.rd.cellAt 1 (by omega), h.rd.cellAt 2 (by omega)⟩
theorem Wr.free (h : Wr w B R m sv tv zs ts l) (j : Nat) : w.frozen? ⟨R, j, none⟩ = false := h.rd.frozenAt j
theorem Wr.on (h : Wr w B R m sv tv zs ts l) (hg : w.grownBy w' none) : Wr w' B R m sv tv zs ts l :=
  ⟨h.rd.kept hg (own_off (fun _ _ e => by cases e)), h.srow.kept hg (own_off (fun _ _ e => by cases e)), h.trow.kept hg (own_off (fun _ _ e => by cases e)), h.map.kept hg (by simp), h.apart, h.sR, h.tR, h.sm, h.tm, h.Rm, h.bm, h.sb, h.tb, Nat.le_trans h.base hg.size⟩
theorem Wr.under (h : Wr w B R m sv tv zs ts l) (hb : Below w.heap.size w w') : Wr w' B R m sv tv zs ts l := h.on (below_grown hb (Nat.le_refl _))
theorem Wr.lt (h : Wr w B R m sv tv zs ts l) : B ≤ R ∧ R < w.heap.size := h.rd.lt R rfl
theorem where_of {v v' : Value} (hat : v'.ownBlock = v.ownBlock ∨ v'.ownBlock = some w.heap.size) (k : Nat) (hk : k < w.heap.size) (e : v'.ownBlock = some k) : v.ownBlock = some k := by
  rcases hat with h1 | h1
  · rw [← h1]; exact e
  · have := Option.some.inj (e.symm.trans h1); omega
/-- The structure has become another row. -/
theorem Wr.struct (h : Wr w B R m sv tv zs ts l) (hg : Grew w w' B sv v' (zs ++ ys)) (hy : ∀ z ∈ ys, 0 ≤ z ∧ z < 256) :
    Wr (w'.setCell ⟨R, 0, none⟩ v') B R m v' tv (zs ++ ys) ts l ∧ Moved w (w'.setCell ⟨R, 0, none⟩ v') B R m sv tv v' tv ∧ w'.cell? ⟨R, 0, none⟩ = some sv ∧ w'.frozen? ⟨R, 0, none⟩ = false := by
  obtain ⟨hown, k1, hat⟩ := hg
  have hR := h.lt
  have hm := h.map.lt
  have rd1 := h.rd.kept k1 (own_off (fun b e e2 => h.sR (by rw [e2]; exact e.symm ▸ rfl)))
  obtain ⟨rd2, k2⟩ := rd1.stored 0 v'
  have hne : ∀ g, v'.ownBlock = some g → g ≠ R ∧ g ≠ m ∧ tv.ownBlock ≠ some g := fun g e => by
    rcases hat with h1 | h1
    · rw [h1] at e
      exact ⟨fun e2 => h.sR (by rw [e, e2]), fun e2 => h.sm (by rw [e, e2]), h.apart g e⟩
    · have h2 : g = w.heap.size := Option.some.inj (e.symm.trans h1)
      exact ⟨by omega, by omega, fun e2 => by have := (h.trow.lt g e2).2; omega⟩
  have b1 : Below B w w' := (Below.refl B w).grown k1 h.base (fun k e => (h.srow.lt k e).1)
  have hb2 : B ≤ w'.heap.size := Nat.le_trans h.base k1.size
  refine ⟨⟨by simpa using rd2, hown.kept k2 (own_off (fun b e e2 => (hne b e).1 (Option.some.inj e2).symm)), ?_, ?_, fun g e => (hne g e).2.2, fun e => (hne R e).1 rfl, h.tR, fun e => (hne m e).2.1 rfl, h.tm, h.Rm, h.bm, fun z hz => (List.mem_append.1 hz).elim (h.sb z) (hy z), h.tb, Nat.le_trans hb2 k2.size⟩, ⟨b1.grown k2 hb2 (fun k e => by rw [← Option.some.inj e]; exact hR.1), fun k hk h1 _ h3 _ => (k2.block k (Nat.lt_of_lt_of_le hk k1.size) (fun e => h1 (Option.some.inj e))).trans (k1.block k hk (fun e => h3 e.symm)), where_of hat, fun _ _ e => e⟩, rd1.cellAt 0 (by omega), rd1.frozenAt 0⟩
  · exact (h.trow.kept k1 (own_off (fun b e e2 => h.apart b e2 e))).kept k2 (own_off (fun b e e2 => h.tR (by rw [e]; exact e2.symm)))
  · exact (h.map.kept k1 (fun e => h.sm e.symm)).kept k2 (fun e => h.Rm (Option.some.inj e).symm)
/-- The texts have. -/
theorem Wr.texts (h : Wr w B R m sv tv zs ts l) (hg : Grew w w' B tv v' (ts ++ ys)) (hy : ∀ z ∈ ys, 0 ≤ z ∧ z < 256) :
    Wr (w'.setCell ⟨R, 1, none⟩ v') B R m sv v' zs (ts ++ ys) l ∧ Moved w (w'.setCell ⟨R, 1, none⟩ v') B R m sv tv sv v' ∧ w'.cell? ⟨R, 1, none⟩ = some tv ∧ w'.frozen? ⟨R, 1, none⟩ = false := by
  obtain ⟨hown, k1, hat⟩ := hg
  have hR := h.lt
  have hm := h.map.lt
  have rd1 := h.rd.kept k1 (own_off (fun b e e2 => h.tR (by rw [e2]; exact e.symm ▸ rfl)))
  obtain ⟨rd2, k2⟩ := rd1.stored 1 v'
  have hne : ∀ g, v'.ownBlock = some g → g ≠ R ∧ g ≠ m ∧ sv.ownBlock ≠ some g := fun g e => by
    rcases hat with h1 | h1
    · rw [h1] at e
      exact ⟨fun e2 => h.tR (by rw [e, e2]), fun e2 => h.tm (by rw [e, e2]), fun e2 => h.apart g e2 e⟩
    · have h2 : g = w.heap.size := Option.some.inj (e.symm.trans h1)
      exact ⟨by omega, by omega, fun e2 => by have := (h.srow.lt g e2).2; omega⟩
  have b1 : Below B w w' := (Below.refl B w).grown k1 h.base (fun k e => (h.trow.lt k e).1)
  have hb2 : B ≤ w'.heap.size := Nat.le_trans h.base k1.size
  refine ⟨⟨by simpa using rd2, ?_, hown.kept k2 (own_off (fun b e e2 => (hne b e).1 (Option.some.inj e2).symm)), ?_, fun g e e2 => (hne g e2).2.2 e, h.sR, fun e => (hne R e).1 rfl, h.sm, fun e => (hne m e).2.1 rfl, h.Rm, h.bm, h.sb, fun z hz => (List.mem_append.1 hz).elim (h.tb z) (hy z), Nat.le_trans hb2 k2.size⟩, ⟨b1.grown k2 hb2 (fun k e => by rw [← Option.some.inj e]; exact hR.1), fun k hk h1 _ _ h3 => (k2.block k (Nat.lt_of_lt_of_le hk k1.size) (fun e => h1 (Option.some.inj e))).trans (k1.block k hk (fun e => h3 e.symm)), fun _ _ e => e, where_of hat⟩, rd1.cellAt 1 (by omega), rd1.frozenAt 1⟩
  · exact (h.srow.kept k1 (own_off (fun b e e2 => h.apart b e e2))).kept k2 (own_off (fun b e e2 => h.sR (by rw [e]; exact e2.symm)))
  · exact (h.map.kept k1 (fun e => h.tm e.symm)).kept k2 (fun e => h.Rm (Option.some.inj e).symm)
/-- A name's place has been set down. -/
theorem Wr.placed (h : Wr w B R m sv tv zs ts l) (s : ByteArray) (hm : w'.ownsMap Try.prog 9 (plainElem Try.prog 22) m (l.length + 1) ((mapT l).put (keyL s) (.lit (.int .u32 (textSize l : Int))))) (hg : w.grownBy w' (some m)) :
    Wr w' B R m sv tv zs ts (l ++ [s]) ∧ Moved w w' B R m sv tv sv tv := by
  refine ⟨⟨h.rd.kept hg (own_off (fun b e e2 => h.Rm (Option.some.inj (e.trans e2.symm)))), h.srow.kept hg (own_off (fun b e e2 => h.sm (by rw [e]; exact e2.symm))), h.trow.kept hg (own_off (fun b e e2 => h.tm (by rw [e]; exact e2.symm))), ?_, h.apart, h.sR, h.tR, h.sm, h.tm, h.Rm, h.bm, h.sb, h.tb, Nat.le_trans h.base hg.size⟩, ⟨(Below.refl B w).grown hg h.base (fun k e => by rw [← Option.some.inj e]; exact h.bm), fun k hk _ h2 _ _ => hg.block k hk (fun e => h2 (Option.some.inj e)), fun _ _ e => e, fun _ _ e => e⟩⟩
  rw [mapT_snoc]
  simpa using hm
theorem Wr.sval (h : Wr w B R m sv tv zs ts l) : ∃ A c, sv = .slice A zs.length c ∧ zs.length ≤ c ∧ c ≤ 9223372036854775807 := by
  obtain ⟨A, c, e, _, h1, h2⟩ := owned_shows h.srow h.sb
  exact ⟨A, c, e, h1, h2⟩
theorem Wr.tval (h : Wr w B R m sv tv zs ts l) : ∃ A c, tv = .slice A ts.length c ∧ ts.length ≤ c ∧ c ≤ 9223372036854775807 := by
  obtain ⟨A, c, e, _, h1, h2⟩ := owned_shows h.trow h.tb
  exact ⟨A, c, e, h1, h2⟩
theorem Grew.val {w w' : World} {B : Nat} {v v' : Value} {zs : List Int} (h : Grew w w' B v v' zs) : ∃ A c, v' = .slice A zs.length c := by
  rcases h.1.2 with ⟨rfl, h0⟩ | ⟨g, cap, cur, rfl, _⟩
  · exact ⟨none, 0, by rw [h0]⟩
  · exact ⟨_, cap, rfl⟩
end

/-- An append of another type whose run is known, at the operation. -/
theorem wp_append_run2 {P : Program} {w w' : World} {o : Oper} {a : Act} {K : Act → World → Prop} {Q : Exit → Act → World → Prop} {t u : TypeId} (s x : Operand) (ho : o.op = .call { callee := .builtin .append, args := #[s, x], argTypes := #[t, u] })
    (y z : Value) (hs : a.eval s = y) (hx : a.eval x = z) {v : Value} (hr : (Builtin.append_ #[t, u] o.type #[y, z]).run P w = .ok v w') (hK : K (a.put o.dst v) w') : o.wp P a w K Q := by
  unfold Oper.wp execOp
  simp only [ho, resolve, invoke, builtin, Sem.run_bind, Sem.run_pure, Result.andThen_ok, List.map_toArray, List.map_cons, List.map_nil, hs, hx, hr]
  exact hK

set_option maxRecDepth 20000 in
set_option maxHeartbeats 2000000 in
theorem wput_any {w : World} {B R m g k c : Nat} {sv tv : Value} {zs ts : List Int} {l : List ByteArray} (h : Wr w B R m sv tv zs ts l) (vs : List Int) (hk : vs.length = k) (hk3 : k ≤ 100) (hkc : k ≤ c) (hcc : c ≤ 100) (hc : ∀ i (h : i < vs.length), w.cell? ⟨g, i, none⟩ = some (.int .u32 vs[i])) (hg : g < w.heap.size) (hb : ∀ v ∈ vs, 0 ≤ v ∧ v ≤ 4294967295) (hz : zs.length ≤ 1073741824) :
    Calls Try.prog 54 #[.pointer (some ⟨R, 0, none⟩), .slice (some ⟨g, 0, none⟩) k c] w fun e w' => e = .returned (.tuple #[]) ∧ (∃ sv', Wr w' B R m sv' tv (zs ++ foursL vs) ts l ∧ Moved w w' B R m sv tv sv' tv) := by
  obtain ⟨c0, _, _⟩ := h.cells
  obtain ⟨As, cs, rfl, _, _⟩ := h.sval
  have C := Lib.hid (cells_any g k c vs w.drew hk hk3 hkc hcc hc hg hb)
  have H := Lib.hid (h.on (w' := w.drew) ⟨rfl, rfl, rfl, Nat.le_refl _, fun _ _ _ => rfl⟩)
  have HB0 := Lib.hid (Moved.of (R := R) (m := m) (sv := .slice As zs.length cs) (tv := tv) ((Below.refl w.heap.size w).drew) h.base)
  have HFB := Lib.hid (foursL_byte hb)
  have hfl : (foursL vs).length = 4 * k := by rw [foursL_length, hk]
  clear h hc hb
  go_enter Try.func54, Try.ntmps54
  go_wp2_with fail
  refine wp_region_held_drew (S := fun _ => True) (by kernel_rfl) trivial (fun _ => ?_)
  refine held_take 0 rfl (by kernel_rfl) (by kernel_rfl) (by kernel_rfl) (fun _ _ _ h => h) (by rfl) trivial (v := ?_) (fun w hSw => ?_) (fun _ => ?_)
  rotate_left
  · (go_simp; (try with_reducible rfl))
  simp only [Act.put, List.setIfInBounds_toArray, List.set_cons_zero, List.set_cons_succ]
  refine held_take 1 rfl (by kernel_rfl) (by kernel_rfl) (by kernel_rfl) (fun _ _ _ h => h) (by rfl) trivial (v := ?_) (fun w hSw => ?_) (fun _ => ?_)
  rotate_left
  · (go_simp; (try with_reducible rfl))
  simp only [Act.put, List.setIfInBounds_toArray, List.set_cons_zero, List.set_cons_succ]
  refine held_take 2 rfl (by kernel_rfl) (by kernel_rfl) (by kernel_rfl) (fun _ _ _ h => h) (by rfl) trivial (v := ?_) (fun w hSw => ?_) (fun _ => ?_)
  rotate_left
  · (go_simp; (try with_reducible rfl))
  simp only [Act.put, List.setIfInBounds_toArray, List.set_cons_zero, List.set_cons_succ]
  refine held_take 3 rfl (by kernel_rfl) (by kernel_rfl) (by kernel_rfl) (fun _ _ _ h => h) (by rfl) trivial (v := ?_) (fun w hSw => ?_) (fun _ => ?_)
  rotate_left
  · (go_simp; (try with_reducible rfl))
  simp only [Act.put, List.setIfInBounds_toArray, List.set_cons_zero, List.set_cons_succ]
  refine held_take 5 rfl (by kernel_rfl) (by kernel_rfl) (by kernel_rfl) (fun _ _ _ h => h) (by rfl) trivial (v := ?_) (fun w hSw => ?_) (fun _ => ?_)
  rotate_left
  · (go_simp; (try with_reducible rfl))
  simp only [Act.put, List.setIfInBounds_toArray, List.set_cons_zero, List.set_cons_succ]
  refine held_two 4 6 (by kernel_rfl) rfl rfl (by rfl) (by rfl) (fun K hK => ?_) (fun K hK => ?_)
  · go_simp
    refine hK.out _ _ trivial (fun _ => ?_)
    clear hK K
    refine held_call 6 (by kernel_rfl) rfl (by rfl) (fun K hK => ?_)
    go_simp
    refine C.out.mono ?_
    rintro e w5 ⟨A5, c5, rfl, hs5, _, _, hb5⟩
    have H5 := Lib.hid (H.out.under hb5)
    have d0 := H5.out.cells.1
    obtain ⟨v6, w6, hrun, hgrew⟩ := app_shown c5 H5.out.srow hs5 (by omega) H5.out.base 26
    obtain ⟨A6, c6, hv6⟩ := hgrew.val
    obtain ⟨N6, hN6⟩ : ∃ N6, (zs ++ foursL vs).length = N6 := ⟨_, rfl⟩
    rw [hN6] at hv6
    subst hv6
    obtain ⟨hw6, hb6, q6, f6⟩ := H5.out.struct hgrew HFB.out
    have HRUN := Lib.hid hrun
    have HW6 := Lib.hid hw6
    have HB6 := Lib.hid ((HB0.out.trans (Moved.of hb5 H.out.base)).trans hb6)
    clear hs5 hb5 hrun hgrew hw6 hb6 hN6
    dsimp only
    refine hK.out _ _ trivial (fun _ => ?_)
    clear hK K
    refine held_call 7 (by kernel_rfl) rfl (by rfl) (fun K hK => ?_)
    refine wp_append_run (.tmp 8) (.tmp 10) _ rfl _ _ rfl rfl HRUN.out ?_
    simp only [Act.put, List.setIfInBounds_toArray, List.set_cons_zero, List.set_cons_succ]
    refine hK.out _ _ trivial (fun _ => ?_)
    clear hK K
    refine held_take 8 rfl (by kernel_rfl) (by kernel_rfl) (by kernel_rfl) (fun _ _ _ h => h) (by rfl) trivial (v := ?_) (fun w hSw => ?_) (fun _ => ?_)
    rotate_left
    · (go_simp; (try with_reducible rfl))
    simp only [Act.put, List.setIfInBounds_toArray, List.set_cons_zero, List.set_cons_succ]
    refine held_take 9 rfl (by kernel_rfl) (by kernel_rfl) (by kernel_rfl) (fun _ _ _ h => h) (by rfl) trivial (v := ?_) (fun w hSw => ?_) (fun _ => ?_)
    rotate_left
    · (go_simp; (try with_reducible rfl))
    simp only [Act.put, List.setIfInBounds_toArray, List.set_cons_zero, List.set_cons_succ]
    refine held_call 10 (by kernel_rfl) rfl (by rfl) (fun K hK => ?_)
    go_simp
    refine hK.out _ _ trivial (fun _ => ?_)
    clear hK K
    refine wpAnyH_done (by kernel_rfl) ?_ _
    go_wp2
    go_end0
    exact ⟨rfl, _, HW6.out, HB6.out⟩
  · go_simp
    refine C.out.mono ?_
    rintro e w5 ⟨A5, c5, rfl, hs5, _, _, hb5⟩
    have H5 := Lib.hid (H.out.under hb5)
    have d0 := H5.out.cells.1
    obtain ⟨v6, w6, hrun, hgrew⟩ := app_shown c5 H5.out.srow hs5 (by omega) H5.out.base 26
    obtain ⟨A6, c6, hv6⟩ := hgrew.val
    obtain ⟨N6, hN6⟩ : ∃ N6, (zs ++ foursL vs).length = N6 := ⟨_, rfl⟩
    rw [hN6] at hv6
    subst hv6
    obtain ⟨hw6, hb6, q6, f6⟩ := H5.out.struct hgrew HFB.out
    have HRUN := Lib.hid hrun
    have HW6 := Lib.hid hw6
    have HB6 := Lib.hid ((HB0.out.trans (Moved.of hb5 H.out.base)).trans hb6)
    clear hs5 hb5 hrun hgrew hw6 hb6 hN6
    dsimp only
    refine hK.out _ _ trivial (fun _ => ?_)
    clear hK K
    refine held_call 4 (by kernel_rfl) rfl (by rfl) (fun K hK => ?_)
    go_simp
    refine hK.out _ _ trivial (fun _ => ?_)
    clear hK K
    refine held_call 7 (by kernel_rfl) rfl (by rfl) (fun K hK => ?_)
    refine wp_append_run (.tmp 8) (.tmp 10) _ rfl _ _ rfl rfl HRUN.out ?_
    simp only [Act.put, List.setIfInBounds_toArray, List.set_cons_zero, List.set_cons_succ]
    refine hK.out _ _ trivial (fun _ => ?_)
    clear hK K
    refine held_take 8 rfl (by kernel_rfl) (by kernel_rfl) (by kernel_rfl) (fun _ _ _ h => h) (by rfl) trivial (v := ?_) (fun w hSw => ?_) (fun _ => ?_)
    rotate_left
    · (go_simp; (try with_reducible rfl))
    simp only [Act.put, List.setIfInBounds_toArray, List.set_cons_zero, List.set_cons_succ]
    refine held_take 9 rfl (by kernel_rfl) (by kernel_rfl) (by kernel_rfl) (fun _ _ _ h => h) (by rfl) trivial (v := ?_) (fun w hSw => ?_) (fun _ => ?_)
    rotate_left
    · (go_simp; (try with_reducible rfl))
    simp only [Act.put, List.setIfInBounds_toArray, List.set_cons_zero, List.set_cons_succ]
    refine held_call 10 (by kernel_rfl) rfl (by rfl) (fun K hK => ?_)
    go_simp
    refine hK.out _ _ trivial (fun _ => ?_)
    clear hK K
    refine wpAnyH_done (by kernel_rfl) ?_ _
    go_wp2
    go_end0
    exact ⟨rfl, _, HW6.out, HB6.out⟩

set_option maxRecDepth 20000 in
set_option maxHeartbeats 2000000 in
theorem wpad_any {w : World} {B R m : Nat} {sv tv : Value} {zs ts : List Int} {l : List ByteArray} (h : Wr w B R m sv tv zs ts l) (hz : zs.length ≤ 1073741824) :
    Calls Try.prog 67 #[.pointer (some ⟨R, 0, none⟩)] w fun e w' => e = .returned (.tuple #[]) ∧ (∃ sv', Wr w' B R m sv' tv (padL zs) ts l ∧ Moved w w' B R m sv tv sv' tv) := by
  obtain ⟨c0, _, _⟩ := h.cells
  obtain ⟨As, cs, rfl, _, _⟩ := h.sval
  have C := Lib.hid (fun W => padN_any zs.length (zs.length : Int) rfl W (by omega))
  have hpl := padN_lt zs.length
  obtain ⟨v6, w6, hrun, hgrew⟩ := app_zeros (w := w.drew) (B := B) (v := .slice As zs.length cs) (zs := zs) h.srow (padN zs.length) (by omega) h.base 26
  obtain ⟨A6, c6, hv6⟩ := hgrew.val
  obtain ⟨N6, hN6⟩ : ∃ N6, (zs ++ List.replicate (padN zs.length) 0).length = N6 := ⟨_, rfl⟩
  rw [hN6] at hv6
  subst hv6
  obtain ⟨hw6, hb6, q6, f6⟩ := (h.on (w' := w.drew) ⟨rfl, rfl, rfl, Nat.le_refl _, fun _ _ _ => rfl⟩).struct hgrew (fun z hz => by have := List.eq_of_mem_replicate hz; omega)
  have HRUN := Lib.hid hrun
  have HW6 := Lib.hid hw6
  have HB6 := Lib.hid ((Moved.of ((Below.refl w.heap.size w).drew) h.base).trans hb6)
  clear h hrun hgrew hw6 hb6 hN6
  obtain ⟨n, hn⟩ : ∃ n, zs.length = n := ⟨_, rfl⟩
  obtain ⟨p, hp⟩ : ∃ p, padN n = p := ⟨_, rfl⟩
  rw [hn] at c0 C HRUN hz hpl
  rw [hp] at C HRUN hpl
  go_enter Try.func67, Try.ntmps67
  go_wp2_with fail
  refine wp_region_held_drew (S := fun _ => True) (by kernel_rfl) trivial (fun _ => ?_)
  refine held_take 0 rfl (by kernel_rfl) (by kernel_rfl) (by kernel_rfl) (fun _ _ _ h => h) (by rfl) trivial (v := ?_) (fun w hSw => ?_) (fun _ => ?_)
  rotate_left
  · (go_simp; (try with_reducible rfl))
  simp only [Act.put, List.setIfInBounds_toArray, List.set_cons_zero, List.set_cons_succ]
  refine held_take 1 rfl (by kernel_rfl) (by kernel_rfl) (by kernel_rfl) (fun _ _ _ h => h) (by rfl) trivial (v := ?_) (fun w hSw => ?_) (fun _ => ?_)
  rotate_left
  · (go_simp; (try with_reducible rfl))
  simp only [Act.put, List.setIfInBounds_toArray, List.set_cons_zero, List.set_cons_succ]
  refine held_take 2 rfl (by kernel_rfl) (by kernel_rfl) (by kernel_rfl) (fun _ _ _ h => h) (by rfl) trivial (v := ?_) (fun w hSw => ?_) (fun _ => ?_)
  rotate_left
  · (go_simp; (try with_reducible rfl))
  simp only [Act.put, List.setIfInBounds_toArray, List.set_cons_zero, List.set_cons_succ]
  refine held_take 3 rfl (by kernel_rfl) (by kernel_rfl) (by kernel_rfl) (fun _ _ _ h => h) (by rfl) trivial (v := ?_) (fun w hSw => ?_) (fun _ => ?_)
  rotate_left
  · (go_simp; (try with_reducible rfl))
  simp only [Act.put, List.setIfInBounds_toArray, List.set_cons_zero, List.set_cons_succ]
  refine held_take 5 rfl (by kernel_rfl) (by kernel_rfl) (by kernel_rfl) (fun _ _ _ h => h) (by rfl) trivial (v := ?_) (fun w hSw => ?_) (fun _ => ?_)
  rotate_left
  · (go_simp; (try with_reducible rfl))
  simp only [Act.put, List.setIfInBounds_toArray, List.set_cons_zero, List.set_cons_succ]
  refine held_take 6 rfl (by kernel_rfl) (by kernel_rfl) (by kernel_rfl) (fun _ _ _ h => h) (by rfl) trivial (v := ?_) (fun w hSw => ?_) (fun _ => ?_)
  rotate_left
  · (go_simp; (try with_reducible rfl))
  simp only [Act.put, List.setIfInBounds_toArray, List.set_cons_zero, List.set_cons_succ]
  refine held_take 7 rfl (by kernel_rfl) (by kernel_rfl) (by kernel_rfl) (fun _ _ _ h => h) (by rfl) trivial (v := ?_) (fun w hSw => ?_) (fun _ => ?_)
  rotate_left
  · (go_simp; (try with_reducible rfl))
  simp only [Act.put, List.setIfInBounds_toArray, List.set_cons_zero, List.set_cons_succ]
  refine held_two 4 8 (by kernel_rfl) rfl rfl (by rfl) (by rfl) (fun K hK => ?_) (fun K hK => ?_)
  · go_simp
    refine hK.out _ _ trivial (fun _ => ?_)
    clear hK K
    refine held_call 8 (by kernel_rfl) rfl (by rfl) (fun K hK => ?_)
    go_simp
    refine hK.out _ _ trivial (fun _ => ?_)
    clear hK K
    refine held_take 9 rfl (by kernel_rfl) (by kernel_rfl) (by kernel_rfl) (fun _ _ _ h => h) (by rfl) trivial (v := ?_) (fun w hSw => ?_) (fun _ => ?_)
    rotate_left
    · (go_simp; (try with_reducible rfl))
    simp only [Act.put, List.setIfInBounds_toArray, List.set_cons_zero, List.set_cons_succ]
    refine held_call 10 (by kernel_rfl) rfl (by rfl) (fun K hK => ?_)
    go_simp
    refine (C.out _).mono ?_
    rintro e w5 ⟨rfl, rfl⟩
    dsimp only
    refine hK.out _ _ trivial (fun _ => ?_)
    clear hK K
    refine held_call 11 (by kernel_rfl) rfl (by rfl) (fun K hK => ?_)
    refine wp_append_run2 (t := 26) (u := 3) (.tmp 6) (.tmp 12) rfl _ _ rfl rfl HRUN.out ?_
    simp only [Act.put, List.setIfInBounds_toArray, List.set_cons_zero, List.set_cons_succ]
    refine hK.out _ _ trivial (fun _ => ?_)
    clear hK K
    refine held_take 12 rfl (by kernel_rfl) (by kernel_rfl) (by kernel_rfl) (fun _ _ _ h => h) (by rfl) trivial (v := ?_) (fun w hSw => ?_) (fun _ => ?_)
    rotate_left
    · (go_simp; (try with_reducible rfl))
    simp only [Act.put, List.setIfInBounds_toArray, List.set_cons_zero, List.set_cons_succ]
    refine held_take 13 rfl (by kernel_rfl) (by kernel_rfl) (by kernel_rfl) (fun _ _ _ h => h) (by rfl) trivial (v := ?_) (fun w hSw => ?_) (fun _ => ?_)
    rotate_left
    · (go_simp; (try with_reducible rfl))
    simp only [Act.put, List.setIfInBounds_toArray, List.set_cons_zero, List.set_cons_succ]
    refine held_call 14 (by kernel_rfl) rfl (by rfl) (fun K hK => ?_)
    go_simp
    refine hK.out _ _ trivial (fun _ => ?_)
    clear hK K
    refine wpAnyH_done (by kernel_rfl) ?_ _
    go_wp2
    go_end0
    exact ⟨rfl, _, HW6.out, HB6.out⟩
  · go_simp
    refine hK.out _ _ trivial (fun _ => ?_)
    clear hK K
    refine held_take 9 rfl (by kernel_rfl) (by kernel_rfl) (by kernel_rfl) (fun _ _ _ h => h) (by rfl) trivial (v := ?_) (fun w hSw => ?_) (fun _ => ?_)
    rotate_left
    · (go_simp; (try with_reducible rfl))
    simp only [Act.put, List.setIfInBounds_toArray, List.set_cons_zero, List.set_cons_succ]
    refine held_two 4 10 (by kernel_rfl) rfl rfl (by rfl) (by rfl) (fun K hK => ?_) (fun K hK => ?_)
    · go_simp
      refine hK.out _ _ trivial (fun _ => ?_)
      clear hK K
      refine held_call 10 (by kernel_rfl) rfl (by rfl) (fun K hK => ?_)
      go_simp
      refine (C.out _).mono ?_
      rintro e w5 ⟨rfl, rfl⟩
      dsimp only
      refine hK.out _ _ trivial (fun _ => ?_)
      clear hK K
      refine held_call 11 (by kernel_rfl) rfl (by rfl) (fun K hK => ?_)
      refine wp_append_run2 (t := 26) (u := 3) (.tmp 6) (.tmp 12) rfl _ _ rfl rfl HRUN.out ?_
      simp only [Act.put, List.setIfInBounds_toArray, List.set_cons_zero, List.set_cons_succ]
      refine hK.out _ _ trivial (fun _ => ?_)
      clear hK K
      refine held_take 12 rfl (by kernel_rfl) (by kernel_rfl) (by kernel_rfl) (fun _ _ _ h => h) (by rfl) trivial (v := ?_) (fun w hSw => ?_) (fun _ => ?_)
      rotate_left
      · (go_simp; (try with_reducible rfl))
      simp only [Act.put, List.setIfInBounds_toArray, List.set_cons_zero, List.set_cons_succ]
      refine held_take 13 rfl (by kernel_rfl) (by kernel_rfl) (by kernel_rfl) (fun _ _ _ h => h) (by rfl) trivial (v := ?_) (fun w hSw => ?_) (fun _ => ?_)
      rotate_left
      · (go_simp; (try with_reducible rfl))
      simp only [Act.put, List.setIfInBounds_toArray, List.set_cons_zero, List.set_cons_succ]
      refine held_call 14 (by kernel_rfl) rfl (by rfl) (fun K hK => ?_)
      go_simp
      refine hK.out _ _ trivial (fun _ => ?_)
      clear hK K
      refine wpAnyH_done (by kernel_rfl) ?_ _
      go_wp2
      go_end0
      exact ⟨rfl, _, HW6.out, HB6.out⟩
    · go_simp
      refine (C.out _).mono ?_
      rintro e w5 ⟨rfl, rfl⟩
      dsimp only
      refine hK.out _ _ trivial (fun _ => ?_)
      clear hK K
      refine held_call 4 (by kernel_rfl) rfl (by rfl) (fun K hK => ?_)
      go_simp
      refine hK.out _ _ trivial (fun _ => ?_)
      clear hK K
      refine held_call 11 (by kernel_rfl) rfl (by rfl) (fun K hK => ?_)
      refine wp_append_run2 (t := 26) (u := 3) (.tmp 6) (.tmp 12) rfl _ _ rfl rfl HRUN.out ?_
      simp only [Act.put, List.setIfInBounds_toArray, List.set_cons_zero, List.set_cons_succ]
      refine hK.out _ _ trivial (fun _ => ?_)
      clear hK K
      refine held_take 12 rfl (by kernel_rfl) (by kernel_rfl) (by kernel_rfl) (fun _ _ _ h => h) (by rfl) trivial (v := ?_) (fun w hSw => ?_) (fun _ => ?_)
      rotate_left
      · (go_simp; (try with_reducible rfl))
      simp only [Act.put, List.setIfInBounds_toArray, List.set_cons_zero, List.set_cons_succ]
      refine held_take 13 rfl (by kernel_rfl) (by kernel_rfl) (by kernel_rfl) (fun _ _ _ h => h) (by rfl) trivial (v := ?_) (fun w hSw => ?_) (fun _ => ?_)
      rotate_left
      · (go_simp; (try with_reducible rfl))
      simp only [Act.put, List.setIfInBounds_toArray, List.set_cons_zero, List.set_cons_succ]
      refine held_call 14 (by kernel_rfl) rfl (by rfl) (fun K hK => ?_)
      go_simp
      refine hK.out _ _ trivial (fun _ => ?_)
      clear hK K
      refine wpAnyH_done (by kernel_rfl) ?_ _
      go_wp2
      go_end0
      exact ⟨rfl, _, HW6.out, HB6.out⟩
end Go.Proofs.Ytnopcnbeklbfoaa

/-! Layer 5: where in the texts a name begins. -/
namespace Go.Proofs.Ytnopcnbeklbfoaa
open Go.RowKit Go.Maps Go.WideMaps
set_option linter.unusedVariables false
set_option linter.unusedSimpArgs false

theorem textB_addT {l : List ByteArray} {s : ByteArray} (h : hasT l s = false) : addT l s = l ++ [s] ∧ textB (addT l s) = (textB l ++ strB s) ++ [0] ∧ whereL (addT l s) s = textSize l := by
  have e : addT l s = l ++ [s] := by unfold addT; rw [if_neg (by rw [h]; simp)]
  refine ⟨e, by rw [e]; simp [textB], ?_⟩
  rw [e]
  have key : ∀ l : List ByteArray, hasT l s = false → whereL (l ++ [s]) s = textSize l := by
    intro l
    induction l with
    | nil => intro _; simp [whereL, textSize]
    | cons x r ih =>
      intro h
      have h1 : x ≠ s ∧ hasT r s = false := by simpa [hasT] using h
      simp only [List.cons_append, whereL, if_neg h1.1, textSize, ih h1.2]
  exact key l h

/-- What is known behind the store into the map. -/
structure Placed (w : World) (B R m : Nat) (sv : Value) (zs : List Int) (l : List ByteArray) (s : ByteArray) (At : Option Addr) (Nt ct : Nat) (w3 : World) : Prop where
  c1 : w3.cell? ⟨R, 1, none⟩ = some (.slice At Nt ct)
  out : ∃ A5 N5 c5 w5 A6 N6 c6 w6, (Builtin.append_ #[26, 9] 26 #[.slice At Nt ct, .string s]).run Try.prog w3 = .ok (.slice A5 N5 c5) w5 ∧ w5.cell? ⟨R, 1, none⟩ = some (.slice At Nt ct) ∧ w5.frozen? ⟨R, 1, none⟩ = false ∧
    (w5.setCell ⟨R, 1, none⟩ (.slice A5 N5 c5)).cell? ⟨R, 1, none⟩ = some (.slice A5 N5 c5) ∧ R < w5.heap.size ∧
    (Builtin.append_ #[26, 26] 26 #[.slice A5 N5 c5, .slice (some ⟨w5.heap.size, 0, none⟩) 1 1]).run Try.prog ((w5.setCell ⟨R, 1, none⟩ (.slice A5 N5 c5)).alloc (.cells #[.int .u8 0] 5)) = .ok (.slice A6 N6 c6) w6 ∧ w6.cell? ⟨R, 1, none⟩ = some (.slice A5 N5 c5) ∧ w6.frozen? ⟨R, 1, none⟩ = false ∧
    (∃ tv', Wr (w6.setCell ⟨R, 1, none⟩ (.slice A6 N6 c6)) B R m sv tv' zs ((textB l ++ strB s) ++ [0]) (l ++ [s]) ∧ Moved w (w6.setCell ⟨R, 1, none⟩ (.slice A6 N6 c6)) B R m sv (.slice At Nt ct) sv tv')

theorem placed_of {w w3 : World} {B R m Nt ct : Nat} {At : Option Addr} {sv : Value} {zs : List Int} {l : List ByteArray} {s : ByteArray} (h : Wr w B R m sv (.slice At Nt ct) zs (textB l) l) (hsz : textSize l + s.size + 1 ≤ 1073741824)
    (hm : w3.ownsMap Try.prog 9 (plainElem Try.prog 22) m (l.length + 1) ((mapT l).put (keyL s) (.lit (.int .u32 (textSize l : Int))))) (hg : w.grownBy w3 (some m)) : Placed w B R m sv zs l s At Nt ct w3 := by
  have htl := textB_length l
  obtain ⟨h3, b3⟩ := h.placed s hm hg
  refine ⟨h3.cells.2.1, ?_⟩
  obtain ⟨v5, w5, hrun5, hgr5⟩ := app_str h3.trow s (by omega) h3.base 26
  obtain ⟨A5, c5, hv5⟩ := hgr5.val
  obtain ⟨N5, hN5⟩ : ∃ N5, (textB l ++ strB s).length = N5 := ⟨_, rfl⟩
  rw [hN5] at hv5
  subst hv5
  obtain ⟨h5, b5, q5, f5⟩ := h3.texts hgr5 (strB_byte s)
  have h5' := h5.on (World.grownBy_alloc _ (.cells #[.int .u8 0] 5) none)
  have hsh : Shows ((w5.setCell ⟨R, 1, none⟩ (.slice A5 N5 c5)).alloc (.cells #[.int .u8 0] 5)) ((w5.setCell ⟨R, 1, none⟩ (.slice A5 N5 c5)).heap.size + 1) (some ⟨(w5.setCell ⟨R, 1, none⟩ (.slice A5 N5 c5)).heap.size, 0, none⟩) 1 [0] := shows_new _ [0] 1 _ rfl (by simp) rfl _
  obtain ⟨v6, w6, hrun6, hgr6⟩ := app_shown 1 h5'.trow hsh (by simp [strB_length]; omega) h5'.base 26
  obtain ⟨A6, c6, hv6⟩ := hgr6.val
  obtain ⟨N6, hN6⟩ : ∃ N6, ((textB l ++ strB s) ++ [0]).length = N6 := ⟨_, rfl⟩
  rw [hN6] at hv6
  subst hv6
  obtain ⟨h6, b6, q6, f6⟩ := h5'.texts hgr6 (by simp)
  have e5 : (w5.setCell ⟨R, 1, none⟩ (.slice A5 N5 c5)).heap.size = w5.heap.size := by simp
  rw [e5] at hrun6
  refine ⟨A5, N5, c5, w5, A6, N6, c6, w6, hrun5, q5, f5, h5.cells.2.1, ?_, hrun6, q6, f6, _, h6, (b3.trans b5).trans ((Moved.of ((Below.refl _ _).alloc (Nat.le_refl _) _) h5.base).trans b6)⟩
  have := h5.lt.2
  rwa [e5] at this

set_option maxRecDepth 20000 in
set_option maxHeartbeats 2000000 in
theorem place_any {w : World} {B R m : Nat} {sv tv : Value} {zs : List Int} {l : List ByteArray} (h : Wr w B R m sv tv zs (textB l) l) (hn : l.Nodup) (hll : l.length ≤ 1073741824) (s : ByteArray) (hs : s.size ≤ 140737488351232) (hsz : textSize l + s.size + 1 ≤ 1073741824) :
    Calls Try.prog 84 #[.pointer (some ⟨R, 0, none⟩), .string s] w fun e w' => e = .returned (.int .u32 (whereL (addT l s) s : Nat)) ∧ (∃ tv', Wr w' B R m sv tv' zs (textB (addT l s)) (addT l s) ∧ Moved w w' B R m sv tv sv tv') := by
  obtain ⟨_, c1, c2⟩ := h.cells
  obtain ⟨At, ct, rfl, _, _⟩ := h.tval
  have htl := textB_length l
  have HK := Lib.hid (key_ok hs)
  have HM := Lib.hid h.map
  have zeroU : ∀ w : World, (zeroValue 22).run Try.prog w = .ok (.int .u32 0) w := fun w => by kernel_rfl
  have f1 := h.free 1
  cases hh : hasT l s with
  | true =>
    have ea : addT l s = l := if_pos hh
    rw [ea]
    have hhas : Maps.has (mapT l) (keyL s) = true := by rw [mapT_has, hh]
    have HAT := Lib.hid (mapT_at (.lit (.int .u32 0)) hh hn)
    have HW := Lib.hid h
    have HB := Lib.hid (Moved.of (R := R) (m := m) (sv := sv) (tv := .slice At (textB l).length ct) (Below.refl w.heap.size w) h.base)
    clear h hh ea
    go_enter Try.func84, Try.ntmps84
    go_wp2_with (first | (at_lookup; refine wpList_lookup_own_ok_int _ rfl _ _ 102 rfl 9 22 .u32 lawS Try.underlying102 Try.underlying22 (zeroU _) m _ _ rfl HM.out _ _ rfl HK.out ?_; intro c hat hwc) | fail)
    go_ret
    have hc : c = (whereL l s : Nat) := by
      have := hat.symm.trans HAT.out
      simpa using this
    rw [hc]
    exact ⟨rfl, _, HW.out, HB.out⟩
  | false =>
    obtain ⟨ea, eb, ec⟩ := textB_addT hh
    rw [eb, ec, ea]
    have hhas : Maps.has (mapT l) (keyL s) = false := by rw [mapT_has, hh]
    have hconv : IntKind.u32.wrap (textSize l : Int) = (textSize l : Int) := IntWalk.u32_in _ (by omega)
    have PL := Lib.hid (fun (w3 : World) hm hg => placed_of (w3 := w3) h hsz hm hg)
    have HWF : (Lit.int .u32 (textSize l : Int)).wf = true := WalkArith.wf_u32 (by omega)
    have HV := Lib.hid (plainElem_int (H := Unit) Try.underlying22 HWF)
    rw [htl] at c1 PL ⊢
    obtain ⟨T, hT⟩ : ∃ T, textSize l = T := ⟨_, rfl⟩
    rw [hT] at c1 PL HV hconv hsz ⊢
    clear h hh ea eb ec HWF htl
    have hT1 : T ≤ 1073741824 := by omega
    go_enter Try.func84, Try.ntmps84
    go_wp2_with (first | (at_lookup; refine wpList_lookup_own_ok_int _ rfl _ _ 102 rfl 9 22 .u32 lawS Try.underlying102 Try.underlying22 (zeroU _) m _ _ rfl HM.out _ _ rfl HK.out ?_; intro c hat hwc) | (at_mapUpdate; refine wpList_mapUpdate_own _ rfl _ _ _ 102 rfl 9 22 lawS Try.underlying102 (plainElem Try.prog 22) m _ _ rfl HM.out (by unfold maxLen; omega) _ _ _ rfl rfl HK.out _ [] HV.out ?_; intro w3 hown3 hgrow3; obtain ⟨p1, A5, N5, c5, w5, A6, N6, c6, w6, r5, q5, f5, p5, lt5, r6, q6, f6, hw6⟩ := PL.out w3 hown3 hgrow3; have R5 := Lib.hid r5; have R6 := Lib.hid r6; have HW6 := Lib.hid hw6; clear r5 r6 hw6 hown3 hgrow3) | (at_builtin; refine Lib.wpList_append_run _ rfl _ _ _ _ rfl _ _ rfl rfl _ _ R5.out ?_) | (at_builtin; refine Lib.wpList_append_run_sl _ rfl _ _ 26 rfl _ _ rfl rfl R6.out ?_) | fail)
    go_ret
    exact ⟨rfl, HW6.out⟩
end Go.Proofs.Ytnopcnbeklbfoaa

/-! Layer 5: a property is written. -/
namespace Go.Proofs.Ytnopcnbeklbfoaa
open Go.RowKit Go.Maps Go.WideMaps
set_option linter.unusedVariables false
set_option linter.unusedSimpArgs false

theorem padL_app {a b : List Int} (h : a.length % 4 = 0) : padL (a ++ b) = a ++ padL b := by
  have e : padN (a ++ b).length = padN b.length := by rw [List.length_append]; unfold padN; omega
  rw [padL, e, List.append_assoc, padL]
theorem padL_mod (b : List Int) : (padL b).length % 4 = 0 := by rw [padL_length]; unfold padN; omega
theorem propT_mod (L : List ByteArray) (p : PV) : (propT L p).length % 4 = 0 := by
  have := padL_mod p.zs
  simp only [propT, List.length_append, List.length_cons, List.length_nil, four]
  omega
theorem three_cells (a b : Int) : foursL [3, a, b] = [0, 0, 0, 3] ++ (four a ++ four b) := by
  have e : four 3 = [0, 0, 0, 3] := by decide
  simp only [foursL, List.flatMap_cons, List.flatMap_nil, List.append_nil, e]

theorem three_at (w : World) (a b c : Int) (i : Nat) (h : i < [a, b, c].length) : (w.alloc (.cells #[.int .u32 a, .int .u32 b, .int .u32 c] 22)).cell? ⟨w.heap.size, i, none⟩ = some (.int .u32 [a, b, c][i]) := by
  match i, h with
  | 0, _ => exact World.cell?_alloc_new _ _ _ _
  | 1, _ => exact World.cell?_alloc_new _ _ _ _
  | 2, _ => exact World.cell?_alloc_new _ _ _ _
theorem three_b (k wh : Nat) (hk : k ≤ 4294967295) (hw : wh ≤ 4294967295) : ∀ v ∈ [3, (k : Int), (wh : Int)], 0 ≤ v ∧ v ≤ 4294967295 := by
  intro v hv
  simp only [List.mem_cons, List.not_mem_nil, or_false] at hv
  rcases hv with rfl | rfl | rfl <;> omega

/-- A block that the call made ahead is another than the writer's. -/
theorem Moved.cell {w w' : World} {B R m : Nat} {sv tv sv' tv' : Value} (h : Moved w w' B R m sv tv sv' tv') (a : Addr) (ha : a.block < w.heap.size) (h1 : a.block ≠ R) (h2 : a.block ≠ m) (h3 : sv.ownBlock ≠ some a.block) (h4 : tv.ownBlock ≠ some a.block) : w'.cell? a = w.cell? a :=
  World.cell?_of_block (h.oth _ ha h1 h2 h3 h4)

set_option maxRecDepth 20000 in
set_option maxHeartbeats 4000000 in
theorem wprop_any {w : World} {B R m : Nat} {sv tv : Value} {zs : List Int} {l L : List ByteArray} (h : Wr w B R m sv tv zs (textB l) l) (hn : l.Nodup) (hll : l.length ≤ 1073741824) (p : PV) (hp : p.In w B) (hL : addT l p.name <+: L) (h4 : zs.length % 4 = 0) (hz : zs.length + heftP p ≤ 1073741824) (hsz : textSize l + heftP p ≤ 1073741824) :
    Calls Try.prog 68 #[.pointer (some ⟨R, 0, none⟩), .agg #[.string p.name, p.val]] w fun e w' =>
      (e = .returned (.int .i64 0) ∧ ∃ sv' tv', Wr w' B R m sv' tv' (zs ++ propT L p) (textB (addT l p.name)) (addT l p.name) ∧ Moved w w' B R m sv tv sv' tv') ∨ (e = .returned (.int .i64 7) ∧ 1048576 < zs.length + p.zs.length ∧ Below B w w') := by
  have hpl : heftP p = 16 + p.name.size + p.zs.length := rfl
  have h0 := h.on (World.grownBy_alloc w (.cells #[.string p.name, .slice p.addr p.zs.length p.cap] 52) none)
  have hM0 : Moved w (w.alloc (.cells #[.string p.name, .slice p.addr p.zs.length p.cap] 52)) B R m sv tv sv tv := Moved.of ((Below.refl _ _).alloc (Nat.le_refl _) _) h.base
  have hR := h.lt
  have hm := h.map.lt
  have PF := Lib.hid (fun (W : World) (sv' tv' : Value) (hM : Moved (w.alloc (.cells #[.string p.name, .slice p.addr p.zs.length p.cap] 52)) W B R m sv tv sv' tv') =>
    have cc := fun (i : Nat) => (hM.cell ⟨w.heap.size, i, none⟩ (by simp) (by show w.heap.size ≠ R; omega) (by show w.heap.size ≠ m; omega) (fun e => by have := (h.srow.lt _ e).2; exact absurd this (Nat.lt_irrefl _)) (fun e => by have := (h.trow.lt _ e).2; exact absurd this (Nat.lt_irrefl _))).trans (World.cell?_alloc_new w #[.string p.name, .slice p.addr p.zs.length p.cap] 52 i)
    (⟨cc 0, cc 1⟩ : W.cell? ⟨w.heap.size, 0, none⟩ = some (.string p.name) ∧ W.cell? ⟨w.heap.size, 1, none⟩ = some (.slice p.addr p.zs.length p.cap)))
  have HV := Lib.hid hp.2.1
  obtain ⟨As, cs, rfl, _, _⟩ := h.sval
  obtain ⟨c0, _, _⟩ := h0.cells
  have HM0 := Lib.hid hM0
  have H0 := Lib.hid h0
  have hN : p.name.size ≤ 140737488351232 := hp.1.1
  obtain ⟨n, hnl⟩ : ∃ n, zs.length = n := ⟨_, rfl⟩
  obtain ⟨k, hkl⟩ : ∃ k, p.zs.length = k := ⟨_, rfl⟩
  show Calls _ _ #[_, .agg #[.string p.name, .slice p.addr p.zs.length p.cap]] _ _
  by_cases hfar : (1048576 : Int) - (n : Int) < (k : Int)
  · have HF := Lib.hid (show 1048576 < zs.length + k by omega)
    have HB := Lib.hid hM0.below
    rw [hnl] at c0
    rw [hkl]
    have hn2 : n ≤ 1073741824 := by omega
    have hk2 : k ≤ 1073741824 := by omega
    rw [hkl] at PF HB c0
    clear h h0 hM0 HM0 H0 hnl hkl hz hsz h4
    go_enter Try.func68, Try.ntmps68
    go_wp2
    go_quiet (fail)
    go_wp2
    go_ret
    exact .inr ⟨rfl, HF.out, HB.out.trans (drew_below _ _ _)⟩
  · have hgt : ¬ ((1048576 : Int) - (n : Int) < (k : Int)) := hfar
    have hk20 : k ≤ 1048576 := by omega
    have hconv : IntKind.u32.wrap (k : Int) = (k : Int) := IntWalk.u32_in _ (by omega)
    have hfl : (foursL [3, (k : Int), ((whereL (addT l p.name) p.name : Nat) : Int)]).length = 12 := by rw [foursL_length]; rfl
    have C := Lib.hid (fun q => place_any (h0.on (w' := ((w.alloc (.cells #[.string p.name, .slice p.addr p.zs.length p.cap] 52)).drewN q).drew) ⟨rfl, rfl, rfl, Nat.le_refl _, fun _ _ _ => rfl⟩) hn hll p.name hN (by omega))
    have HM0d : Hid (∀ q, Moved (w.alloc (.cells #[.string p.name, .slice p.addr p.zs.length p.cap] 52)) ((w.alloc (.cells #[.string p.name, .slice p.addr p.zs.length p.cap] 52)).drewN q).drew B R m (.slice As zs.length cs) tv (.slice As zs.length cs) tv) := Lib.hid (fun q => Moved.of ((drew_below _ _ q).trans ((Below.refl _ _).drew)) h0.base)
    have hwl : whereL (addT l p.name) p.name ≤ 1073741824 := by
      have h1 := whereL_le (addT l p.name) p.name
      have h2 := addT_size l p.name
      omega
    have HLW := Lib.hid (whereL_pre hL (addT_has l p.name))
    have HKL := Lib.hid hkl
    have HBV := Lib.hid hp.2.1.2.1
    have HH4 := Lib.hid h4
    have HNL := Lib.hid hnl
    rw [hnl] at c0 C HM0d PF HM0
    have hzn : n + 16 + k ≤ 1073741824 := by omega
    rw [hkl] at PF C HM0 HM0d HV c0 ⊢
    obtain ⟨wh, hwh⟩ : ∃ wh, whereL (addT l p.name) p.name = wh := ⟨_, rfl⟩
    rw [hwh] at C hwl HLW hfl
    obtain ⟨p0, p1⟩ := PF.out _ _ _ (Moved.of (Below.refl _ _) (Nat.le_trans h.base (by simp)))
    have hbw : B ≤ w.heap.size := h.base
    clear h h0 hM0 hnl hkl hz hsz h4 hp hN hL hwh hR hm
    go_enter Try.func68, Try.ntmps68
    go_wp2
    go_quiet (fail)
    go_wp2_with fail
    refine wp_region_held_drew (S := fun _ => True) (by kernel_rfl) trivial (fun _ => ?_)
    refine held_take 0 rfl (by kernel_rfl) (by kernel_rfl) (by kernel_rfl) (fun _ _ _ h => h) (by rfl) trivial (v := ?_) (fun w hSw => ?_) (fun _ => ?_)
    rotate_left
    · (go_simp; (try with_reducible rfl))
    simp only [Act.put, List.setIfInBounds_toArray, List.set_cons_zero, List.set_cons_succ]
    refine held_take 1 rfl (by kernel_rfl) (by kernel_rfl) (by kernel_rfl) (fun _ _ _ h => h) (by rfl) trivial (v := ?_) (fun w hSw => ?_) (fun _ => ?_)
    rotate_left
    · (go_simp; (try with_reducible rfl))
    simp only [Act.put, List.setIfInBounds_toArray, List.set_cons_zero, List.set_cons_succ]
    refine held_take 5 rfl (by kernel_rfl) (by kernel_rfl) (by kernel_rfl) (fun _ _ _ h => h) (by rfl) trivial (v := ?_) (fun w hSw => ?_) (fun _ => ?_)
    rotate_left
    · (go_simp; (try with_reducible rfl))
    simp only [Act.put, List.setIfInBounds_toArray, List.set_cons_zero, List.set_cons_succ]
    refine held_take 6 rfl (by kernel_rfl) (by kernel_rfl) (by kernel_rfl) (fun _ _ _ h => h) (by rfl) trivial (v := ?_) (fun w hSw => ?_) (fun _ => ?_)
    rotate_left
    · (go_simp; (try with_reducible rfl))
    simp only [Act.put, List.setIfInBounds_toArray, List.set_cons_zero, List.set_cons_succ]
    refine held_two 2 7 (by kernel_rfl) rfl rfl (by rfl) (by rfl) (fun K hK => ?_) (fun K hK => ?_)
    · go_simp
      refine hK.out _ _ trivial (fun _ => ?_)
      clear hK K
      refine held_take 3 rfl (by kernel_rfl) (by kernel_rfl) (by kernel_rfl) (fun _ _ _ h => h) (by rfl) trivial (v := ?_) (fun w hSw => ?_) (fun _ => ?_)
      rotate_left
      · (go_simp; (try with_reducible rfl))
      simp only [Act.put, List.setIfInBounds_toArray, List.set_cons_zero, List.set_cons_succ]
      refine held_take 4 rfl (by kernel_rfl) (by kernel_rfl) (by kernel_rfl) (fun _ _ _ h => h) (by rfl) trivial (v := ?_) (fun w hSw => ?_) (fun _ => ?_)
      rotate_left
      · (go_simp; (try with_reducible rfl))
      simp only [Act.put, List.setIfInBounds_toArray, List.set_cons_zero, List.set_cons_succ]
      refine held_call 7 (by kernel_rfl) rfl (by rfl) (fun K hK => ?_)
      go_simp
      refine hK.out _ _ trivial (fun _ => ?_)
      clear hK K
      refine held_call 8 (by kernel_rfl) rfl (by rfl) (fun K hK => ?_)
      go_simp
      refine (C.out _).mono ?_
      rintro e w5 ⟨rfl, tv1, hw5, hm5⟩
      have HW5 := Lib.hid hw5
      have HM5 := Lib.hid ((HM0d.out _).trans hm5)
      clear p0 p1
      obtain ⟨p0, p1⟩ := PF.out _ _ _ HM5.out
      clear hw5 hm5
      dsimp only
      refine hK.out _ _ trivial (fun _ => ?_)
      clear hK K
      refine held_call 9 (by kernel_rfl) rfl (by rfl) (fun K hK => ?_)
      go_simp
      refine hK.out _ _ trivial (fun _ => ?_)
      clear hK K
      refine held_call 10 (by kernel_rfl) rfl (by rfl) (fun K hK => ?_)
      go_simp
      refine (wput_any (k := 3) (c := 3) (w := w5.alloc (.cells #[.int .u32 3, .int .u32 (k : Int), .int .u32 (wh : Int)] 22)) (HW5.out.on (World.grownBy_alloc _ _ _)) [3, (k : Int), (wh : Int)] rfl (by omega) (by omega) (by omega) (three_at w5 3 k wh) (by simp) (three_b k wh (by omega) (by omega)) (by rw [HNL.out]; omega)).mono ?_
      rintro e w7 ⟨rfl, sv1, hw7, hm7⟩
      have HW7 := Lib.hid hw7
      have HM7 := Lib.hid ((HM5.out.trans (Moved.of ((Below.refl _ _).alloc (Nat.le_refl _) _) HW5.out.base)).trans hm7)
      clear p0 p1
      obtain ⟨_, p1⟩ := PF.out _ _ _ HM7.out
      clear hw7 hm7
      dsimp only
      refine hK.out _ _ trivial (fun _ => ?_)
      clear hK K
      refine wpAnyH_done (by kernel_rfl) ?_ _
      have hvs := HV.out.below (HM0.out.trans HM7.out).below
      obtain ⟨As1, cs1, hs1, _, _⟩ := HW7.out.sval
      obtain ⟨N1, hN1⟩ : ∃ N1, (zs ++ foursL [3, (k : Int), (wh : Int)]).length = N1 := ⟨_, rfl⟩
      rw [hN1] at hs1
      subst hs1
      have d0 := HW7.out.cells.1
      obtain ⟨v9, w9, hrun, hgrew⟩ := app_shown (w := w7.drew) p.cap (HW7.out.on (w' := w7.drew) ⟨rfl, rfl, rfl, Nat.le_refl _, fun _ _ _ => rfl⟩).srow (hvs.keep (w' := w7.drew) (fun _ _ => rfl)) (by rw [hN1, HKL.out]; rw [List.length_append, hfl, HNL.out] at hN1; omega) HW7.out.base 26
      obtain ⟨A9, c9, hv9⟩ := hgrew.val
      obtain ⟨N9, hN9⟩ : ∃ N9, ((zs ++ foursL [3, (k : Int), (wh : Int)]) ++ p.zs).length = N9 := ⟨_, rfl⟩
      rw [hN9] at hv9
      subst hv9
      obtain ⟨hw9, hm9, q9, f9⟩ := (HW7.out.on (w' := w7.drew) ⟨rfl, rfl, rfl, Nat.le_refl _, fun _ _ _ => rfl⟩).struct hgrew HBV.out
      have HRUN := Lib.hid hrun
      have HW9 := Lib.hid hw9
      have HM9 := Lib.hid ((HM7.out.trans (Moved.of ((Below.refl w7.heap.size w7).drew) HW7.out.base)).trans hm9)
      clear hvs hrun hgrew hw9 hm9 hN1 hN9
      go_wp2_with fail
      refine wp_region_held_drew (S := fun _ => True) (by kernel_rfl) trivial (fun _ => ?_)
      refine held_take 0 rfl (by kernel_rfl) (by kernel_rfl) (by kernel_rfl) (fun _ _ _ h => h) (by rfl) trivial (v := ?_) (fun w hSw => ?_) (fun _ => ?_)
      rotate_left
      · (go_simp; (try with_reducible rfl))
      simp only [Act.put, List.setIfInBounds_toArray, List.set_cons_zero, List.set_cons_succ]
      refine held_take 1 rfl (by kernel_rfl) (by kernel_rfl) (by kernel_rfl) (fun _ _ _ h => h) (by rfl) trivial (v := ?_) (fun w hSw => ?_) (fun _ => ?_)
      rotate_left
      · (go_simp; (try with_reducible rfl))
      simp only [Act.put, List.setIfInBounds_toArray, List.set_cons_zero, List.set_cons_succ]
      refine held_take 2 rfl (by kernel_rfl) (by kernel_rfl) (by kernel_rfl) (fun _ _ _ h => h) (by rfl) trivial (v := ?_) (fun w hSw => ?_) (fun _ => ?_)
      rotate_left
      · (go_simp; (try with_reducible rfl))
      simp only [Act.put, List.setIfInBounds_toArray, List.set_cons_zero, List.set_cons_succ]
      refine held_take 3 rfl (by kernel_rfl) (by kernel_rfl) (by kernel_rfl) (fun _ _ _ h => h) (by rfl) trivial (v := ?_) (fun w hSw => ?_) (fun _ => ?_)
      rotate_left
      · (go_simp; (try with_reducible rfl))
      simp only [Act.put, List.setIfInBounds_toArray, List.set_cons_zero, List.set_cons_succ]
      refine held_take 5 rfl (by kernel_rfl) (by kernel_rfl) (by kernel_rfl) (fun _ _ _ h => h) (by rfl) trivial (v := ?_) (fun w hSw => ?_) (fun _ => ?_)
      rotate_left
      · (go_simp; (try with_reducible rfl))
      simp only [Act.put, List.setIfInBounds_toArray, List.set_cons_zero, List.set_cons_succ]
      refine held_two 4 6 (by kernel_rfl) rfl rfl (by rfl) (by rfl) (fun K hK => ?_) (fun K hK => ?_)
      · go_simp
        refine hK.out _ _ trivial (fun _ => ?_)
        clear hK K
        refine held_call 6 (by kernel_rfl) rfl (by rfl) (fun K hK => ?_)
        go_simp
        refine hK.out _ _ trivial (fun _ => ?_)
        clear hK K
        refine held_call 7 (by kernel_rfl) rfl (by rfl) (fun K hK => ?_)
        refine wp_append_run (.tmp 30) (.tmp 32) _ rfl _ _ rfl rfl HRUN.out ?_
        simp only [Act.put, List.setIfInBounds_toArray, List.set_cons_zero, List.set_cons_succ]
        refine hK.out _ _ trivial (fun _ => ?_)
        clear hK K
        refine held_take 8 rfl (by kernel_rfl) (by kernel_rfl) (by kernel_rfl) (fun _ _ _ h => h) (by rfl) trivial (v := ?_) (fun w hSw => ?_) (fun _ => ?_)
        rotate_left
        · (go_simp; (try with_reducible rfl))
        simp only [Act.put, List.setIfInBounds_toArray, List.set_cons_zero, List.set_cons_succ]
        refine held_take 9 rfl (by kernel_rfl) (by kernel_rfl) (by kernel_rfl) (fun _ _ _ h => h) (by rfl) trivial (v := ?_) (fun w hSw => ?_) (fun _ => ?_)
        rotate_left
        · (go_simp; (try with_reducible rfl))
        simp only [Act.put, List.setIfInBounds_toArray, List.set_cons_zero, List.set_cons_succ]
        refine held_call 10 (by kernel_rfl) rfl (by rfl) (fun K hK => ?_)
        go_simp
        refine hK.out _ _ trivial (fun _ => ?_)
        clear hK K
        refine wpAnyH_done (by kernel_rfl) ?_ _
        go_wp2_with fail
        refine (wpad_any HW9.out (by simp only [List.length_append, foursL_length, HNL.out, HKL.out]; simp; omega)).mono ?_
        rintro e w10 ⟨rfl, sv10, hw10, hm10⟩
        have HW10 := Lib.hid hw10
        have HM10 := Lib.hid (HM9.out.trans hm10)
        clear hw10 hm10
        go_wp2
        go_ret
        refine .inl ⟨rfl, sv10, tv1, ?_, by rw [HNL.out]; exact HM0.out.trans HM10.out⟩
        have := HW10.out
        rwa [padL_app (by rw [List.length_append, foursL_length, List.length_cons, List.length_cons, List.length_singleton]; have := HH4.out; omega), List.append_assoc, three_cells, ← HLW.out, ← HKL.out, List.append_assoc, List.append_assoc] at this
      · go_simp
        refine hK.out _ _ trivial (fun _ => ?_)
        clear hK K
        refine held_call 4 (by kernel_rfl) rfl (by rfl) (fun K hK => ?_)
        go_simp
        refine hK.out _ _ trivial (fun _ => ?_)
        clear hK K
        refine held_call 7 (by kernel_rfl) rfl (by rfl) (fun K hK => ?_)
        refine wp_append_run (.tmp 30) (.tmp 32) _ rfl _ _ rfl rfl HRUN.out ?_
        simp only [Act.put, List.setIfInBounds_toArray, List.set_cons_zero, List.set_cons_succ]
        refine hK.out _ _ trivial (fun _ => ?_)
        clear hK K
        refine held_take 8 rfl (by kernel_rfl) (by kernel_rfl) (by kernel_rfl) (fun _ _ _ h => h) (by rfl) trivial (v := ?_) (fun w hSw => ?_) (fun _ => ?_)
        rotate_left
        · (go_simp; (try with_reducible rfl))
        simp only [Act.put, List.setIfInBounds_toArray, List.set_cons_zero, List.set_cons_succ]
        refine held_take 9 rfl (by kernel_rfl) (by kernel_rfl) (by kernel_rfl) (fun _ _ _ h => h) (by rfl) trivial (v := ?_) (fun w hSw => ?_) (fun _ => ?_)
        rotate_left
        · (go_simp; (try with_reducible rfl))
        simp only [Act.put, List.setIfInBounds_toArray, List.set_cons_zero, List.set_cons_succ]
        refine held_call 10 (by kernel_rfl) rfl (by rfl) (fun K hK => ?_)
        go_simp
        refine hK.out _ _ trivial (fun _ => ?_)
        clear hK K
        refine wpAnyH_done (by kernel_rfl) ?_ _
        go_wp2_with fail
        refine (wpad_any HW9.out (by simp only [List.length_append, foursL_length, HNL.out, HKL.out]; simp; omega)).mono ?_
        rintro e w10 ⟨rfl, sv10, hw10, hm10⟩
        have HW10 := Lib.hid hw10
        have HM10 := Lib.hid (HM9.out.trans hm10)
        clear hw10 hm10
        go_wp2
        go_ret
        refine .inl ⟨rfl, sv10, tv1, ?_, by rw [HNL.out]; exact HM0.out.trans HM10.out⟩
        have := HW10.out
        rwa [padL_app (by rw [List.length_append, foursL_length, List.length_cons, List.length_cons, List.length_singleton]; have := HH4.out; omega), List.append_assoc, three_cells, ← HLW.out, ← HKL.out, List.append_assoc, List.append_assoc] at this
    · go_simp
      refine hK.out _ _ trivial (fun _ => ?_)
      clear hK K
      refine held_two 2 8 (by kernel_rfl) rfl rfl (by rfl) (by rfl) (fun K hK => ?_) (fun K hK => ?_)
      · go_simp
        refine hK.out _ _ trivial (fun _ => ?_)
        clear hK K
        refine held_take 3 rfl (by kernel_rfl) (by kernel_rfl) (by kernel_rfl) (fun _ _ _ h => h) (by rfl) trivial (v := ?_) (fun w hSw => ?_) (fun _ => ?_)
        rotate_left
        · (go_simp; (try with_reducible rfl))
        simp only [Act.put, List.setIfInBounds_toArray, List.set_cons_zero, List.set_cons_succ]
        refine held_take 4 rfl (by kernel_rfl) (by kernel_rfl) (by kernel_rfl) (fun _ _ _ h => h) (by rfl) trivial (v := ?_) (fun w hSw => ?_) (fun _ => ?_)
        rotate_left
        · (go_simp; (try with_reducible rfl))
        simp only [Act.put, List.setIfInBounds_toArray, List.set_cons_zero, List.set_cons_succ]
        refine held_call 8 (by kernel_rfl) rfl (by rfl) (fun K hK => ?_)
        go_simp
        refine (C.out _).mono ?_
        rintro e w5 ⟨rfl, tv1, hw5, hm5⟩
        have HW5 := Lib.hid hw5
        have HM5 := Lib.hid ((HM0d.out _).trans hm5)
        clear p0 p1
        obtain ⟨p0, p1⟩ := PF.out _ _ _ HM5.out
        clear hw5 hm5
        dsimp only
        refine hK.out _ _ trivial (fun _ => ?_)
        clear hK K
        refine held_call 9 (by kernel_rfl) rfl (by rfl) (fun K hK => ?_)
        go_simp
        refine hK.out _ _ trivial (fun _ => ?_)
        clear hK K
        refine held_call 10 (by kernel_rfl) rfl (by rfl) (fun K hK => ?_)
        go_simp
        refine (wput_any (k := 3) (c := 3) (w := w5.alloc (.cells #[.int .u32 3, .int .u32 (k : Int), .int .u32 (wh : Int)] 22)) (HW5.out.on (World.grownBy_alloc _ _ _)) [3, (k : Int), (wh : Int)] rfl (by omega) (by omega) (by omega) (three_at w5 3 k wh) (by simp) (three_b k wh (by omega) (by omega)) (by rw [HNL.out]; omega)).mono ?_
        rintro e w7 ⟨rfl, sv1, hw7, hm7⟩
        have HW7 := Lib.hid hw7
        have HM7 := Lib.hid ((HM5.out.trans (Moved.of ((Below.refl _ _).alloc (Nat.le_refl _) _) HW5.out.base)).trans hm7)
        clear p0 p1
        obtain ⟨_, p1⟩ := PF.out _ _ _ HM7.out
        clear hw7 hm7
        dsimp only
        refine hK.out _ _ trivial (fun _ => ?_)
        clear hK K
        refine wpAnyH_done (by kernel_rfl) ?_ _
        have hvs := HV.out.below (HM0.out.trans HM7.out).below
        obtain ⟨As1, cs1, hs1, _, _⟩ := HW7.out.sval
        obtain ⟨N1, hN1⟩ : ∃ N1, (zs ++ foursL [3, (k : Int), (wh : Int)]).length = N1 := ⟨_, rfl⟩
        rw [hN1] at hs1
        subst hs1
        have d0 := HW7.out.cells.1
        obtain ⟨v9, w9, hrun, hgrew⟩ := app_shown (w := w7.drew) p.cap (HW7.out.on (w' := w7.drew) ⟨rfl, rfl, rfl, Nat.le_refl _, fun _ _ _ => rfl⟩).srow (hvs.keep (w' := w7.drew) (fun _ _ => rfl)) (by rw [hN1, HKL.out]; rw [List.length_append, hfl, HNL.out] at hN1; omega) HW7.out.base 26
        obtain ⟨A9, c9, hv9⟩ := hgrew.val
        obtain ⟨N9, hN9⟩ : ∃ N9, ((zs ++ foursL [3, (k : Int), (wh : Int)]) ++ p.zs).length = N9 := ⟨_, rfl⟩
        rw [hN9] at hv9
        subst hv9
        obtain ⟨hw9, hm9, q9, f9⟩ := (HW7.out.on (w' := w7.drew) ⟨rfl, rfl, rfl, Nat.le_refl _, fun _ _ _ => rfl⟩).struct hgrew HBV.out
        have HRUN := Lib.hid hrun
        have HW9 := Lib.hid hw9
        have HM9 := Lib.hid ((HM7.out.trans (Moved.of ((Below.refl w7.heap.size w7).drew) HW7.out.base)).trans hm9)
        clear hvs hrun hgrew hw9 hm9 hN1 hN9
        go_wp2_with fail
        refine wp_region_held_drew (S := fun _ => True) (by kernel_rfl) trivial (fun _ => ?_)
        refine held_take 0 rfl (by kernel_rfl) (by kernel_rfl) (by kernel_rfl) (fun _ _ _ h => h) (by rfl) trivial (v := ?_) (fun w hSw => ?_) (fun _ => ?_)
        rotate_left
        · (go_simp; (try with_reducible rfl))
        simp only [Act.put, List.setIfInBounds_toArray, List.set_cons_zero, List.set_cons_succ]
        refine held_take 1 rfl (by kernel_rfl) (by kernel_rfl) (by kernel_rfl) (fun _ _ _ h => h) (by rfl) trivial (v := ?_) (fun w hSw => ?_) (fun _ => ?_)
        rotate_left
        · (go_simp; (try with_reducible rfl))
        simp only [Act.put, List.setIfInBounds_toArray, List.set_cons_zero, List.set_cons_succ]
        refine held_take 2 rfl (by kernel_rfl) (by kernel_rfl) (by kernel_rfl) (fun _ _ _ h => h) (by rfl) trivial (v := ?_) (fun w hSw => ?_) (fun _ => ?_)
        rotate_left
        · (go_simp; (try with_reducible rfl))
        simp only [Act.put, List.setIfInBounds_toArray, List.set_cons_zero, List.set_cons_succ]
        refine held_take 3 rfl (by kernel_rfl) (by kernel_rfl) (by kernel_rfl) (fun _ _ _ h => h) (by rfl) trivial (v := ?_) (fun w hSw => ?_) (fun _ => ?_)
        rotate_left
        · (go_simp; (try with_reducible rfl))
        simp only [Act.put, List.setIfInBounds_toArray, List.set_cons_zero, List.set_cons_succ]
        refine held_take 5 rfl (by kernel_rfl) (by kernel_rfl) (by kernel_rfl) (fun _ _ _ h => h) (by rfl) trivial (v := ?_) (fun w hSw => ?_) (fun _ => ?_)
        rotate_left
        · (go_simp; (try with_reducible rfl))
        simp only [Act.put, List.setIfInBounds_toArray, List.set_cons_zero, List.set_cons_succ]
        refine held_two 4 6 (by kernel_rfl) rfl rfl (by rfl) (by rfl) (fun K hK => ?_) (fun K hK => ?_)
        · go_simp
          refine hK.out _ _ trivial (fun _ => ?_)
          clear hK K
          refine held_call 6 (by kernel_rfl) rfl (by rfl) (fun K hK => ?_)
          go_simp
          refine hK.out _ _ trivial (fun _ => ?_)
          clear hK K
          refine held_call 7 (by kernel_rfl) rfl (by rfl) (fun K hK => ?_)
          refine wp_append_run (.tmp 30) (.tmp 32) _ rfl _ _ rfl rfl HRUN.out ?_
          simp only [Act.put, List.setIfInBounds_toArray, List.set_cons_zero, List.set_cons_succ]
          refine hK.out _ _ trivial (fun _ => ?_)
          clear hK K
          refine held_take 8 rfl (by kernel_rfl) (by kernel_rfl) (by kernel_rfl) (fun _ _ _ h => h) (by rfl) trivial (v := ?_) (fun w hSw => ?_) (fun _ => ?_)
          rotate_left
          · (go_simp; (try with_reducible rfl))
          simp only [Act.put, List.setIfInBounds_toArray, List.set_cons_zero, List.set_cons_succ]
          refine held_take 9 rfl (by kernel_rfl) (by kernel_rfl) (by kernel_rfl) (fun _ _ _ h => h) (by rfl) trivial (v := ?_) (fun w hSw => ?_) (fun _ => ?_)
          rotate_left
          · (go_simp; (try with_reducible rfl))
          simp only [Act.put, List.setIfInBounds_toArray, List.set_cons_zero, List.set_cons_succ]
          refine held_call 10 (by kernel_rfl) rfl (by rfl) (fun K hK => ?_)
          go_simp
          refine hK.out _ _ trivial (fun _ => ?_)
          clear hK K
          refine wpAnyH_done (by kernel_rfl) ?_ _
          go_wp2_with fail
          refine (wpad_any HW9.out (by simp only [List.length_append, foursL_length, HNL.out, HKL.out]; simp; omega)).mono ?_
          rintro e w10 ⟨rfl, sv10, hw10, hm10⟩
          have HW10 := Lib.hid hw10
          have HM10 := Lib.hid (HM9.out.trans hm10)
          clear hw10 hm10
          go_wp2
          go_ret
          refine .inl ⟨rfl, sv10, tv1, ?_, by rw [HNL.out]; exact HM0.out.trans HM10.out⟩
          have := HW10.out
          rwa [padL_app (by rw [List.length_append, foursL_length, List.length_cons, List.length_cons, List.length_singleton]; have := HH4.out; omega), List.append_assoc, three_cells, ← HLW.out, ← HKL.out, List.append_assoc, List.append_assoc] at this
        · go_simp
          refine hK.out _ _ trivial (fun _ => ?_)
          clear hK K
          refine held_call 4 (by kernel_rfl) rfl (by rfl) (fun K hK => ?_)
          go_simp
          refine hK.out _ _ trivial (fun _ => ?_)
          clear hK K
          refine held_call 7 (by kernel_rfl) rfl (by rfl) (fun K hK => ?_)
          refine wp_append_run (.tmp 30) (.tmp 32) _ rfl _ _ rfl rfl HRUN.out ?_
          simp only [Act.put, List.setIfInBounds_toArray, List.set_cons_zero, List.set_cons_succ]
          refine hK.out _ _ trivial (fun _ => ?_)
          clear hK K
          refine held_take 8 rfl (by kernel_rfl) (by kernel_rfl) (by kernel_rfl) (fun _ _ _ h => h) (by rfl) trivial (v := ?_) (fun w hSw => ?_) (fun _ => ?_)
          rotate_left
          · (go_simp; (try with_reducible rfl))
          simp only [Act.put, List.setIfInBounds_toArray, List.set_cons_zero, List.set_cons_succ]
          refine held_take 9 rfl (by kernel_rfl) (by kernel_rfl) (by kernel_rfl) (fun _ _ _ h => h) (by rfl) trivial (v := ?_) (fun w hSw => ?_) (fun _ => ?_)
          rotate_left
          · (go_simp; (try with_reducible rfl))
          simp only [Act.put, List.setIfInBounds_toArray, List.set_cons_zero, List.set_cons_succ]
          refine held_call 10 (by kernel_rfl) rfl (by rfl) (fun K hK => ?_)
          go_simp
          refine hK.out _ _ trivial (fun _ => ?_)
          clear hK K
          refine wpAnyH_done (by kernel_rfl) ?_ _
          go_wp2_with fail
          refine (wpad_any HW9.out (by simp only [List.length_append, foursL_length, HNL.out, HKL.out]; simp; omega)).mono ?_
          rintro e w10 ⟨rfl, sv10, hw10, hm10⟩
          have HW10 := Lib.hid hw10
          have HM10 := Lib.hid (HM9.out.trans hm10)
          clear hw10 hm10
          go_wp2
          go_ret
          refine .inl ⟨rfl, sv10, tv1, ?_, by rw [HNL.out]; exact HM0.out.trans HM10.out⟩
          have := HW10.out
          rwa [padL_app (by rw [List.length_append, foursL_length, List.length_cons, List.length_cons, List.length_singleton]; have := HH4.out; omega), List.append_assoc, three_cells, ← HLW.out, ← HKL.out, List.append_assoc, List.append_assoc] at this
      · go_simp
        refine (C.out _).mono ?_
        rintro e w5 ⟨rfl, tv1, hw5, hm5⟩
        have HW5 := Lib.hid hw5
        have HM5 := Lib.hid ((HM0d.out _).trans hm5)
        clear p0 p1
        obtain ⟨p0, p1⟩ := PF.out _ _ _ HM5.out
        clear hw5 hm5
        dsimp only
        refine hK.out _ _ trivial (fun _ => ?_)
        clear hK K
        refine held_call 2 (by kernel_rfl) rfl (by rfl) (fun K hK => ?_)
        go_simp
        refine hK.out _ _ trivial (fun _ => ?_)
        clear hK K
        refine held_take 3 rfl (by kernel_rfl) (by kernel_rfl) (by kernel_rfl) (fun _ _ _ h => h) (by rfl) trivial (v := ?_) (fun w hSw => ?_) (fun _ => ?_)
        rotate_left
        · (go_simp; (try with_reducible rfl))
        simp only [Act.put, List.setIfInBounds_toArray, List.set_cons_zero, List.set_cons_succ]
        refine held_take 4 rfl (by kernel_rfl) (by kernel_rfl) (by kernel_rfl) (fun _ _ _ h => h) (by rfl) trivial (v := ?_) (fun w hSw => ?_) (fun _ => ?_)
        rotate_left
        · (go_simp; (try with_reducible rfl))
        simp only [Act.put, List.setIfInBounds_toArray, List.set_cons_zero, List.set_cons_succ]
        refine held_call 9 (by kernel_rfl) rfl (by rfl) (fun K hK => ?_)
        go_simp
        refine hK.out _ _ trivial (fun _ => ?_)
        clear hK K
        refine held_call 10 (by kernel_rfl) rfl (by rfl) (fun K hK => ?_)
        go_simp
        refine (wput_any (k := 3) (c := 3) (w := w5.alloc (.cells #[.int .u32 3, .int .u32 (k : Int), .int .u32 (wh : Int)] 22)) (HW5.out.on (World.grownBy_alloc _ _ _)) [3, (k : Int), (wh : Int)] rfl (by omega) (by omega) (by omega) (three_at w5 3 k wh) (by simp) (three_b k wh (by omega) (by omega)) (by rw [HNL.out]; omega)).mono ?_
        rintro e w7 ⟨rfl, sv1, hw7, hm7⟩
        have HW7 := Lib.hid hw7
        have HM7 := Lib.hid ((HM5.out.trans (Moved.of ((Below.refl _ _).alloc (Nat.le_refl _) _) HW5.out.base)).trans hm7)
        clear p0 p1
        obtain ⟨_, p1⟩ := PF.out _ _ _ HM7.out
        clear hw7 hm7
        dsimp only
        refine hK.out _ _ trivial (fun _ => ?_)
        clear hK K
        refine wpAnyH_done (by kernel_rfl) ?_ _
        have hvs := HV.out.below (HM0.out.trans HM7.out).below
        obtain ⟨As1, cs1, hs1, _, _⟩ := HW7.out.sval
        obtain ⟨N1, hN1⟩ : ∃ N1, (zs ++ foursL [3, (k : Int), (wh : Int)]).length = N1 := ⟨_, rfl⟩
        rw [hN1] at hs1
        subst hs1
        have d0 := HW7.out.cells.1
        obtain ⟨v9, w9, hrun, hgrew⟩ := app_shown (w := w7.drew) p.cap (HW7.out.on (w' := w7.drew) ⟨rfl, rfl, rfl, Nat.le_refl _, fun _ _ _ => rfl⟩).srow (hvs.keep (w' := w7.drew) (fun _ _ => rfl)) (by rw [hN1, HKL.out]; rw [List.length_append, hfl, HNL.out] at hN1; omega) HW7.out.base 26
        obtain ⟨A9, c9, hv9⟩ := hgrew.val
        obtain ⟨N9, hN9⟩ : ∃ N9, ((zs ++ foursL [3, (k : Int), (wh : Int)]) ++ p.zs).length = N9 := ⟨_, rfl⟩
        rw [hN9] at hv9
        subst hv9
        obtain ⟨hw9, hm9, q9, f9⟩ := (HW7.out.on (w' := w7.drew) ⟨rfl, rfl, rfl, Nat.le_refl _, fun _ _ _ => rfl⟩).struct hgrew HBV.out
        have HRUN := Lib.hid hrun
        have HW9 := Lib.hid hw9
        have HM9 := Lib.hid ((HM7.out.trans (Moved.of ((Below.refl w7.heap.size w7).drew) HW7.out.base)).trans hm9)
        clear hvs hrun hgrew hw9 hm9 hN1 hN9
        go_wp2_with fail
        refine wp_region_held_drew (S := fun _ => True) (by kernel_rfl) trivial (fun _ => ?_)
        refine held_take 0 rfl (by kernel_rfl) (by kernel_rfl) (by kernel_rfl) (fun _ _ _ h => h) (by rfl) trivial (v := ?_) (fun w hSw => ?_) (fun _ => ?_)
        rotate_left
        · (go_simp; (try with_reducible rfl))
        simp only [Act.put, List.setIfInBounds_toArray, List.set_cons_zero, List.set_cons_succ]
        refine held_take 1 rfl (by kernel_rfl) (by kernel_rfl) (by kernel_rfl) (fun _ _ _ h => h) (by rfl) trivial (v := ?_) (fun w hSw => ?_) (fun _ => ?_)
        rotate_left
        · (go_simp; (try with_reducible rfl))
        simp only [Act.put, List.setIfInBounds_toArray, List.set_cons_zero, List.set_cons_succ]
        refine held_take 2 rfl (by kernel_rfl) (by kernel_rfl) (by kernel_rfl) (fun _ _ _ h => h) (by rfl) trivial (v := ?_) (fun w hSw => ?_) (fun _ => ?_)
        rotate_left
        · (go_simp; (try with_reducible rfl))
        simp only [Act.put, List.setIfInBounds_toArray, List.set_cons_zero, List.set_cons_succ]
        refine held_take 3 rfl (by kernel_rfl) (by kernel_rfl) (by kernel_rfl) (fun _ _ _ h => h) (by rfl) trivial (v := ?_) (fun w hSw => ?_) (fun _ => ?_)
        rotate_left
        · (go_simp; (try with_reducible rfl))
        simp only [Act.put, List.setIfInBounds_toArray, List.set_cons_zero, List.set_cons_succ]
        refine held_take 5 rfl (by kernel_rfl) (by kernel_rfl) (by kernel_rfl) (fun _ _ _ h => h) (by rfl) trivial (v := ?_) (fun w hSw => ?_) (fun _ => ?_)
        rotate_left
        · (go_simp; (try with_reducible rfl))
        simp only [Act.put, List.setIfInBounds_toArray, List.set_cons_zero, List.set_cons_succ]
        refine held_two 4 6 (by kernel_rfl) rfl rfl (by rfl) (by rfl) (fun K hK => ?_) (fun K hK => ?_)
        · go_simp
          refine hK.out _ _ trivial (fun _ => ?_)
          clear hK K
          refine held_call 6 (by kernel_rfl) rfl (by rfl) (fun K hK => ?_)
          go_simp
          refine hK.out _ _ trivial (fun _ => ?_)
          clear hK K
          refine held_call 7 (by kernel_rfl) rfl (by rfl) (fun K hK => ?_)
          refine wp_append_run (.tmp 30) (.tmp 32) _ rfl _ _ rfl rfl HRUN.out ?_
          simp only [Act.put, List.setIfInBounds_toArray, List.set_cons_zero, List.set_cons_succ]
          refine hK.out _ _ trivial (fun _ => ?_)
          clear hK K
          refine held_take 8 rfl (by kernel_rfl) (by kernel_rfl) (by kernel_rfl) (fun _ _ _ h => h) (by rfl) trivial (v := ?_) (fun w hSw => ?_) (fun _ => ?_)
          rotate_left
          · (go_simp; (try with_reducible rfl))
          simp only [Act.put, List.setIfInBounds_toArray, List.set_cons_zero, List.set_cons_succ]
          refine held_take 9 rfl (by kernel_rfl) (by kernel_rfl) (by kernel_rfl) (fun _ _ _ h => h) (by rfl) trivial (v := ?_) (fun w hSw => ?_) (fun _ => ?_)
          rotate_left
          · (go_simp; (try with_reducible rfl))
          simp only [Act.put, List.setIfInBounds_toArray, List.set_cons_zero, List.set_cons_succ]
          refine held_call 10 (by kernel_rfl) rfl (by rfl) (fun K hK => ?_)
          go_simp
          refine hK.out _ _ trivial (fun _ => ?_)
          clear hK K
          refine wpAnyH_done (by kernel_rfl) ?_ _
          go_wp2_with fail
          refine (wpad_any HW9.out (by simp only [List.length_append, foursL_length, HNL.out, HKL.out]; simp; omega)).mono ?_
          rintro e w10 ⟨rfl, sv10, hw10, hm10⟩
          have HW10 := Lib.hid hw10
          have HM10 := Lib.hid (HM9.out.trans hm10)
          clear hw10 hm10
          go_wp2
          go_ret
          refine .inl ⟨rfl, sv10, tv1, ?_, by rw [HNL.out]; exact HM0.out.trans HM10.out⟩
          have := HW10.out
          rwa [padL_app (by rw [List.length_append, foursL_length, List.length_cons, List.length_cons, List.length_singleton]; have := HH4.out; omega), List.append_assoc, three_cells, ← HLW.out, ← HKL.out, List.append_assoc, List.append_assoc] at this
        · go_simp
          refine hK.out _ _ trivial (fun _ => ?_)
          clear hK K
          refine held_call 4 (by kernel_rfl) rfl (by rfl) (fun K hK => ?_)
          go_simp
          refine hK.out _ _ trivial (fun _ => ?_)
          clear hK K
          refine held_call 7 (by kernel_rfl) rfl (by rfl) (fun K hK => ?_)
          refine wp_append_run (.tmp 30) (.tmp 32) _ rfl _ _ rfl rfl HRUN.out ?_
          simp only [Act.put, List.setIfInBounds_toArray, List.set_cons_zero, List.set_cons_succ]
          refine hK.out _ _ trivial (fun _ => ?_)
          clear hK K
          refine held_take 8 rfl (by kernel_rfl) (by kernel_rfl) (by kernel_rfl) (fun _ _ _ h => h) (by rfl) trivial (v := ?_) (fun w hSw => ?_) (fun _ => ?_)
          rotate_left
          · (go_simp; (try with_reducible rfl))
          simp only [Act.put, List.setIfInBounds_toArray, List.set_cons_zero, List.set_cons_succ]
          refine held_take 9 rfl (by kernel_rfl) (by kernel_rfl) (by kernel_rfl) (fun _ _ _ h => h) (by rfl) trivial (v := ?_) (fun w hSw => ?_) (fun _ => ?_)
          rotate_left
          · (go_simp; (try with_reducible rfl))
          simp only [Act.put, List.setIfInBounds_toArray, List.set_cons_zero, List.set_cons_succ]
          refine held_call 10 (by kernel_rfl) rfl (by rfl) (fun K hK => ?_)
          go_simp
          refine hK.out _ _ trivial (fun _ => ?_)
          clear hK K
          refine wpAnyH_done (by kernel_rfl) ?_ _
          go_wp2_with fail
          refine (wpad_any HW9.out (by simp only [List.length_append, foursL_length, HNL.out, HKL.out]; simp; omega)).mono ?_
          rintro e w10 ⟨rfl, sv10, hw10, hm10⟩
          have HW10 := Lib.hid hw10
          have HM10 := Lib.hid (HM9.out.trans hm10)
          clear hw10 hm10
          go_wp2
          go_ret
          refine .inl ⟨rfl, sv10, tv1, ?_, by rw [HNL.out]; exact HM0.out.trans HM10.out⟩
          have := HW10.out
          rwa [padL_app (by rw [List.length_append, foursL_length, List.length_cons, List.length_cons, List.length_singleton]; have := HH4.out; omega), List.append_assoc, three_cells, ← HLW.out, ← HKL.out, List.append_assoc, List.append_assoc] at this
end Go.Proofs.Ytnopcnbeklbfoaa

/-! Layer 5: a node is written. -/
namespace Go.Proofs.Ytnopcnbeklbfoaa
open Go.RowKit Go.Maps Go.WideMaps
set_option linter.unusedVariables false
set_option linter.unusedSimpArgs false

theorem len_textSize : ∀ l : List ByteArray, l.length ≤ textSize l
  | [] => Nat.le_refl _
  | x :: r => by have := len_textSize r; simp only [List.length_cons, textSize]; omega
theorem flat_take_le {α : Type} (f : α → List Int) (l : List α) (j : Nat) : ((l.take j).flatMap f).length ≤ (l.flatMap f).length := by
  conv => rhs; rw [← List.take_append_drop j l, List.flatMap_append, List.length_append]
  omega
theorem nodeL_take_le (L : List ByteArray) (ks : List Nd) (j : Nat) : (nodeL L (ks.take j)).length ≤ (nodeL L ks).length := by
  conv => rhs; rw [← List.take_append_drop j ks, nodeL_append, List.length_append]
  omega
theorem textsL_size : ∀ (ks : List Nd) (l : List ByteArray), textSize (textsL ks l) ≤ textSize l + heftL ks
  | [], l => by simp [textsL, heftL]
  | k :: r, l => by
    have h1 := textsN_size k l
    have h2 := textsL_size r (textsN k l)
    simp only [textsL, heftL]
    omega
theorem propT_len (L : List ByteArray) (p : PV) : p.zs.length ≤ (propT L p).length := by
  simp only [propT, List.length_append, padL_length]; omega
/-- A node's beginning. -/
def headN (nm : ByteArray) : List Int := [0, 0, 0, 1] ++ padL (strB nm ++ [0])
theorem headN_len (nm : ByteArray) : (headN nm).length ≤ 8 + nm.size ∧ (headN nm).length % 4 = 0 := by
  have h1 := padL_mod (strB nm ++ [0])
  have h2 := padL_length (strB nm ++ [0])
  have h3 := padN_lt (strB nm ++ [0]).length
  simp only [headN, List.length_append, List.length_cons, List.length_nil, strB_length] at h1 h2 h3 ⊢
  omega
theorem nodeN_parts (L : List ByteArray) (nm : ByteArray) (pa : Option Addr) (pc : Nat) (ps : List PV) (ka : Option Addr) (kc : Nat) (ks : List Nd) : nodeN L (.mk nm pa pc ps ka kc ks) = headN nm ++ ps.flatMap (propT L) ++ nodeL L ks ++ [0, 0, 0, 2] := rfl
theorem props_mod (L : List ByteArray) : ∀ ps : List PV, (ps.flatMap (propT L)).length % 4 = 0
  | [] => rfl
  | p :: r => by
    have h1 := propT_mod L p
    have h2 := props_mod L r
    rw [List.flatMap_cons, List.length_append]; omega
theorem nodeN_mod (L : List ByteArray) : ∀ n : Nd, (nodeN L n).length % 4 = 0 := by
  refine Nd.ind ?_
  intro n ih
  obtain ⟨nm, pa, pc, ps, ka, kc, ks⟩ := n
  have hl : ∀ (r : List Nd), (∀ k ∈ r, k ∈ ks) → (nodeL L r).length % 4 = 0 := by
    intro r
    induction r with
    | nil => intro _; rfl
    | cons k r ihr =>
      intro hr
      have h1 := ih k (hr k (by simp))
      have h2 := ihr (fun x hx => hr x (by simp [hx]))
      simp only [nodeL, List.length_append]; omega
  have h1 := hl ks (fun _ h => h)
  have h2 := props_mod L ps
  have h3 := (headN_len nm).2
  rw [nodeN_parts]
  simp only [List.length_append, List.length_cons, List.length_nil]
  omega
theorem nodeL_mod (L : List ByteArray) : ∀ ks : List Nd, (nodeL L ks).length % 4 = 0
  | [] => rfl
  | k :: r => by
    have h1 := nodeN_mod L k
    have h2 := nodeL_mod L r
    simp only [nodeL, List.length_append]; omega
theorem one_cell (v : Int) : foursL [v] = four v := by simp [foursL]
theorem one_at (w : World) (a : Int) (i : Nat) (h : i < [a].length) : (w.alloc (.cells #[.int .u32 a] 22)).cell? ⟨w.heap.size, i, none⟩ = some (.int .u32 [a][i]) := by
  match i, h with
  | 0, _ => exact World.cell?_alloc_new _ _ _ _

theorem one_at' (w : World) (g : Nat) (hg : g = w.heap.size) (a : Int) (i : Nat) (h : i < [a].length) : (w.alloc (.cells #[.int .u32 a] 22)).cell? ⟨g, i, none⟩ = some (.int .u32 [a][i]) := by
  subst hg; exact one_at w a i h

/-- What writeNode answers. -/
def WOut (w : World) (B R m : Nat) (sv tv : Value) (zs : List Int) (l : List ByteArray) (ys : List Int) (l' : List ByteArray) (e : Ending) (w' : World) : Prop :=
  (e = .returned (.int .i64 0) ∧ ∃ sv' tv', Wr w' B R m sv' tv' (zs ++ ys) (textB l') l' ∧ Moved w w' B R m sv tv sv' tv') ∨ (e = .returned (.int .i64 7) ∧ 1048576 < zs.length + ys.length ∧ Below B w w')

set_option maxRecDepth 20000 in
set_option maxHeartbeats 4000000 in
theorem wnode_any (L : List ByteArray) : ∀ (n : Nd) (w : World) (B R m : Nat) (sv tv : Value) (zs : List Int) (l : List ByteArray), Wr w B R m sv tv zs (textB l) l → l.Nodup → n.In w B → textsN n l <+: L → zs.length % 4 = 0 → zs.length + heftN n ≤ 1073741824 → textSize l + heftN n ≤ 1073741824 →
    Calls Try.prog 53 #[.pointer (some ⟨R, 0, none⟩), n.val] w fun e w' => WOut w B R m sv tv zs l (nodeN L n) (textsN n l) e w' := by
  refine Nd.ind ?_
  intro n ih w B R m sv tv zs l h hn hin hL h4 hz hsz
  obtain ⟨nm, pa, pc, ps, ka, kc, ks⟩ := n
  have HI := Lib.hid hin
  have IH := Lib.hid ih
  obtain ⟨hl, hm⟩ : ks.length ≤ kc ∧ kc ≤ 9223372036854775807 := hin.klen
  obtain ⟨hl2, hm2⟩ : ps.length ≤ pc ∧ pc ≤ 9223372036854775807 := hin.plen
  have hhe : heftN (.mk nm pa pc ps ka kc ks) = 16 + nm.size + (ps.map heftP).sum + heftL ks := rfl
  rw [hhe] at hz hsz
  have hLL : textsL ks ((ps.map PV.name).foldl addT l) <+: L := hL
  have h0 := h.on (World.grownBy_alloc w (.cells #[.string nm, .slice pa ps.length pc, .slice ka ks.length kc] 38) none)
  have hM0 : Moved w (w.alloc (.cells #[.string nm, .slice pa ps.length pc, .slice ka ks.length kc] 38)) B R m sv tv sv tv := Moved.of ((Below.refl _ _).alloc (Nat.le_refl _) _) h.base
  have hR := h.lt
  have hmm := h.map.lt
  have PF := Lib.hid (fun (W : World) (sv' tv' : Value) (hM : Moved (w.alloc (.cells #[.string nm, .slice pa ps.length pc, .slice ka ks.length kc] 38)) W B R m sv tv sv' tv') =>
    have cc := fun (i : Nat) => (hM.cell ⟨w.heap.size, i, none⟩ (by simp) (by show w.heap.size ≠ R; omega) (by show w.heap.size ≠ m; omega) (fun e => by have := (h.srow.lt _ e).2; exact absurd this (Nat.lt_irrefl _)) (fun e => by have := (h.trow.lt _ e).2; exact absurd this (Nat.lt_irrefl _))).trans (World.cell?_alloc_new w #[.string nm, .slice pa ps.length pc, .slice ka ks.length kc] 38 i)
    (⟨cc 0, cc 1, cc 2⟩ : W.cell? ⟨w.heap.size, 0, none⟩ = some (.string nm) ∧ W.cell? ⟨w.heap.size, 1, none⟩ = some (.slice pa ps.length pc) ∧ W.cell? ⟨w.heap.size, 2, none⟩ = some (.slice ka ks.length kc)))
  have H0 := Lib.hid h0
  have HM0 := Lib.hid hM0
  have HN := Lib.hid hn
  have HL := Lib.hid hLL
  have HH4 := Lib.hid h4
  have hhn := headN_len nm
  clear h hin ih h0 hM0 hn hL hLL h4 hR hmm hhe
  show Calls _ _ #[_, .agg #[.string nm, .slice pa ps.length pc, .slice ka ks.length kc]] _ _
  go_enter Try.func53, Try.ntmps53
  go_wp2_with fail
  have CP := Lib.hid (wput_any (k := 1) (c := 1) (g := w.heap.size + 1) (w := (w.alloc (.cells #[.string nm, .slice pa ps.length pc, .slice ka ks.length kc] 38)).alloc (.cells #[.int .u32 1] 22)) (H0.out.on (World.grownBy_alloc _ _ _)) [1] rfl (by omega) (by omega) (by omega) (one_at' (w.alloc (.cells #[.string nm, .slice pa ps.length pc, .slice ka ks.length kc] 38)) (w.heap.size + 1) (by simp) 1) (by simp) (by simp) (by omega))
  refine CP.out.mono ?_
  rintro e w1 ⟨rfl, sv1, hw1, hm1⟩
  have HM1 := Lib.hid ((Moved.of (R := R) (m := m) (sv := sv) (tv := tv) ((Below.refl ((w.alloc (.cells #[.string nm, .slice pa ps.length pc, .slice ka ks.length kc] 38))).heap.size (w.alloc (.cells #[.string nm, .slice pa ps.length pc, .slice ka ks.length kc] 38))).alloc (Nat.le_refl _) (.cells #[.int .u32 1] 22)) H0.out.base).trans hm1)
  obtain ⟨p0, _, _⟩ := PF.out _ _ _ HM1.out
  obtain ⟨A1, c1, hs1, _, _⟩ := hw1.sval
  obtain ⟨N1, hN1⟩ : ∃ N1, (zs ++ foursL [1]).length = N1 := ⟨_, rfl⟩
  have hfl1 : N1 ≤ zs.length + 4 := by rw [← hN1, List.length_append, foursL_length]; exact Nat.le_refl _
  rw [hN1] at hs1
  subst hs1
  have d0 := hw1.cells.1
  -- the name
  obtain ⟨v2, w2, hrun2, hgr2⟩ := app_str (w := w1.drew) (hw1.on (w' := w1.drew) ⟨rfl, rfl, rfl, Nat.le_refl _, fun _ _ _ => rfl⟩).srow nm (by rw [hN1]; omega) hw1.base 26
  obtain ⟨A2, c2, hv2⟩ := hgr2.val
  obtain ⟨N2, hN2⟩ : ∃ N2, ((zs ++ foursL [1]) ++ strB nm).length = N2 := ⟨_, rfl⟩
  have hfl2 : N2 ≤ N1 + nm.size := by rw [← hN2, List.length_append, hN1, strB_length]; exact Nat.le_refl _
  rw [hN2] at hv2
  subst hv2
  obtain ⟨hw2, hm2', q2, f2⟩ := (hw1.on (w' := w1.drew) ⟨rfl, rfl, rfl, Nat.le_refl _, fun _ _ _ => rfl⟩).struct hgr2 (strB_byte nm)
  -- a nought
  have hsh : Shows ((w2.setCell ⟨R, 0, none⟩ (.slice A2 N2 c2)).alloc (.cells #[.int .u8 0] 5)) ((w2.setCell ⟨R, 0, none⟩ (.slice A2 N2 c2)).heap.size + 1) (some ⟨(w2.setCell ⟨R, 0, none⟩ (.slice A2 N2 c2)).heap.size, 0, none⟩) 1 [0] := shows_new _ [0] 1 _ rfl (by simp) rfl _
  have hw2' := hw2.on (World.grownBy_alloc _ (.cells #[.int .u8 0] 5) none)
  obtain ⟨v3, w3, hrun3, hgr3⟩ := app_shown 1 hw2'.srow hsh (by rw [hN2]; simp; omega) hw2'.base 26
  obtain ⟨A3, c3, hv3⟩ := hgr3.val
  obtain ⟨N3, hN3⟩ : ∃ N3, (((zs ++ foursL [1]) ++ strB nm) ++ [0]).length = N3 := ⟨_, rfl⟩
  have hfl3 : N3 ≤ N2 + 1 := by rw [← hN3, List.length_append, hN2]; exact Nat.le_refl _
  rw [hN3] at hv3
  subst hv3
  obtain ⟨hw3, hm3', q3, f3⟩ := hw2'.struct hgr3 (by simp)
  have e2 : (w2.setCell ⟨R, 0, none⟩ (.slice A2 N2 c2)).heap.size = w2.heap.size := by simp
  have pc2 := hw2.cells.1
  have lt2 := hw2.lt.2
  rw [e2] at hrun3 lt2
  have HR2 := Lib.hid hrun2
  have HR3 := Lib.hid hrun3
  have HW3 := Lib.hid hw3
  have HM3 := Lib.hid ((((HM1.out.trans (Moved.of ((Below.refl w1.heap.size w1).drew) hw1.base)).trans hm2').trans (Moved.of ((Below.refl _ _).alloc (Nat.le_refl _) _) hw2.base)).trans hm3')
  have HN3 := Lib.hid hN3
  clear hw1 hm1 hrun2 hgr2 hw2 hm2' hsh hw2' hrun3 hgr3 hw3 hm3' hN1 hN2 hN3 e2
  go_wp2_with fail
  refine wp_region_held_drew (S := fun _ => True) (by kernel_rfl) trivial (fun _ => ?_)
  refine held_take 0 rfl (by kernel_rfl) (by kernel_rfl) (by kernel_rfl) (fun _ _ _ h => h) (by rfl) trivial (v := ?_) (fun w hSw => ?_) (fun _ => ?_)
  rotate_left
  · (go_simp; (try with_reducible rfl))
  simp only [Act.put, List.setIfInBounds_toArray, List.set_cons_zero, List.set_cons_succ]
  refine held_take 1 rfl (by kernel_rfl) (by kernel_rfl) (by kernel_rfl) (fun _ _ _ h => h) (by rfl) trivial (v := ?_) (fun w hSw => ?_) (fun _ => ?_)
  rotate_left
  · (go_simp; (try with_reducible rfl))
  simp only [Act.put, List.setIfInBounds_toArray, List.set_cons_zero, List.set_cons_succ]
  refine held_take 2 rfl (by kernel_rfl) (by kernel_rfl) (by kernel_rfl) (fun _ _ _ h => h) (by rfl) trivial (v := ?_) (fun w hSw => ?_) (fun _ => ?_)
  rotate_left
  · (go_simp; (try with_reducible rfl))
  simp only [Act.put, List.setIfInBounds_toArray, List.set_cons_zero, List.set_cons_succ]
  refine held_take 3 rfl (by kernel_rfl) (by kernel_rfl) (by kernel_rfl) (fun _ _ _ h => h) (by rfl) trivial (v := ?_) (fun w hSw => ?_) (fun _ => ?_)
  rotate_left
  · (go_simp; (try with_reducible rfl))
  simp only [Act.put, List.setIfInBounds_toArray, List.set_cons_zero, List.set_cons_succ]
  refine held_take 5 rfl (by kernel_rfl) (by kernel_rfl) (by kernel_rfl) (fun _ _ _ h => h) (by rfl) trivial (v := ?_) (fun w hSw => ?_) (fun _ => ?_)
  rotate_left
  · (go_simp; (try with_reducible rfl))
  simp only [Act.put, List.setIfInBounds_toArray, List.set_cons_zero, List.set_cons_succ]
  refine held_two 4 6 (by kernel_rfl) rfl rfl (by rfl) (by rfl) (fun K hK => ?_) (fun K hK => ?_)
  · go_simp
    refine hK.out _ _ trivial (fun _ => ?_)
    clear hK K
    refine held_call 6 (by kernel_rfl) rfl (by rfl) (fun K hK => ?_)
    go_simp
    refine hK.out _ _ trivial (fun _ => ?_)
    clear hK K
    refine held_call 7 (by kernel_rfl) rfl (by rfl) (fun K hK => ?_)
    refine wp_append_run2 (t := 26) (u := 9) (.tmp 18) (.tmp 20) rfl _ _ rfl rfl HR2.out ?_
    simp only [Act.put, List.setIfInBounds_toArray, List.set_cons_zero, List.set_cons_succ]
    refine hK.out _ _ trivial (fun _ => ?_)
    clear hK K
    refine held_take 8 rfl (by kernel_rfl) (by kernel_rfl) (by kernel_rfl) (fun _ _ _ h => h) (by rfl) trivial (v := ?_) (fun w hSw => ?_) (fun _ => ?_)
    rotate_left
    · (go_simp; (try with_reducible rfl))
    simp only [Act.put, List.setIfInBounds_toArray, List.set_cons_zero, List.set_cons_succ]
    refine held_take 9 rfl (by kernel_rfl) (by kernel_rfl) (by kernel_rfl) (fun _ _ _ h => h) (by rfl) trivial (v := ?_) (fun w hSw => ?_) (fun _ => ?_)
    rotate_left
    · (go_simp; (try with_reducible rfl))
    simp only [Act.put, List.setIfInBounds_toArray, List.set_cons_zero, List.set_cons_succ]
    refine held_call 10 (by kernel_rfl) rfl (by rfl) (fun K hK => ?_)
    go_simp
    refine hK.out _ _ trivial (fun _ => ?_)
    clear hK K
    refine wpAnyH_done (by kernel_rfl) ?_ _
    go_wp2_with (first | (at_builtin; refine Lib.wpList_append_run_sl _ rfl _ _ 26 rfl _ _ rfl rfl HR3.out ?_) | fail)
    refine (wpad_any HW3.out (by rw [HN3.out]; omega)).mono ?_
    rintro e w4 ⟨rfl, sv4, hw4, hm4⟩
    have HZ : Hid (padL (((zs ++ foursL [1]) ++ strB nm) ++ [0]) = zs ++ headN nm) := Lib.hid (by
      rw [List.append_assoc, padL_app (by rw [List.length_append, foursL_length]; have := HH4.out; simp; omega), one_cell, headN, List.append_assoc]
      rfl)
    rw [HZ.out] at hw4
    have HW4 := Lib.hid hw4
    have HM4 := Lib.hid (HM3.out.trans hm4)
    clear hw4 hm4 p0
    obtain ⟨_, p1, _⟩ := PF.out _ _ _ HM4.out
    go_wp2_with fail
    go_loopw [38] (fun i wr => ∃ (k : Nat) (sv' tv' : Value), k ≤ ps.length ∧ i = .int .i64 k ∧ Wr wr B R m sv' tv' ((zs ++ headN nm) ++ (ps.take k).flatMap (propT L)) (textB (((ps.take k).map PV.name).foldl addT l)) (((ps.take k).map PV.name).foldl addT l) ∧ Moved (w.alloc (.cells #[.string nm, .slice pa ps.length pc, .slice ka ks.length kc] 38)) wr B R m sv tv sv' tv') (fun i _ => ps.length - (intOf i).toNat)
    case atStart => exact ⟨0, sv4, tv, Nat.zero_le _, rfl, by simpa using HW4.out, HM4.out⟩
    case round =>
      obtain ⟨k, sv5, tv5, hk, rfl, hw5, hm5⟩ := hrel
      have HW5 := Lib.hid hw5
      have HM5 := Lib.hid hm5
      obtain ⟨_, _, p2⟩ := PF.out _ _ _ hm5
      have hnd := fold_nodup ((ps.take k).map PV.name) l HN.out
      have hps1 := props_length L (ps.take k)
      have hps2 := heftP_take ps k
      have hft := fold_size (ps.take k) l
      clear hw5 hm5
      by_cases hlt : k < ps.length
      · have hin5 := (HI.out.keep (w' := wr) (fun a ha => (HM0.out.trans HM5.out).below.cell ha))
        obtain ⟨b, o, e, hb, c0, c1'⟩ := hin5.pcell (i := k) hlt
        obtain rfl : pa = _ := e
        replace c0 : _ = some (Value.string ps[k].name) := c0
        replace c1' : _ = some (Value.slice ps[k].addr ps[k].zs.length ps[k].cap) := c1'
        have hpk : ps[k] ∈ ps := List.getElem_mem hlt
        have hpin := (HI.out.prop hpk).keep (w' := wr) (fun a ha => (HM0.out.trans HM5.out).below.cell ha)
        have hnx := heftP_next ps k hlt
        have hps3 := heftP_take ps (k + 1)
        have HNX := Lib.hid (props_next L ps k hlt)
        have HFX : Hid (((ps.take (k + 1)).map PV.name).foldl addT l = addT (((ps.take k).map PV.name).foldl addT l) ps[k].name) := Lib.hid (by rw [take_next ps k hlt, List.map_append, List.foldl_append]; rfl)
        have hpre : addT (((ps.take k).map PV.name).foldl addT l) ps[k].name <+: L := by
          rw [← HFX.out]
          have e1 : (ps.map PV.name).foldl addT l = ((ps.drop (k + 1)).map PV.name).foldl addT (((ps.take (k + 1)).map PV.name).foldl addT l) := by
            conv => lhs; rw [← List.take_append_drop (k + 1) ps, List.map_append, List.foldl_append]
          exact ((by rw [e1]; exact fold_pre _ _ : ((ps.take (k + 1)).map PV.name).foldl addT l <+: (ps.map PV.name).foldl addT l)).trans ((textsL_pre ks _).trans HL.out)
        have hlen : ((zs ++ headN nm) ++ (ps.take k).flatMap (propT L)).length = zs.length + (headN nm).length + ((ps.take k).flatMap (propT L)).length := by simp only [List.length_append]
        have C := Lib.hid (wprop_any (HW5.out.on (World.grownBy_alloc wr (.cells #[.string ps[k].name, .slice ps[k].addr ps[k].zs.length ps[k].cap] 52) none)) hnd (Nat.le_trans (len_textSize _) (by omega)) ps[k] (hpin.keep (fun a ha => World.cell?_alloc_lt _ _ _ (Nat.lt_of_lt_of_le ha HW5.out.base))) hpre (by rw [hlen]; have := props_mod L (ps.take k); have := HH4.out; omega) (by rw [hlen]; omega) (by omega))
        have HAL : Hid (Moved wr (wr.alloc (.cells #[.string ps[k].name, .slice ps[k].addr ps[k].zs.length ps[k].cap] 52)) B R m sv5 tv5 sv5 tv5) := Lib.hid (Moved.of ((Below.refl _ _).alloc (Nat.le_refl _) _) HW5.out.base)
        have hbig : ∀ x, 1048576 < ((zs ++ headN nm) ++ (ps.take k).flatMap (propT L)).length + x → x ≤ (propT L ps[k]).length → 1048576 < zs.length + (nodeN L (.mk nm (some ⟨b, o, none⟩) pc ps ka kc ks)).length := fun x h1 h2 => by
          have h3 := flat_take_le (propT L) ps (k + 1)
          rw [HNX.out, List.length_append] at h3
          rw [nodeN_parts]
          rw [hlen] at h1
          simp only [List.length_append]
          omega
        have HBIG := Lib.hid hbig
        have hptl := propT_len L ps[k]
        clear hin5 hpin hpre hlen hnd hnx hps1 hps2 hps3 hft hbig
        go_wp2_with fail
        refine C.out.mono ?_
        rintro e w6 (⟨rfl, sv6, tv6, hw6, hm6⟩ | ⟨rfl, hbg, hb6⟩)
        · have HW6 := Lib.hid hw6
          have HM6 := Lib.hid ((HM5.out.trans HAL.out).trans hm6)
          clear hw6 hm6
          go_wp2
          go_roundw
          case rel => exact ⟨k + 1, sv6, tv6, by omega, by go_num, by have := HW6.out; rwa [List.append_assoc, ← HNX.out, ← HFX.out] at this, HM6.out⟩
          case measure => simp [intOf]; omega
        · have HB6 := Lib.hid (((HM0.out.trans HM5.out).below.trans HAL.out.below).trans hb6)
          have HG := Lib.hid (HBIG.out _ hbg hptl)
          clear hb6 hbg
          go_wp2
          go_ret
          exact .inr ⟨rfl, HG.out, HB6.out⟩
      · have hkk : k = ps.length := by omega
        have HT : Hid (ps.take k = ps) := Lib.hid (List.take_of_length_le (by omega))
        have hw5 := HW5.out
        rw [HT.out] at hw5
        have hnd1 : ((ps.map PV.name).foldl addT l).Nodup := by have := hnd; rwa [HT.out] at this
        have hft1 : textSize ((ps.map PV.name).foldl addT l) ≤ textSize l + (ps.map heftP).sum := by have := hft; rwa [HT.out] at this
        have hps5 : (ps.flatMap (propT L)).length ≤ (ps.map heftP).sum := by have := hps1; rwa [HT.out] at this
        have HW5' := Lib.hid hw5
        obtain ⟨l1, hl1⟩ : ∃ l1, (ps.map PV.name).foldl addT l = l1 := ⟨_, rfl⟩
        rw [hl1] at hnd1 hft1 HW5'
        have HL1 := Lib.hid hl1
        have hLk : textsL ks l1 <+: L := by rw [← hl1]; exact HL.out
        have HLK := Lib.hid hLk
        have HND1 := Lib.hid hnd1
        clear hw5 hnd hft hps1 hps2 hkk HW5 hl1 hLk hnd1
        go_wp2_with fail
        go_loopw [52] (fun i wr => ∃ (j : Nat) (sv' tv' : Value), j ≤ ks.length ∧ i = .int .i64 j ∧ Wr wr B R m sv' tv' (((zs ++ headN nm) ++ ps.flatMap (propT L)) ++ nodeL L (ks.take j)) (textB (textsL (ks.take j) l1)) (textsL (ks.take j) l1) ∧ Moved (w.alloc (.cells #[.string nm, .slice pa ps.length pc, .slice ka ks.length kc] 38)) wr B R m sv tv sv' tv') (fun i _ => ks.length - (intOf i).toNat)
        case atStart => exact ⟨0, sv5, tv5, Nat.zero_le _, rfl, by simpa [nodeL, textsL] using HW5'.out, HM5.out⟩
        case round =>
          obtain ⟨j, sv7, tv7, hj, rfl, hw7, hm7⟩ := hrel
          have HW7 := Lib.hid hw7
          have HM7 := Lib.hid hm7
          have hlj := nodeL_length L (ks.take j)
          have hlt1 := heftL_take ks j
          have htj := textsL_size (ks.take j) l1
          have hlen : (((zs ++ headN nm) ++ ps.flatMap (propT L)) ++ nodeL L (ks.take j)).length = zs.length + (headN nm).length + (ps.flatMap (propT L)).length + (nodeL L (ks.take j)).length := by simp only [List.length_append]
          clear hw7 hm7
          by_cases hlt : j < ks.length
          · have hin7 := (HI.out.keep (w' := wr) (fun a ha => (HM0.out.trans HM7.out).below.cell ha))
            obtain ⟨b, o, e, hb, c0, c1', c2'⟩ := hin7.kcell (i := j) hlt
            obtain rfl : ka = _ := e
            replace c0 : _ = some (Value.string ks[j].name) := c0
            replace c1' : _ = some (Value.slice ks[j].pa ks[j].props.length ks[j].pc) := c1'
            replace c2' : _ = some (Value.slice ks[j].ka ks[j].kids.length ks[j].kc) := c2'
            have hkj : ks[j] ∈ ks := List.getElem_mem hlt
            have hkin := (HI.out.kid hkj).keep (w' := wr.alloc (.cells #[.string ks[j].name, .slice ks[j].pa ks[j].props.length ks[j].pc, .slice ks[j].ka ks[j].kids.length ks[j].kc] 38)) (fun a ha => (World.cell?_alloc_lt _ _ _ (Nat.lt_of_lt_of_le ha HW7.out.base)).trans ((HM0.out.trans HM7.out).below.cell ha))
            have hnx := heftL_next ks j hlt
            have hlt2 := heftL_take ks (j + 1)
            have HNX := Lib.hid (nodeL_next L ks j hlt)
            have HTX := Lib.hid (textsL_next ks j hlt l1)
            have hpre : textsN ks[j] (textsL (ks.take j) l1) <+: L := by
              rw [← HTX.out]
              have e1 : textsL ks l1 = textsL (ks.drop (j + 1)) (textsL (ks.take (j + 1)) l1) := by
                conv => lhs; rw [← List.take_append_drop (j + 1) ks, textsL_append]
              exact ((by rw [e1]; exact textsL_pre _ _ : textsL (ks.take (j + 1)) l1 <+: textsL ks l1)).trans HLK.out
            have hndj : (textsL (ks.take j) l1).Nodup := by
              have key : ∀ (r : List Nd) (x : List ByteArray), x.Nodup → (textsL r x).Nodup := by
                intro r
                induction r with
                | nil => intro x h; simpa [textsL] using h
                | cons y r ihr => intro x h; exact ihr _ (textsN_nodup y x h)
              exact key _ _ HND1.out
            have hmod4 : (((zs ++ headN nm) ++ ps.flatMap (propT L)) ++ nodeL L (ks.take j)).length % 4 = 0 := by
              rw [hlen]
              have := props_mod L ps; have := nodeL_mod L (ks.take j); have := HH4.out
              omega
            have C := Lib.hid (IH.out ks[j] hkj _ B R m sv7 tv7 _ _ (HW7.out.on (World.grownBy_alloc wr (.cells #[.string ks[j].name, .slice ks[j].pa ks[j].props.length ks[j].pc, .slice ks[j].ka ks[j].kids.length ks[j].kc] 38) none)) hndj hkin hpre hmod4 (by rw [hlen]; omega) (by omega))
            have HAL : Hid (Moved wr (wr.alloc (.cells #[.string ks[j].name, .slice ks[j].pa ks[j].props.length ks[j].pc, .slice ks[j].ka ks[j].kids.length ks[j].kc] 38)) B R m sv7 tv7 sv7 tv7) := Lib.hid (Moved.of ((Below.refl _ _).alloc (Nat.le_refl _) _) HW7.out.base)
            have hbig : 1048576 < (((zs ++ headN nm) ++ ps.flatMap (propT L)) ++ nodeL L (ks.take j)).length + (nodeN L ks[j]).length → 1048576 < zs.length + (nodeN L (.mk nm pa pc ps (some ⟨b, o, none⟩) kc ks)).length := fun h1 => by
              have h3 := nodeL_take_le L ks (j + 1)
              rw [HNX.out, List.length_append] at h3
              rw [nodeN_parts]
              rw [hlen] at h1
              simp only [List.length_append]
              omega
            have HBIG := Lib.hid hbig
            clear hin7 hkin hpre hlen hnx hlt1 hlt2 hlj htj hbig hndj hmod4
            go_wp2_with fail
            refine C.out.mono ?_
            rintro e w8 (⟨rfl, sv8, tv8, hw8, hm8⟩ | ⟨rfl, hbg, hb8⟩)
            · have HW8 := Lib.hid hw8
              have HM8 := Lib.hid ((HM7.out.trans HAL.out).trans hm8)
              clear hw8 hm8
              go_wp2
              go_roundw
              case rel => exact ⟨j + 1, sv8, tv8, by omega, by go_num, by have := HW8.out; rwa [List.append_assoc, ← HNX.out, ← HTX.out] at this, HM8.out⟩
              case measure => simp [intOf]; omega
            · have HB8 := Lib.hid (((HM0.out.trans HM7.out).below.trans HAL.out.below).trans hb8)
              have HG := Lib.hid (HBIG.out hbg)
              clear hb8 hbg
              go_wp2
              go_ret
              exact .inr ⟨rfl, HG.out, HB8.out⟩
          · have HTJ : Hid (ks.take j = ks) := Lib.hid (List.take_of_length_le (by omega))
            have hw7 := HW7.out
            rw [HTJ.out] at hw7
            have HW7' := Lib.hid hw7
            have hle9 : (((zs ++ headN nm) ++ ps.flatMap (propT L)) ++ nodeL L ks).length ≤ 1073741824 := by
              have h9 := hlen; rw [HTJ.out] at h9; rw [h9]; have h8 := hlj; rw [HTJ.out] at h8; have h7 : heftL (ks.take j) = heftL ks := by rw [HTJ.out]
              omega
            have C2 := Lib.hid (wput_any (k := 1) (c := 1) (g := wr.heap.size) (w := wr.alloc (.cells #[.int .u32 2] 22)) (hw7.on (World.grownBy_alloc _ _ _)) [2] rfl (by omega) (by omega) (by omega) (one_at wr 2) (by simp) (by simp) hle9)
            have HAL : Hid (Moved wr (wr.alloc (.cells #[.int .u32 2] 22)) B R m sv7 tv7 sv7 tv7) := Lib.hid (Moved.of ((Below.refl _ _).alloc (Nat.le_refl _) _) hw7.base)
            clear hw7 HW7 hlen hlj hlt1 htj hle9
            go_wp2_with fail
            refine C2.out.mono ?_
            rintro e w9 ⟨rfl, sv9, hw9, hm9⟩
            have HW9 := Lib.hid hw9
            have HM9 := Lib.hid ((HM7.out.trans HAL.out).trans hm9)
            clear hw9 hm9
            go_wp2
            go_ret
            refine .inl ⟨rfl, sv9, tv7, ?_, HM0.out.trans HM9.out⟩
            have h9 := HW9.out
            rw [one_cell] at h9
            have e3 : textsN (.mk nm pa pc ps ka kc ks) l = textsL ks l1 := by rw [← HL1.out]; rfl
            rw [nodeN_parts, e3]
            have e4 : four 2 = [0, 0, 0, 2] := by decide
            rw [e4] at h9
            simpa only [List.append_assoc] using h9
  · go_simp
    refine hK.out _ _ trivial (fun _ => ?_)
    clear hK K
    refine held_call 4 (by kernel_rfl) rfl (by rfl) (fun K hK => ?_)
    go_simp
    refine hK.out _ _ trivial (fun _ => ?_)
    clear hK K
    refine held_call 7 (by kernel_rfl) rfl (by rfl) (fun K hK => ?_)
    refine wp_append_run2 (t := 26) (u := 9) (.tmp 18) (.tmp 20) rfl _ _ rfl rfl HR2.out ?_
    simp only [Act.put, List.setIfInBounds_toArray, List.set_cons_zero, List.set_cons_succ]
    refine hK.out _ _ trivial (fun _ => ?_)
    clear hK K
    refine held_take 8 rfl (by kernel_rfl) (by kernel_rfl) (by kernel_rfl) (fun _ _ _ h => h) (by rfl) trivial (v := ?_) (fun w hSw => ?_) (fun _ => ?_)
    rotate_left
    · (go_simp; (try with_reducible rfl))
    simp only [Act.put, List.setIfInBounds_toArray, List.set_cons_zero, List.set_cons_succ]
    refine held_take 9 rfl (by kernel_rfl) (by kernel_rfl) (by kernel_rfl) (fun _ _ _ h => h) (by rfl) trivial (v := ?_) (fun w hSw => ?_) (fun _ => ?_)
    rotate_left
    · (go_simp; (try with_reducible rfl))
    simp only [Act.put, List.setIfInBounds_toArray, List.set_cons_zero, List.set_cons_succ]
    refine held_call 10 (by kernel_rfl) rfl (by rfl) (fun K hK => ?_)
    go_simp
    refine hK.out _ _ trivial (fun _ => ?_)
    clear hK K
    refine wpAnyH_done (by kernel_rfl) ?_ _
    go_wp2_with (first | (at_builtin; refine Lib.wpList_append_run_sl _ rfl _ _ 26 rfl _ _ rfl rfl HR3.out ?_) | fail)
    refine (wpad_any HW3.out (by rw [HN3.out]; omega)).mono ?_
    rintro e w4 ⟨rfl, sv4, hw4, hm4⟩
    have HZ : Hid (padL (((zs ++ foursL [1]) ++ strB nm) ++ [0]) = zs ++ headN nm) := Lib.hid (by
      rw [List.append_assoc, padL_app (by rw [List.length_append, foursL_length]; have := HH4.out; simp; omega), one_cell, headN, List.append_assoc]
      rfl)
    rw [HZ.out] at hw4
    have HW4 := Lib.hid hw4
    have HM4 := Lib.hid (HM3.out.trans hm4)
    clear hw4 hm4 p0
    obtain ⟨_, p1, _⟩ := PF.out _ _ _ HM4.out
    go_wp2_with fail
    go_loopw [38] (fun i wr => ∃ (k : Nat) (sv' tv' : Value), k ≤ ps.length ∧ i = .int .i64 k ∧ Wr wr B R m sv' tv' ((zs ++ headN nm) ++ (ps.take k).flatMap (propT L)) (textB (((ps.take k).map PV.name).foldl addT l)) (((ps.take k).map PV.name).foldl addT l) ∧ Moved (w.alloc (.cells #[.string nm, .slice pa ps.length pc, .slice ka ks.length kc] 38)) wr B R m sv tv sv' tv') (fun i _ => ps.length - (intOf i).toNat)
    case atStart => exact ⟨0, sv4, tv, Nat.zero_le _, rfl, by simpa using HW4.out, HM4.out⟩
    case round =>
      obtain ⟨k, sv5, tv5, hk, rfl, hw5, hm5⟩ := hrel
      have HW5 := Lib.hid hw5
      have HM5 := Lib.hid hm5
      obtain ⟨_, _, p2⟩ := PF.out _ _ _ hm5
      have hnd := fold_nodup ((ps.take k).map PV.name) l HN.out
      have hps1 := props_length L (ps.take k)
      have hps2 := heftP_take ps k
      have hft := fold_size (ps.take k) l
      clear hw5 hm5
      by_cases hlt : k < ps.length
      · have hin5 := (HI.out.keep (w' := wr) (fun a ha => (HM0.out.trans HM5.out).below.cell ha))
        obtain ⟨b, o, e, hb, c0, c1'⟩ := hin5.pcell (i := k) hlt
        obtain rfl : pa = _ := e
        replace c0 : _ = some (Value.string ps[k].name) := c0
        replace c1' : _ = some (Value.slice ps[k].addr ps[k].zs.length ps[k].cap) := c1'
        have hpk : ps[k] ∈ ps := List.getElem_mem hlt
        have hpin := (HI.out.prop hpk).keep (w' := wr) (fun a ha => (HM0.out.trans HM5.out).below.cell ha)
        have hnx := heftP_next ps k hlt
        have hps3 := heftP_take ps (k + 1)
        have HNX := Lib.hid (props_next L ps k hlt)
        have HFX : Hid (((ps.take (k + 1)).map PV.name).foldl addT l = addT (((ps.take k).map PV.name).foldl addT l) ps[k].name) := Lib.hid (by rw [take_next ps k hlt, List.map_append, List.foldl_append]; rfl)
        have hpre : addT (((ps.take k).map PV.name).foldl addT l) ps[k].name <+: L := by
          rw [← HFX.out]
          have e1 : (ps.map PV.name).foldl addT l = ((ps.drop (k + 1)).map PV.name).foldl addT (((ps.take (k + 1)).map PV.name).foldl addT l) := by
            conv => lhs; rw [← List.take_append_drop (k + 1) ps, List.map_append, List.foldl_append]
          exact ((by rw [e1]; exact fold_pre _ _ : ((ps.take (k + 1)).map PV.name).foldl addT l <+: (ps.map PV.name).foldl addT l)).trans ((textsL_pre ks _).trans HL.out)
        have hlen : ((zs ++ headN nm) ++ (ps.take k).flatMap (propT L)).length = zs.length + (headN nm).length + ((ps.take k).flatMap (propT L)).length := by simp only [List.length_append]
        have C := Lib.hid (wprop_any (HW5.out.on (World.grownBy_alloc wr (.cells #[.string ps[k].name, .slice ps[k].addr ps[k].zs.length ps[k].cap] 52) none)) hnd (Nat.le_trans (len_textSize _) (by omega)) ps[k] (hpin.keep (fun a ha => World.cell?_alloc_lt _ _ _ (Nat.lt_of_lt_of_le ha HW5.out.base))) hpre (by rw [hlen]; have := props_mod L (ps.take k); have := HH4.out; omega) (by rw [hlen]; omega) (by omega))
        have HAL : Hid (Moved wr (wr.alloc (.cells #[.string ps[k].name, .slice ps[k].addr ps[k].zs.length ps[k].cap] 52)) B R m sv5 tv5 sv5 tv5) := Lib.hid (Moved.of ((Below.refl _ _).alloc (Nat.le_refl _) _) HW5.out.base)
        have hbig : ∀ x, 1048576 < ((zs ++ headN nm) ++ (ps.take k).flatMap (propT L)).length + x → x ≤ (propT L ps[k]).length → 1048576 < zs.length + (nodeN L (.mk nm (some ⟨b, o, none⟩) pc ps ka kc ks)).length := fun x h1 h2 => by
          have h3 := flat_take_le (propT L) ps (k + 1)
          rw [HNX.out, List.length_append] at h3
          rw [nodeN_parts]
          rw [hlen] at h1
          simp only [List.length_append]
          omega
        have HBIG := Lib.hid hbig
        have hptl := propT_len L ps[k]
        clear hin5 hpin hpre hlen hnd hnx hps1 hps2 hps3 hft hbig
        go_wp2_with fail
        refine C.out.mono ?_
        rintro e w6 (⟨rfl, sv6, tv6, hw6, hm6⟩ | ⟨rfl, hbg, hb6⟩)
        · have HW6 := Lib.hid hw6
          have HM6 := Lib.hid ((HM5.out.trans HAL.out).trans hm6)
          clear hw6 hm6
          go_wp2
          go_roundw
          case rel => exact ⟨k + 1, sv6, tv6, by omega, by go_num, by have := HW6.out; rwa [List.append_assoc, ← HNX.out, ← HFX.out] at this, HM6.out⟩
          case measure => simp [intOf]; omega
        · have HB6 := Lib.hid (((HM0.out.trans HM5.out).below.trans HAL.out.below).trans hb6)
          have HG := Lib.hid (HBIG.out _ hbg hptl)
          clear hb6 hbg
          go_wp2
          go_ret
          exact .inr ⟨rfl, HG.out, HB6.out⟩
      · have hkk : k = ps.length := by omega
        have HT : Hid (ps.take k = ps) := Lib.hid (List.take_of_length_le (by omega))
        have hw5 := HW5.out
        rw [HT.out] at hw5
        have hnd1 : ((ps.map PV.name).foldl addT l).Nodup := by have := hnd; rwa [HT.out] at this
        have hft1 : textSize ((ps.map PV.name).foldl addT l) ≤ textSize l + (ps.map heftP).sum := by have := hft; rwa [HT.out] at this
        have hps5 : (ps.flatMap (propT L)).length ≤ (ps.map heftP).sum := by have := hps1; rwa [HT.out] at this
        have HW5' := Lib.hid hw5
        obtain ⟨l1, hl1⟩ : ∃ l1, (ps.map PV.name).foldl addT l = l1 := ⟨_, rfl⟩
        rw [hl1] at hnd1 hft1 HW5'
        have HL1 := Lib.hid hl1
        have hLk : textsL ks l1 <+: L := by rw [← hl1]; exact HL.out
        have HLK := Lib.hid hLk
        have HND1 := Lib.hid hnd1
        clear hw5 hnd hft hps1 hps2 hkk HW5 hl1 hLk hnd1
        go_wp2_with fail
        go_loopw [52] (fun i wr => ∃ (j : Nat) (sv' tv' : Value), j ≤ ks.length ∧ i = .int .i64 j ∧ Wr wr B R m sv' tv' (((zs ++ headN nm) ++ ps.flatMap (propT L)) ++ nodeL L (ks.take j)) (textB (textsL (ks.take j) l1)) (textsL (ks.take j) l1) ∧ Moved (w.alloc (.cells #[.string nm, .slice pa ps.length pc, .slice ka ks.length kc] 38)) wr B R m sv tv sv' tv') (fun i _ => ks.length - (intOf i).toNat)
        case atStart => exact ⟨0, sv5, tv5, Nat.zero_le _, rfl, by simpa [nodeL, textsL] using HW5'.out, HM5.out⟩
        case round =>
          obtain ⟨j, sv7, tv7, hj, rfl, hw7, hm7⟩ := hrel
          have HW7 := Lib.hid hw7
          have HM7 := Lib.hid hm7
          have hlj := nodeL_length L (ks.take j)
          have hlt1 := heftL_take ks j
          have htj := textsL_size (ks.take j) l1
          have hlen : (((zs ++ headN nm) ++ ps.flatMap (propT L)) ++ nodeL L (ks.take j)).length = zs.length + (headN nm).length + (ps.flatMap (propT L)).length + (nodeL L (ks.take j)).length := by simp only [List.length_append]
          clear hw7 hm7
          by_cases hlt : j < ks.length
          · have hin7 := (HI.out.keep (w' := wr) (fun a ha => (HM0.out.trans HM7.out).below.cell ha))
            obtain ⟨b, o, e, hb, c0, c1', c2'⟩ := hin7.kcell (i := j) hlt
            obtain rfl : ka = _ := e
            replace c0 : _ = some (Value.string ks[j].name) := c0
            replace c1' : _ = some (Value.slice ks[j].pa ks[j].props.length ks[j].pc) := c1'
            replace c2' : _ = some (Value.slice ks[j].ka ks[j].kids.length ks[j].kc) := c2'
            have hkj : ks[j] ∈ ks := List.getElem_mem hlt
            have hkin := (HI.out.kid hkj).keep (w' := wr.alloc (.cells #[.string ks[j].name, .slice ks[j].pa ks[j].props.length ks[j].pc, .slice ks[j].ka ks[j].kids.length ks[j].kc] 38)) (fun a ha => (World.cell?_alloc_lt _ _ _ (Nat.lt_of_lt_of_le ha HW7.out.base)).trans ((HM0.out.trans HM7.out).below.cell ha))
            have hnx := heftL_next ks j hlt
            have hlt2 := heftL_take ks (j + 1)
            have HNX := Lib.hid (nodeL_next L ks j hlt)
            have HTX := Lib.hid (textsL_next ks j hlt l1)
            have hpre : textsN ks[j] (textsL (ks.take j) l1) <+: L := by
              rw [← HTX.out]
              have e1 : textsL ks l1 = textsL (ks.drop (j + 1)) (textsL (ks.take (j + 1)) l1) := by
                conv => lhs; rw [← List.take_append_drop (j + 1) ks, textsL_append]
              exact ((by rw [e1]; exact textsL_pre _ _ : textsL (ks.take (j + 1)) l1 <+: textsL ks l1)).trans HLK.out
            have hndj : (textsL (ks.take j) l1).Nodup := by
              have key : ∀ (r : List Nd) (x : List ByteArray), x.Nodup → (textsL r x).Nodup := by
                intro r
                induction r with
                | nil => intro x h; simpa [textsL] using h
                | cons y r ihr => intro x h; exact ihr _ (textsN_nodup y x h)
              exact key _ _ HND1.out
            have hmod4 : (((zs ++ headN nm) ++ ps.flatMap (propT L)) ++ nodeL L (ks.take j)).length % 4 = 0 := by
              rw [hlen]
              have := props_mod L ps; have := nodeL_mod L (ks.take j); have := HH4.out
              omega
            have C := Lib.hid (IH.out ks[j] hkj _ B R m sv7 tv7 _ _ (HW7.out.on (World.grownBy_alloc wr (.cells #[.string ks[j].name, .slice ks[j].pa ks[j].props.length ks[j].pc, .slice ks[j].ka ks[j].kids.length ks[j].kc] 38) none)) hndj hkin hpre hmod4 (by rw [hlen]; omega) (by omega))
            have HAL : Hid (Moved wr (wr.alloc (.cells #[.string ks[j].name, .slice ks[j].pa ks[j].props.length ks[j].pc, .slice ks[j].ka ks[j].kids.length ks[j].kc] 38)) B R m sv7 tv7 sv7 tv7) := Lib.hid (Moved.of ((Below.refl _ _).alloc (Nat.le_refl _) _) HW7.out.base)
            have hbig : 1048576 < (((zs ++ headN nm) ++ ps.flatMap (propT L)) ++ nodeL L (ks.take j)).length + (nodeN L ks[j]).length → 1048576 < zs.length + (nodeN L (.mk nm pa pc ps (some ⟨b, o, none⟩) kc ks)).length := fun h1 => by
              have h3 := nodeL_take_le L ks (j + 1)
              rw [HNX.out, List.length_append] at h3
              rw [nodeN_parts]
              rw [hlen] at h1
              simp only [List.length_append]
              omega
            have HBIG := Lib.hid hbig
            clear hin7 hkin hpre hlen hnx hlt1 hlt2 hlj htj hbig hndj hmod4
            go_wp2_with fail
            refine C.out.mono ?_
            rintro e w8 (⟨rfl, sv8, tv8, hw8, hm8⟩ | ⟨rfl, hbg, hb8⟩)
            · have HW8 := Lib.hid hw8
              have HM8 := Lib.hid ((HM7.out.trans HAL.out).trans hm8)
              clear hw8 hm8
              go_wp2
              go_roundw
              case rel => exact ⟨j + 1, sv8, tv8, by omega, by go_num, by have := HW8.out; rwa [List.append_assoc, ← HNX.out, ← HTX.out] at this, HM8.out⟩
              case measure => simp [intOf]; omega
            · have HB8 := Lib.hid (((HM0.out.trans HM7.out).below.trans HAL.out.below).trans hb8)
              have HG := Lib.hid (HBIG.out hbg)
              clear hb8 hbg
              go_wp2
              go_ret
              exact .inr ⟨rfl, HG.out, HB8.out⟩
          · have HTJ : Hid (ks.take j = ks) := Lib.hid (List.take_of_length_le (by omega))
            have hw7 := HW7.out
            rw [HTJ.out] at hw7
            have HW7' := Lib.hid hw7
            have hle9 : (((zs ++ headN nm) ++ ps.flatMap (propT L)) ++ nodeL L ks).length ≤ 1073741824 := by
              have h9 := hlen; rw [HTJ.out] at h9; rw [h9]; have h8 := hlj; rw [HTJ.out] at h8; have h7 : heftL (ks.take j) = heftL ks := by rw [HTJ.out]
              omega
            have C2 := Lib.hid (wput_any (k := 1) (c := 1) (g := wr.heap.size) (w := wr.alloc (.cells #[.int .u32 2] 22)) (hw7.on (World.grownBy_alloc _ _ _)) [2] rfl (by omega) (by omega) (by omega) (one_at wr 2) (by simp) (by simp) hle9)
            have HAL : Hid (Moved wr (wr.alloc (.cells #[.int .u32 2] 22)) B R m sv7 tv7 sv7 tv7) := Lib.hid (Moved.of ((Below.refl _ _).alloc (Nat.le_refl _) _) hw7.base)
            clear hw7 HW7 hlen hlj hlt1 htj hle9
            go_wp2_with fail
            refine C2.out.mono ?_
            rintro e w9 ⟨rfl, sv9, hw9, hm9⟩
            have HW9 := Lib.hid hw9
            have HM9 := Lib.hid ((HM7.out.trans HAL.out).trans hm9)
            clear hw9 hm9
            go_wp2
            go_ret
            refine .inl ⟨rfl, sv9, tv7, ?_, HM0.out.trans HM9.out⟩
            have h9 := HW9.out
            rw [one_cell] at h9
            have e3 : textsN (.mk nm pa pc ps ka kc ks) l = textsL ks l1 := by rw [← HL1.out]; rfl
            rw [nodeN_parts, e3]
            have e4 : four 2 = [0, 0, 0, 2] := by decide
            rw [e4] at h9
            simpa only [List.append_assoc] using h9
end Go.Proofs.Ytnopcnbeklbfoaa

/-! Layer 5: the structure and the texts of a tree's root. -/
namespace Go.Proofs.Ytnopcnbeklbfoaa
open Go.RowKit Go.Maps Go.WideMaps
set_option linter.unusedVariables false
set_option linter.unusedSimpArgs false

/-- A writer that has written nothing. -/
theorem Wr.first (w : World) : Wr ((w.alloc (.map #[] 0)).alloc (.cells #[.slice none 0 0, .slice none 0 0, .map (some w.heap.size)] 104)) w.heap.size (w.heap.size + 1) w.heap.size (.slice none 0 0) (.slice none 0 0) [] [] [] := by
  have e : (w.alloc (.map #[] 0)).heap.size = w.heap.size + 1 := by simp
  have r := World.ownsRow_lit (e := 104) (size := 3) (base := w.heap.size) (w.alloc (.map #[] 0)) #[.slice none 0 0, .slice none 0 0, .map (some w.heap.size)] 1 (by omega) (by unfold maxLen; omega) rfl
  rw [e] at r
  refine ⟨r, World.ownsRow_nil _ _ _ _, World.ownsRow_nil _ _ _ _, ?_, fun g e => (by cases e), fun e => (by cases e), fun e => (by cases e), fun e => (by cases e), fun e => (by cases e), by omega, Nat.le_refl _, fun z hz => (by cases hz), fun z hz => (by cases hz), by simp; omega⟩
  exact (World.ownsMap_made w _ _ _).alloc _

/-- What writeRoot answers. -/
def ROut (w' : World) (S T : List Int) (big : Prop) (e : Ending) : Prop :=
  (∃ A c A2 c2, e = .returned (.tuple #[.slice A S.length c, .slice A2 T.length c2, .int .i64 0]) ∧ (Shows w' w'.heap.size A S.length S ∧ S.length ≤ c ∧ c ≤ 9223372036854775807) ∧ Shows w' w'.heap.size A2 T.length T ∧ T.length ≤ c2 ∧ c2 ≤ 9223372036854775807) ∨
  (e = .returned (.tuple #[.slice none 0 0, .slice none 0 0, .int .i64 7]) ∧ big)

set_option maxRecDepth 20000 in
set_option maxHeartbeats 4000000 in
theorem writeRoot_any (n : Nd) (w : World) (hin : n.In w w.heap.size) (hz : heftN n ≤ 1073741000) :
    Calls Try.prog 34 #[n.val] w fun e w' => ROut w' (nodeN (textsN n []) n ++ [0, 0, 0, 9]) (textB (textsN n [])) (1048576 < (nodeN (textsN n []) n).length) e ∧ Below w.heap.size w w' := by
  have hmm := @run_makeMap Try.prog
  obtain ⟨L, hL⟩ : ∃ L, textsN n [] = L := ⟨_, rfl⟩
  have hnl := nodeN_length L n
  have hb0 := (Below.refl w.heap.size w).alloc (Nat.le_refl _) (.cells #[.string n.name, n.pv, n.kv] 38)
  have F := Wr.first (w.alloc (.cells #[.string n.name, n.pv, n.kv] 38))
  have e0 : (w.alloc (.cells #[.string n.name, n.pv, n.kv] 38)).heap.size = w.heap.size + 1 := by simp
  rw [e0] at F
  have hb1 : Below w.heap.size w (((w.alloc (.cells #[.string n.name, n.pv, n.kv] 38)).alloc (.map #[] 0)).alloc (.cells #[.slice none 0 0, .slice none 0 0, .map (some (w.heap.size + 1))] 104)) := (hb0.alloc (by omega) _).alloc (by simp; omega) _
  have C := Lib.hid (wnode_any L n _ _ _ _ _ _ [] [] F (by simp) ((hin.under hb1).more (Nat.le_succ _)) (by rw [hL]; exact List.prefix_refl _) rfl (by simp; omega) (by simp [textSize]; omega))
  have HB1 := Lib.hid hb1
  rw [hL] at C ⊢
  clear F hb0 hb1 hin e0 hL
  obtain ⟨nm, pa, pc, ps, ka, kc, ks⟩ := n
  obtain ⟨ys, hys⟩ : ∃ ys, nodeN L (.mk nm pa pc ps ka kc ks) = ys := ⟨_, rfl⟩
  rw [hys] at C hnl ⊢
  have hnl2 : ys.length ≤ 1073741000 := Nat.le_trans hnl hz
  obtain ⟨S, hS⟩ : ∃ S, ys ++ [0, 0, 0, 9] = S := ⟨_, rfl⟩
  rw [hS]
  have HSE := Lib.hid hS
  clear hys hnl hz hS
  show Calls _ _ #[.agg #[.string nm, .slice pa ps.length pc, .slice ka ks.length kc]] _ _
  go_enter Try.func34, Try.ntmps34
  go_wp2_with fail
  refine C.out.mono ?_
  rintro e w1 (⟨rfl, sv1, tv1, hw1, hm1⟩ | ⟨rfl, hbig, hb1⟩)
  · rw [List.nil_append] at hw1
    have HW1 := Lib.hid hw1
    have C2 := Lib.hid (wput_any (k := 1) (c := 1) (g := w1.heap.size) (w := w1.alloc (.cells #[.int .u32 9] 22)) (hw1.on (World.grownBy_alloc _ _ _)) [9] rfl (by omega) (by omega) (by omega) (one_at w1 9) (by simp) (by simp) (by omega))
    have HBm := Lib.hid ((HB1.out.trans (hm1.below.mono (Nat.le_succ _))).alloc (Nat.le_trans (Nat.le_succ _) hw1.base) (.cells #[.int .u32 9] 22))
    clear hw1 hm1
    go_wp2_with fail
    refine C2.out.mono ?_
    rintro e w2 ⟨rfl, sv2, hw2, hm2⟩
    have e9 : foursL [9] = [0, 0, 0, 9] := by decide
    rw [e9, HSE.out] at hw2
    obtain ⟨A, c, rfl, hs1, hs2, hs3⟩ := owned_shows hw2.srow hw2.sb
    obtain ⟨A2, c2, rfl, ht1, ht2, ht3⟩ := owned_shows hw2.trow hw2.tb
    obtain ⟨d0, d1, _⟩ := hw2.cells
    have HS := Lib.hid (And.intro hs1 (And.intro hs2 hs3))
    have HT := Lib.hid (And.intro ht1 (And.intro ht2 ht3))
    have HB2 := Lib.hid (HBm.out.trans (hm2.below.mono (Nat.le_succ _)))
    clear hw2 hm2 hs1 hs2 hs3 ht1 ht2 ht3 HW1 C C2
    clear e9
    go_wp2
    go_quiet (fail)
    go_wp2
    refine bodyPost_ret (v := .tuple #[.slice A S.length c, .slice A2 (textB L).length c2, .int .i64 0]) (by simp [results, Try.results34, go_sem]; try rfl) rfl ?_
    exact ⟨.inl ⟨A, c, A2, c2, rfl, ⟨HS.out.1.keep (fun _ _ => rfl), HS.out.2⟩, HT.out.1.keep (fun _ _ => rfl), HT.out.2⟩, HB2.out.trans (drew_below _ _ _)⟩
  · have HG := Lib.hid hbig
    have HB := Lib.hid (HB1.out.trans (hb1.mono (Nat.le_succ _)))
    clear hbig hb1 C
    go_wp2
    refine bodyPost_ret (v := .tuple #[.slice none 0 0, .slice none 0 0, .int .i64 7]) (by simp [results, Try.results34, go_sem]; try rfl) rfl ?_
    exact ⟨.inr ⟨rfl, by have := HG.out; simpa using this⟩, HB.out⟩
end Go.Proofs.Ytnopcnbeklbfoaa

/-! Layer 5: the reserves' bytes. -/
namespace Go.Proofs.Ytnopcnbeklbfoaa
open Go.RowKit Go.Maps Go.WideMaps
set_option linter.unusedVariables false
set_option linter.unusedSimpArgs false

theorem make_sixteen (w : World) : (Instr.makeSlice 26 (.int .i64 16) (.int .i64 16)).run Try.prog w = .ok (.slice (some ⟨w.heap.size, 0, none⟩) 16 16) (w.alloc (.cells (madeCells #[.int .u8 0] 16) 5)) := make_bytes 16 (by omega) w

set_option maxRecDepth 20000 in
set_option maxHeartbeats 4000000 in
theorem reservesOf_any (t : Tr) (w : World) (hin : t.In w w.heap.size) (hrs : t.rs.length ≤ 1048576) :
    Calls Try.prog 33 #[t.rv] w fun e w' => ∃ A c, e = .returned (.slice A (reserveT t).length c) ∧ Shows w' w'.heap.size A (reserveT t).length (reserveT t) ∧ (reserveT t).length ≤ c ∧ c ≤ 9223372036854775807 ∧ Below w.heap.size w w' := by
  have hmk := make_sixteen
  obtain ⟨boot, ra, rc, rs, root⟩ := t
  have HI := Lib.hid hin
  obtain ⟨hl, hm, _⟩ : rs.length ≤ rc ∧ rc ≤ 9223372036854775807 ∧ _ := hin.len
  replace hrs : rs.length ≤ 1048576 := hrs
  clear hin
  show Calls _ _ #[.slice ra rs.length rc] _ _
  go_enter Try.func33, Try.ntmps33
  go_wp2_with fail
  go_loopw [3, 8] (fun v i wr => ∃ (k : Nat) (A : Option Addr) (n c : Nat), k ≤ rs.length ∧ i = .int .i64 k ∧ v = .slice A n c ∧ n = 16 * k ∧ Shows wr wr.heap.size A n (resL (rs.take k)) ∧ n ≤ c ∧ c ≤ 9223372036854775807 ∧ Below w.heap.size w wr) (fun _ i _ => rs.length - (intOf i).toNat)
  case atStart => exact ⟨0, none, 0, 0, Nat.zero_le _, rfl, rfl, rfl, Shows.nil _ _, Nat.le_refl _, by omega, Below.refl _ _⟩
  case round =>
    obtain ⟨k, A1, n1, c1, hk, rfl, rfl, hn1, hs1, h1, h2, hbe⟩ := hrel
    have HS := Lib.hid hs1
    have HB := Lib.hid hbe
    have HN1 := Lib.hid hn1
    have hn1b : n1 ≤ 16777216 := by omega
    by_cases hlt : k < rs.length
    · obtain ⟨b, o, e, hb, c0, c1'⟩ := (HI.out.under hbe).rcell (i := k) hlt
      obtain rfl : ra = _ := e
      replace c0 : _ = some (Value.int .u64 rs[k].1) := c0
      replace c1' : _ = some (Value.int .u64 rs[k].2) := c1'
      have hnum := HI.out.nums rs[k] (List.getElem_mem hlt)
      obtain ⟨x, hx⟩ : ∃ x, x = rs[k].1 := ⟨_, rfl⟩
      obtain ⟨y, hy⟩ : ∃ y, y = rs[k].2 := ⟨_, rfl⟩
      have HNX := Lib.hid (show resL (rs.take (k + 1)) = resL (rs.take k) ++ (eight x ++ eight y) by rw [resL_next rs k hlt, hx, hy])
      rw [← hx] at c0 hnum
      rw [← hy] at c1' hnum
      have r0 : Below wr.heap.size wr (wr.alloc (.cells #[.int .u64 x, .int .u64 y] 62)) := (Below.refl _ _).alloc (Nat.le_refl _) _
      have C1 := Lib.hid (put64_any A1 n1 c1 (resL (rs.take k)) x (wr.alloc (.cells #[.int .u64 x, .int .u64 y] 62)).drew (((hs1.below r0).more r0.size).keep (w' := (wr.alloc (.cells #[.int .u64 x, .int .u64 y] 62)).drew) (fun _ _ => rfl)) (by omega) hnum.1.1 hnum.1.2)
      have C2 := Lib.hid (fun (A : Option Addr) (c : Nat) (W : World) (hs : Shows W W.heap.size A (n1 + 8) (resL (rs.take k) ++ (four (x / 4294967296) ++ four (x % 4294967296)))) => put64_any A (n1 + 8) c _ y W hs (by omega) hnum.2.1 hnum.2.2)
      have HR0 := Lib.hid (r0.drew)
      clear hs1 hbe hx hy hnum r0 hn1
      go_wp2_with fail
      refine wp_region_held_drew (S := fun _ => True) (by kernel_rfl) trivial (fun _ => ?_)
      refine held_take 0 rfl (by kernel_rfl) (by kernel_rfl) (by kernel_rfl) (fun _ _ _ h => h) (by rfl) trivial (v := ?_) (fun w hSw => ?_) (fun _ => ?_)
      rotate_left
      · (go_simp; (try with_reducible rfl))
      simp only [Act.put, List.setIfInBounds_toArray, List.set_cons_zero, List.set_cons_succ]
      refine held_take 1 rfl (by kernel_rfl) (by kernel_rfl) (by kernel_rfl) (fun _ _ _ h => h) (by rfl) trivial (v := ?_) (fun w hSw => ?_) (fun _ => ?_)
      rotate_left
      · (go_simp; (try with_reducible rfl))
      simp only [Act.put, List.setIfInBounds_toArray, List.set_cons_zero, List.set_cons_succ]
      refine held_take 4 rfl (by kernel_rfl) (by kernel_rfl) (by kernel_rfl) (fun _ _ _ h => h) (by rfl) trivial (v := ?_) (fun w hSw => ?_) (fun _ => ?_)
      rotate_left
      · (go_simp; (try with_reducible rfl))
      simp only [Act.put, List.setIfInBounds_toArray, List.set_cons_zero, List.set_cons_succ]
      refine held_two 2 5 (by kernel_rfl) rfl rfl (by rfl) (by rfl) (fun K hK => ?_) (fun K hK => ?_)
      · go_simp
        refine hK.out _ _ trivial (fun _ => ?_)
        clear hK K
        refine held_two 3 5 (by kernel_rfl) rfl rfl (by rfl) (by rfl) (fun K hK => ?_) (fun K hK => ?_)
        · go_simp
          refine C1.out.mono ?_
          rintro e w5 ⟨A5, c5, rfl, hs5, _, hc5, hb5⟩
          have HS5 := Lib.hid hs5
          have HB5 := Lib.hid (HR0.out.trans (hb5.mono (by simp)))
          have d1 : w5.cell? ⟨wr.heap.size, 1, none⟩ = some (.int .u64 y) := (hb5.cell (p := ⟨wr.heap.size, 1, none⟩) (by simp)).trans (World.cell?_alloc_new wr _ _ _)
          clear hs5 hb5
          dsimp only
          refine hK.out _ _ trivial (fun _ => ?_)
          clear hK K
          refine held_call 5 (by kernel_rfl) rfl (by rfl) (fun K hK => ?_)
          go_simp
          refine hK.out _ _ trivial (fun _ => ?_)
          clear hK K
          refine held_call 6 (by kernel_rfl) rfl (by rfl) (fun K hK => ?_)
          go_simp
          refine (C2.out _ _ _ HS5.out).mono ?_
          rintro e w6 ⟨A6, c6, rfl, hs6, hc6a, hc6, hb6⟩
          have HS6 := Lib.hid hs6
          have HB6 := Lib.hid (HB5.out.trans (hb6.mono HB5.out.size))
          clear hs6 hb6
          dsimp only
          refine hK.out _ _ trivial (fun _ => ?_)
          clear hK K
          refine held_take 7 rfl (by kernel_rfl) (by kernel_rfl) (by kernel_rfl) (fun _ _ _ h => h) (by rfl) trivial (v := ?_) (fun w hSw => ?_) (fun _ => ?_)
          rotate_left
          · (go_simp; (try with_reducible rfl))
          simp only [Act.put, List.setIfInBounds_toArray, List.set_cons_zero, List.set_cons_succ]
          refine wpAnyH_done (by kernel_rfl) ?_ _
          go_wp2
          go_roundw
          case rel => exact ⟨k + 1, A6, n1 + 8 + 8, c6, by omega, by go_num, rfl, by have := HN1.out; omega, by rw [HNX.out, ← List.append_assoc]; exact HS6.out, hc6a, hc6, HB.out.trans (HB6.out.mono HB.out.size)⟩
          case measure => simp [intOf]; omega
        · go_simp
          refine hK.out _ _ trivial (fun _ => ?_)
          clear hK K
          refine held_call 3 (by kernel_rfl) rfl (by rfl) (fun K hK => ?_)
          go_simp
          refine C1.out.mono ?_
          rintro e w5 ⟨A5, c5, rfl, hs5, _, hc5, hb5⟩
          have HS5 := Lib.hid hs5
          have HB5 := Lib.hid (HR0.out.trans (hb5.mono (by simp)))
          have d1 : w5.cell? ⟨wr.heap.size, 1, none⟩ = some (.int .u64 y) := (hb5.cell (p := ⟨wr.heap.size, 1, none⟩) (by simp)).trans (World.cell?_alloc_new wr _ _ _)
          clear hs5 hb5
          dsimp only
          refine hK.out _ _ trivial (fun _ => ?_)
          clear hK K
          refine held_call 6 (by kernel_rfl) rfl (by rfl) (fun K hK => ?_)
          go_simp
          refine (C2.out _ _ _ HS5.out).mono ?_
          rintro e w6 ⟨A6, c6, rfl, hs6, hc6a, hc6, hb6⟩
          have HS6 := Lib.hid hs6
          have HB6 := Lib.hid (HB5.out.trans (hb6.mono HB5.out.size))
          clear hs6 hb6
          dsimp only
          refine hK.out _ _ trivial (fun _ => ?_)
          clear hK K
          refine held_take 7 rfl (by kernel_rfl) (by kernel_rfl) (by kernel_rfl) (fun _ _ _ h => h) (by rfl) trivial (v := ?_) (fun w hSw => ?_) (fun _ => ?_)
          rotate_left
          · (go_simp; (try with_reducible rfl))
          simp only [Act.put, List.setIfInBounds_toArray, List.set_cons_zero, List.set_cons_succ]
          refine wpAnyH_done (by kernel_rfl) ?_ _
          go_wp2
          go_roundw
          case rel => exact ⟨k + 1, A6, n1 + 8 + 8, c6, by omega, by go_num, rfl, by have := HN1.out; omega, by rw [HNX.out, ← List.append_assoc]; exact HS6.out, hc6a, hc6, HB.out.trans (HB6.out.mono HB.out.size)⟩
          case measure => simp [intOf]; omega
      · go_simp
        refine hK.out _ _ trivial (fun _ => ?_)
        clear hK K
        refine held_call 2 (by kernel_rfl) rfl (by rfl) (fun K hK => ?_)
        go_simp
        refine hK.out _ _ trivial (fun _ => ?_)
        clear hK K
        refine held_call 3 (by kernel_rfl) rfl (by rfl) (fun K hK => ?_)
        go_simp
        refine C1.out.mono ?_
        rintro e w5 ⟨A5, c5, rfl, hs5, _, hc5, hb5⟩
        have HS5 := Lib.hid hs5
        have HB5 := Lib.hid (HR0.out.trans (hb5.mono (by simp)))
        have d1 : w5.cell? ⟨wr.heap.size, 1, none⟩ = some (.int .u64 y) := (hb5.cell (p := ⟨wr.heap.size, 1, none⟩) (by simp)).trans (World.cell?_alloc_new wr _ _ _)
        clear hs5 hb5
        dsimp only
        refine hK.out _ _ trivial (fun _ => ?_)
        clear hK K
        refine held_call 6 (by kernel_rfl) rfl (by rfl) (fun K hK => ?_)
        go_simp
        refine (C2.out _ _ _ HS5.out).mono ?_
        rintro e w6 ⟨A6, c6, rfl, hs6, hc6a, hc6, hb6⟩
        have HS6 := Lib.hid hs6
        have HB6 := Lib.hid (HB5.out.trans (hb6.mono HB5.out.size))
        clear hs6 hb6
        dsimp only
        refine hK.out _ _ trivial (fun _ => ?_)
        clear hK K
        refine held_take 7 rfl (by kernel_rfl) (by kernel_rfl) (by kernel_rfl) (fun _ _ _ h => h) (by rfl) trivial (v := ?_) (fun w hSw => ?_) (fun _ => ?_)
        rotate_left
        · (go_simp; (try with_reducible rfl))
        simp only [Act.put, List.setIfInBounds_toArray, List.set_cons_zero, List.set_cons_succ]
        refine wpAnyH_done (by kernel_rfl) ?_ _
        go_wp2
        go_roundw
        case rel => exact ⟨k + 1, A6, n1 + 8 + 8, c6, by omega, by go_num, rfl, by have := HN1.out; omega, by rw [HNX.out, ← List.append_assoc]; exact HS6.out, hc6a, hc6, HB.out.trans (HB6.out.mono HB.out.size)⟩
        case measure => simp [intOf]; omega
    · have HT : Hid (rs.take k = rs) := Lib.hid (List.take_of_length_le (by omega))
      rw [HT.out] at HS
      have hz : Shows (wr.alloc (.cells (madeCells #[.int .u8 0] 16) 5)) (wr.heap.size + 1) (some ⟨wr.heap.size, 0, none⟩) 16 (List.replicate 16 0) := by
        have := (made_brow wr 16).shows (n := 16) (by simp) (fun z hz => by have := List.eq_of_mem_replicate hz; omega)
        simpa using this
      have C := Lib.hid (concat_new (wr.alloc (.cells (madeCells #[.int .u8 0] 16) 5)) (wr.heap.size + 1) (by simp) [(A1, n1, c1, resL rs), (some ⟨wr.heap.size, 0, none⟩, 16, 16, List.replicate 16 0)] 2 #[.slice A1 n1 c1, .slice (some ⟨wr.heap.size, 0, none⟩) 16 16] 26 rfl (by omega) rfl
        (fun p hp => by
          simp only [List.mem_cons, List.not_mem_nil, or_false] at hp
          rcases hp with rfl | rfl
          · exact (HS.out.below ((Below.refl _ _).alloc (Nat.le_refl _) _)).more (by simp)
          · simpa using hz) (by simp [sumLen]; omega))
      have HA := Lib.hid ((Below.refl wr.heap.size wr).alloc (Nat.le_refl _) (.cells (madeCells #[.int .u8 0] 16) 5))
      have hk' : k = rs.length := by omega
      have HN := Lib.hid (show (reserveT ⟨boot, ra, rc, rs, root⟩).length = n1 + 16 by rw [reserveT, List.length_append, resL_length, List.length_replicate, HN1.out, hk'])
      clear hs1 hbe hz hn1 hk'
      go_wp2_with fail
      refine C.out.mono ?_
      rintro e w5 ⟨A5, c5, rfl, hs5, hc5a, hc5, hb5⟩
      have HS5 := Lib.hid hs5
      have HB5 := Lib.hid (HB.out.trans ((HA.out.trans (hb5.mono (by simp))).mono HB.out.size))
      simp only [sumLen, joined, List.append_nil, Nat.add_zero] at HS5 hc5a
      clear hs5 hb5
      go_wp2
      go_ret
      refine ⟨A5, c5, by rw [HN.out]; rfl, by rw [HN.out]; exact HS5.out, by rw [HN.out]; exact hc5a, hc5, HB5.out⟩
end Go.Proofs.Ytnopcnbeklbfoaa

/-! Layer 5: Encode: the document's blob, or what keeps a tree from being one. -/
namespace Go.Proofs.Ytnopcnbeklbfoaa
open Go.RowKit Go.Maps Go.WideMaps
set_option linter.unusedVariables false
set_option linter.unusedSimpArgs false

theorem blob_len (t : Tr) : (blobT t).length = 40 + (reserveT t).length + (structT t).length + (textB (textsT t)).length := by
  simp only [blobT, List.length_append, fours_length]; omega
theorem check_rs {t : Tr} (h : checkE t = 0) : t.rs.length ≤ 64 := by
  unfold checkE at h
  split at h
  · unfold manyE at h
    split at h
    · omega
    · rename_i h1
      exact Nat.le_of_not_lt (fun h2 => h1 (.inr (.inr h2)))
  · rename_i h1; exact absurd h h1
theorem head_fours (t : Tr) (hb : 0 ≤ t.boot) : foursL [3490578157, ((40 + (reserveT t).length + (structT t).length + (textB (textsT t)).length : Nat) : Int), ((40 + (reserveT t).length : Nat) : Int), ((40 + (reserveT t).length + (structT t).length : Nat) : Int), 40, 17, 16, t.boot, ((textB (textsT t)).length : Int), ((structT t).length : Int)] = fours (fun k => (headT t k : Int)) 10 := by
  have e : ((t.boot.toNat : Nat) : Int) = t.boot := Int.toNat_of_nonneg hb
  have k : ∀ i, i < 10 → ((headT t i : Nat) : Int) = [3490578157, ((40 + (reserveT t).length + (structT t).length + (textB (textsT t)).length : Nat) : Int), ((40 + (reserveT t).length : Nat) : Int), ((40 + (reserveT t).length + (structT t).length : Nat) : Int), 40, 17, 16, t.boot, ((textB (textsT t)).length : Int), ((structT t).length : Int)].getD i 0 := by
    intro i hi
    rcases (by omega : i = 0 ∨ i = 1 ∨ i = 2 ∨ i = 3 ∨ i = 4 ∨ i = 5 ∨ i = 6 ∨ i = 7 ∨ i = 8 ∨ i = 9) with rfl | rfl | rfl | rfl | rfl | rfl | rfl | rfl | rfl | rfl
    all_goals first | rfl | exact e
  have r : List.range 10 = [0, 1, 2, 3, 4, 5, 6, 7, 8, 9] := by decide
  unfold fours foursL
  rw [r]
  simp only [List.flatMap_cons, List.flatMap_nil, k 0 (by omega), k 1 (by omega), k 2 (by omega), k 3 (by omega), k 4 (by omega), k 5 (by omega), k 6 (by omega), k 7 (by omega), k 8 (by omega), k 9 (by omega)]
  rfl

/-- What Encode answers. -/
def EncOut (t : Tr) (e : Ending) (w' : World) : Prop :=
  (checkE t ≠ 0 → e = .returned (.tuple #[.slice none 0 0, .int .i64 (checkE t)])) ∧
  (checkE t = 0 → 1048576 < (blobT t).length → e = .returned (.tuple #[.slice none 0 0, .int .i64 7])) ∧
  (checkE t = 0 → (blobT t).length ≤ 1048576 → ∃ A c, e = .returned (.tuple #[.slice A (blobT t).length c, .int .i64 0]) ∧ Shows w' w'.heap.size A (blobT t).length (blobT t) ∧ (blobT t).length ≤ c ∧ c ≤ 9223372036854775807)

theorem ten_at (w : World) (vs : List Int) (h10 : vs.length = 10) (g : Nat) (hg : g = w.heap.size) (cs : Array Value) (hcs : cs = (vs.map (Value.int .u32)).toArray) (i : Nat) (h : i < vs.length) : (w.alloc (.cells cs 23)).cell? ⟨g, i, none⟩ = some (.int .u32 vs[i]) := by
  subst hg hcs
  rw [World.cell?_alloc_new]
  simp [List.getElem?_eq_getElem h]

set_option maxRecDepth 20000 in
set_option maxHeartbeats 4000000 in
theorem encode_any (t : Tr) (w : World) (hin : t.In w w.heap.size) (hz : heftN t.root ≤ 268435456) :
    Calls Try.prog 18 #[t.val] w fun e w' => EncOut t e w' ∧ Below w.heap.size w w' := by
  obtain ⟨E, hE⟩ : ∃ E, checkE t = E := ⟨_, rfl⟩
  have hbl := blob_len t
  have hst : structT t = nodeN (textsT t) t.root ++ [0, 0, 0, 9] := rfl
  have htx : textsT t = textsN t.root [] := rfl
  have hnl := nodeN_length (textsT t) t.root
  have hts : textSize (textsT t) ≤ 0 + heftN t.root := textsN_size t.root []
  have htb := textB_length (textsT t)
  have hbt := hin.boot
  have hb0 := (Below.refl w.heap.size w).alloc (Nat.le_refl _) (.cells #[.int .u32 t.boot, t.rv, .string t.root.name, t.root.pv, t.root.kv] 40)
  have CK := Lib.hid (check_any t _ (hin.on hb0) E hE)
  have HI := Lib.hid hin
  have HB0 := Lib.hid hb0
  have HE := Lib.hid hE
  have CRS := Lib.hid (fun (W : World) (hW : Below w.heap.size w W) (h64 : t.rs.length ≤ 64) => reservesOf_any t W (hin.on hW) (by omega))
  have CRT := Lib.hid (fun (W : World) (hW : Below w.heap.size w W) => writeRoot_any t.root W (hin.on hW).root (by omega))
  have PF : Hid (∀ W : World, Below (w.heap.size + 1) (w.alloc (.cells #[.int .u32 t.boot, t.rv, .string t.root.name, t.root.pv, t.root.kv] 40)) W → W.cell? ⟨w.heap.size, 0, none⟩ = some (.int .u32 t.boot) ∧ W.cell? ⟨w.heap.size, 1, none⟩ = some t.rv ∧ W.cell? ⟨w.heap.size, 2, none⟩ = some (.string t.root.name) ∧ W.cell? ⟨w.heap.size, 3, none⟩ = some t.root.pv ∧ W.cell? ⟨w.heap.size, 4, none⟩ = some t.root.kv) := Lib.hid (fun W hW =>
    have cc := fun i => (hW.cell (p := ⟨w.heap.size, i, none⟩) (Nat.lt_succ_self _)).trans (World.cell?_alloc_new w #[.int .u32 t.boot, t.rv, .string t.root.name, t.root.pv, t.root.kv] 40 i)
    ⟨cc 0, cc 1, cc 2, cc 3, cc 4⟩)
  clear hb0 hE hin
  have hval : t.val = .agg #[.int .u32 t.boot, t.rv, .string t.root.name, t.root.pv, t.root.kv] := rfl
  have hrt : t.root.val = .agg #[.string t.root.name, t.root.pv, t.root.kv] := rfl
  rw [hrt] at CRT
  rw [hval] at CK ⊢
  clear hval hrt
  go_enter Try.func18, Try.ntmps18
  go_wp2_with fail
  refine CK.out.mono ?_
  rintro e w1 ⟨rfl, hb1⟩
  have hb1' : Below (w.heap.size + 1) (w.alloc (.cells #[.int .u32 t.boot, t.rv, .string t.root.name, t.root.pv, t.root.kv] 40)) w1 := by simpa using hb1
  have HB1 := Lib.hid (HB0.out.trans (hb1'.mono (Nat.le_succ _)))
  have HX1 := Lib.hid hb1'
  clear hb1
  by_cases hE0 : E = 0
  · subst hE0
    have h64 := check_rs HE.out
    obtain ⟨p0, p1, p2, p3, p4⟩ := PF.out w1 hb1'
    clear hb1'
    go_wp2_with fail
    refine (CRS.out w1 HB1.out h64).mono ?_
    rintro e w2 ⟨Ar, cr, rfl, hsr, hcr, hcr2, hb2⟩
    have hx2 := HX1.out.trans (hb2.mono (by have := HX1.out.size; simp at this; omega))
    have HB2 := Lib.hid (HB0.out.trans (hx2.mono (Nat.le_succ _)))
    have HX2 := Lib.hid hx2
    have HSR := Lib.hid hsr
    clear p0 p1 p2 p3 p4 hb2 hsr
    obtain ⟨p0, _, p2, p3, p4⟩ := PF.out w2 hx2
    clear hx2
    go_wp2_with fail
    refine (CRT.out w2 HB2.out).mono ?_
    rintro e w3 ⟨(⟨As, cs, At, ct, rfl, ⟨hss, hcs1, hcs2⟩, hst3, hct1, hct2⟩ | ⟨rfl, hbig⟩), hb3⟩
    · skip
      have eS : nodeN (textsN t.root []) t.root ++ [0, 0, 0, 9] = structT t := by rw [hst]; exact congrArg (fun L => nodeN L t.root ++ [0, 0, 0, 9]) htx.symm
      rw [eS] at hss hcs1 ⊢
      have HB3 := Lib.hid (HB2.out.trans (hb3.mono HB2.out.size))
      have HSR3 := Lib.hid ((HSR.out.below hb3).more hb3.size)
      have HSS := Lib.hid hss
      have HST := Lib.hid hst3
      obtain ⟨S, hS⟩ : ∃ S, structT t = S := ⟨_, rfl⟩
      obtain ⟨R, hR⟩ : ∃ R, reserveT t = R := ⟨_, rfl⟩
      obtain ⟨T, hT⟩ : ∃ T, textB (textsN t.root []) = T := ⟨_, rfl⟩
      rw [hS] at hcs1 ⊢
      rw [hR] at hcr ⊢
      rw [hT] at hct1 ⊢
      have hx3 := HX2.out.trans (hb3.mono (by have := HX2.out.size; simp at this; omega))
      obtain ⟨q0, _⟩ := PF.out w3 hx3
      have lR : R.length ≤ 2000 := by rw [← hR]; simp only [reserveT, List.length_append, resL_length, List.length_replicate]; omega
      have lS : S.length ≤ 268435500 := by
        have e : (structT t).length = (nodeN (textsT t) t.root).length + 4 := by rw [hst, List.length_append]; rfl
        rw [← hS, e]; omega
      have lT : T.length ≤ 268435500 := by
        rw [← hT]
        have e := textB_length (textsN t.root [])
        have e2 := textsN_size t.root []
        simp only [textSize] at e2
        omega
      have HBL : Hid ((blobT t).length = 40 + R.length + S.length + T.length) := Lib.hid (by rw [hbl, hR, hS, htx, hT])
      have HHF := Lib.hid (head_fours t hbt.1)
      clear hss hst3 hb3 hx3 hbl hst htx hnl hts htb hz p0 p2 p3 p4 eS
      by_cases hbig : 1048576 < 40 + R.length + S.length + T.length
      · have k1 : decide ((1048576 : Int) < 40 + R.length + S.length + T.length) = true := decide_eq_true (by omega)
        go_wp2_with fail
        go_ret2
        exact ⟨⟨fun h => absurd HE.out h, fun _ _ => rfl, fun _ h => absurd h (by rw [HBL.out]; omega)⟩, HB3.out⟩
      · have k1 : decide ((1048576 : Int) < 40 + R.length + S.length + T.length) = false := decide_eq_false (by omega)
        obtain ⟨VS, hVS⟩ : ∃ VS : List Int, VS = [3490578157, 40 + (R.length : Int) + (S.length : Int) + (T.length : Int), 40 + (R.length : Int), 40 + (R.length : Int) + (S.length : Int), 40, 17, 16, t.boot, (T.length : Int), (S.length : Int)] := ⟨_, rfl⟩
        have hVb : ∀ v ∈ VS, 0 ≤ v ∧ v ≤ 4294967295 := by
          intro v hv
          rw [hVS] at hv
          simp only [List.mem_cons, List.not_mem_nil, or_false] at hv
          rcases hv with rfl | rfl | rfl | rfl | rfl | rfl | rfl | rfl | rfl | rfl
          all_goals omega
        have hV10 : VS.length = 10 := by rw [hVS]; rfl
        have HVC : (VS.map (Value.int .u32)).toArray = #[.int .u32 3490578157, .int .u32 (40 + (R.length : Int) + (S.length : Int) + (T.length : Int)), .int .u32 (40 + (R.length : Int)), .int .u32 (40 + (R.length : Int) + (S.length : Int)), .int .u32 40, .int .u32 17, .int .u32 16, .int .u32 t.boot, .int .u32 (T.length : Int), .int .u32 (S.length : Int)] := by rw [hVS]; rfl
        have CC := cells_any w3.heap.size 10 10 VS (w3.alloc (.cells (VS.map (Value.int .u32)).toArray 23)) hV10 (by omega) (by omega) (by omega) (ten_at w3 VS hV10 _ rfl _ rfl) (by simp) hVb
        rw [HVC] at CC
        have HCC := Lib.hid CC
        have HJ : Hid (foursL VS ++ (R ++ (S ++ T)) = blobT t) := Lib.hid (by
          have h := HHF.out
          rw [hR, hS] at h
          have h2 : textB (textsT t) = T := hT
          rw [h2] at h
          unfold blobT
          rw [hR, hS, h2, ← h, hVS]
          congr 2 <;> omega)
        have HVB := Lib.hid hVb
        clear CC HVC hV10 hVb hVS HHF
        go_wp2_with fail
        refine HCC.out.mono ?_
        rintro e w4 ⟨A4, c4, rfl, hs4, h41, h42, hb4⟩
        change Shows w4 w4.heap.size A4 40 (foursL VS) at hs4
        have hb34 : Below w3.heap.size w3 w4 := ((Below.refl _ w3).alloc (Nat.le_refl _) (.cells #[.int .u32 3490578157, .int .u32 (40 + (R.length : Int) + (S.length : Int) + (T.length : Int)), .int .u32 (40 + (R.length : Int)), .int .u32 (40 + (R.length : Int) + (S.length : Int)), .int .u32 40, .int .u32 17, .int .u32 16, .int .u32 t.boot, .int .u32 (T.length : Int), .int .u32 (S.length : Int)] 23)).trans (hb4.mono (by simp))
        have HB4 := Lib.hid (HB3.out.trans (hb34.mono HB3.out.size))
        have sR := (HSR3.out.below hb34).more hb34.size
        have sS := (HSS.out.below hb34).more hb34.size
        have sT := (HST.out.below hb34).more hb34.size
        rw [hR] at sR
        rw [hS] at sS
        rw [hT] at sT
        obtain ⟨n, hn⟩ : ∃ n, sumLen [(A4, 40, c4, foursL VS), (Ar, R.length, cr, R), (As, S.length, cs, S), (At, T.length, ct, T)] = n := ⟨_, rfl⟩
        have HCN := Lib.hid (concat_new w4 w4.heap.size rfl [(A4, 40, c4, foursL VS), (Ar, R.length, cr, R), (As, S.length, cs, S), (At, T.length, ct, T)] 4 #[.slice A4 40 c4, .slice Ar R.length cr, .slice As S.length cs, .slice At T.length ct] 26 rfl (by omega) rfl (by
          intro p hp
          simp only [List.mem_cons, List.not_mem_nil, or_false] at hp
          rcases hp with rfl | rfl | rfl | rfl
          · exact hs4
          · exact sR
          · exact sS
          · exact sT) (by simp only [sumLen]; omega))
        have HN : Hid (n = (blobT t).length) := Lib.hid (by rw [← hn, HBL.out]; simp only [sumLen]; omega)
        rw [hn] at HCN
        clear hs4 sR sS sT hb4 hb34
        have HNN := Lib.hid hn
        clear hn
        go_wp2_with fail
        refine HCN.out.mono ?_
        rintro e w5 ⟨A5, c5, rfl, hs5, h51, h52, hb5⟩
        have e5 : joined [(A4, 40, c4, foursL VS), (Ar, R.length, cr, R), (As, S.length, cs, S), (At, T.length, ct, T)] = blobT t := by
          simp only [joined, List.append_nil]; exact HJ.out
        rw [e5] at hs5
        have HS5 := Lib.hid hs5
        have HB5 := Lib.hid (HB4.out.trans (hb5.mono HB4.out.size))
        have H51 := Lib.hid h51
        have H52 := Lib.hid h52
        clear hs5 h51 h52 hb5 e5
        go_wp2
        go_ret2
        refine ⟨⟨fun h => absurd HE.out h, fun _ h => absurd h (by rw [HBL.out]; omega), fun _ _ => ⟨A5, c5, ?_, ?_, ?_, ?_⟩⟩, HB5.out⟩
        · rw [← HN.out]; rfl
        · have h := HS5.out; rw [HN.out] at h; exact h
        · rw [← HN.out]; exact H51.out
        · have := H52.out; unfold maxLen at this; omega
    · have HB3 := Lib.hid (HB2.out.trans (hb3.mono HB2.out.size))
      have hlt : 1048576 < (blobT t).length := by have := hst; have e : (structT t).length = (nodeN (textsN t.root []) t.root).length + 4 := by rw [hst, htx, List.length_append]; rfl
                                                  omega
      have HL := Lib.hid hlt
      clear hb3 hbig hlt hst htx hnl hts htb hbl
      go_wp2
      go_ret2
      exact ⟨⟨fun h => absurd HE.out h, fun _ _ => rfl, fun _ h => absurd h (Nat.not_le_of_gt HL.out)⟩, HB3.out⟩
  · have n1 : (E != 0) = true := by rw [bne_iff_ne]; exact hE0
    have HE0 := Lib.hid hE0
    clear hE0 hb1'
    go_wp2
    go_ret2
    exact ⟨⟨fun _ => by rw [HE.out]; rfl, fun h => absurd (HE.out.symm.trans h) HE0.out, fun h => absurd (HE.out.symm.trans h) HE0.out⟩, HB1.out⟩
end Go.Proofs.Ytnopcnbeklbfoaa

/-! Layer 5: Decode of any bytes; Layout; what a program that does nothing answers wrongly. -/
namespace Go.Proofs.Ytnopcnbeklbfoaa
open Go.RowKit
set_option linter.unusedVariables false
set_option linter.unusedSimpArgs false

/-- A header that is not refused. -/
def GoodH (zs : List Int) : Prop := (40 ≤ zs.length ∧ zs.length ≤ 1048576) ∧ headE zs.length (hcell zs 0) (hcell zs 1) (hcell zs 2) (hcell zs 3) (hcell zs 4) (hcell zs 5) (hcell zs 6) (hcell zs 8) (hcell zs 9) = 0
/-- The bytes are read as that tree. -/
structure ReadT (zs : List Int) (tr : Tr) : Prop where
  head : GoodH zs
  boot : tr.boot = hcell zs 7
  all : readAll zs = .ok (tr.rs, pureN tr.root)
  check : checkE tr = 0
theorem ReadT.one {zs : List Int} {a b : Tr} (ha : ReadT zs a) (hb : ReadT zs b) : a.boot = b.boot ∧ a.rs = b.rs ∧ pureN a.root = pureN b.root := by
  have h := ha.all.symm.trans hb.all
  have h := Except.ok.inj h
  simp only [Prod.mk.injEq] at h
  exact ⟨ha.boot.trans hb.boot.symm, h.1, h.2⟩
theorem ReadT.blob {zs : List Int} {a b : Tr} (ha : ReadT zs a) (hb : ReadT zs b) : blobT a = blobT b := by
  obtain ⟨h1, h2, h3⟩ := ha.one hb
  exact blob_pure h1 h2 h3
theorem ReadT.small {zs : List Int} {tr : Tr} (h : ReadT zs tr) : heftN tr.root ≤ 4 * zs.length + 32 ∧ (blobT tr).length ≤ 4 * zs.length + 1200 := read_small h.all h.check
/-- A formed tree's bytes are read as it. -/
theorem read_own {t : Tr} (hb : 0 ≤ t.boot ∧ t.boot ≤ 4294967295) (hr : ∀ r ∈ t.rs, 0 ≤ r.1 ∧ 0 ≤ r.2) (hc : checkE t = 0) (hl : (blobT t).length ≤ 1048576) : ReadT (blobT t) t := by
  have e := blob_length t
  simp only [headT, List.getD_cons_zero, List.getD_cons_succ] at e
  refine ⟨⟨⟨by omega, hl⟩, head_blob t hb (by omega)⟩, ?_, read_blob t hb hr hc (by omega), hc⟩
  rw [blob_head t hb (by omega) 7 (by omega)]
  simp only [headT, List.getD_cons_zero, List.getD_cons_succ]
  omega
theorem Tr.In.pos {w : World} {B : Nat} {t : Tr} (h : t.In w B) : ∀ r ∈ t.rs, 0 ≤ r.1 ∧ 0 ≤ r.2 := fun r hr => ⟨(h.nums r hr).1.1, (h.nums r hr).2.1⟩

theorem rootF_err_ne {S T : List Int} : ∀ (f : Nat) (st : PSt) (E : Int), rootF S T f st = .error E → E ≠ 0
  | 0, st, E, h => by rw [rootF] at h; simp only [Except.error.injEq] at h; omega
  | f + 1, st, E, h => by
    rw [rootF] at h
    split at h
    · simp only [Except.error.injEq] at h; omega
    · rename_i k hk
      by_cases hs : standB st.below.length st.top.kids.length k = false
      · rw [if_pos hs] at h; simp only [Except.error.injEq] at h; omega
      rw [if_neg hs] at h
      split at h
      · rename_i hr
        have e := Except.error.inj h
        rw [← e]
        exact readF_err_ne hr
      · by_cases h9 : k = 9
        · rw [if_pos h9] at h
          split at h
          · cases h
          · simp only [Except.error.injEq] at h; omega
        · rw [if_neg h9] at h
          exact rootF_err_ne f _ E h
theorem readAll_err_ne {zs : List Int} {E : Int} (h : readAll zs = .error E) : E ≠ 0 := by
  unfold readAll at h
  split at h
  · rename_i hr
    have e := Except.error.inj h
    rw [← e]
    exact resF_err_ne _ _ _ _ hr
  · split at h
    · rename_i hr
      have e := Except.error.inj h
      rw [← e]
      exact rootF_err_ne _ _ _ hr
    · cases h

/-- What Decode answers. -/
def DecAns (zs : List Int) (e : Ending) (w' : World) : Prop :=
  (∃ E, E ≠ 0 ∧ e = .returned (.tuple #[zeroTv, .int .i64 E]) ∧ ∀ tr, ¬ ReadT zs tr) ∨ (∃ tr : Tr, tr.In w' w'.heap.size ∧ ReadT zs tr ∧ e = .returned (.tuple #[tr.val, .int .i64 0]))

theorem decode_any (A : Option Addr) (n c : Nat) (zs : List Int) (w : World) (hs : Shows w w.heap.size A n zs) (hnc : n ≤ c) (hc : c ≤ 9223372036854775807) :
    Calls Try.prog 16 #[.slice A n c] w fun e w' => DecAns zs e w' ∧ Below w.heap.size w w' := by
  obtain rfl := hs.1
  by_cases h1 : 40 ≤ zs.length ∧ zs.length ≤ 1048576
  · by_cases hE : headE zs.length (hcell zs 0) (hcell zs 1) (hcell zs 2) (hcell zs 3) (hcell zs 4) (hcell zs 5) (hcell zs 6) (hcell zs 8) (hcell zs 9) = 0
    · refine (decode_good A _ c zs w hs h1.1 h1.2 hnc (by unfold maxLen; exact hc) hE).mono fun e w' h => ⟨?_, h.2⟩
      obtain ⟨⟨d1, d2⟩, _⟩ := h
      rcases hr : readAll zs with E | ⟨rs, pn⟩
      · exact .inl ⟨E, readAll_err_ne hr, d1 E hr, fun tr h => by rw [h.all] at hr; cases hr⟩
      · obtain ⟨tr, t1, t2, t3, t4, t5, t6⟩ := d2 rs pn hr
        subst t3 t4
        by_cases hck : checkE tr = 0
        · exact .inr ⟨tr, t1, ⟨⟨h1, hE⟩, t2, hr, hck⟩, t6 hck⟩
        · refine .inl ⟨_, hck, t5 hck, fun tr' h => ?_⟩
          have e := h.all.symm.trans hr
          have e := Except.ok.inj e
          simp only [Prod.mk.injEq] at e
          exact hck ((check_pure e.1 e.2).symm.trans h.check)
    · refine (decode_err A _ c (hcell zs) w _ hE (fun o => header_yes A _ c zs (w.alloc o) ((hs.below ((Below.refl _ _).alloc (Nat.le_refl _) o)).more (by simp)) h1.1 h1.2 hnc (by unfold maxLen; exact hc) _ rfl)).mono fun e w' h => ⟨.inl ⟨_, hE, h.1, fun tr k => hE k.head.2⟩, h.2⟩
  · refine (decode_err A _ c (fun _ => 0) w 4 (by decide) (fun o => (header_no A _ c (fun _ => 0) (w.alloc o) (by omega) (by omega)).mono fun e w' k => ⟨k.1, by rw [k.2]; exact (Below.refl _ _).alloc (Nat.le_refl _) _⟩)).mono fun e w' h => ⟨.inl ⟨4, by decide, h.1, fun tr k => h1 k.head.1⟩, h.2⟩

/-- The bytes are laid out as they should be. -/
def LayP (zs : List Int) : Prop := ∃ tr, ReadT zs tr ∧ zs = blobT tr

set_option maxRecDepth 20000 in
set_option maxHeartbeats 4000000 in
theorem layout_any (A : Option Addr) (n c : Nat) (zs : List Int) (w : World) (hs : Shows w w.heap.size A n zs) (hnc : n ≤ c) (hc : c ≤ 9223372036854775807) :
    Calls Try.prog 19 #[.slice A n c] w fun e w' => (∃ r : Bool, e = .returned (.bool r) ∧ (r = true ↔ LayP zs)) ∧ Below w.heap.size w w' := by
  have HS := Lib.hid hs
  have C0 := Lib.hid (decode_any A n c zs w hs hnc hc)
  clear hs
  go_enter Try.func19, Try.ntmps19
  go_wp2_with fail
  refine C0.out.mono ?_
  rintro e w1 ⟨⟨E, hE, rfl, hno⟩ | ⟨tr, hin, hrd, rfl⟩, hb⟩
  · have HB1 := Lib.hid (hb.alloc hb.size (.cells #[.int .u32 0, .slice none 0 0, .string ⟨#[]⟩, .slice none 0 0, .slice none 0 0] 40))
    have n1 : (E != 0) = true := by rw [bne_iff_ne]; exact hE
    have HN := Lib.hid (show false = true ↔ LayP zs from ⟨fun h => absurd h (by decide), fun ⟨tr, h, _⟩ => absurd h (hno tr)⟩)
    clear hE hno hb
    go_wp2
    go_ret
    exact ⟨⟨false, rfl, HN.out⟩, HB1.out⟩
  · obtain ⟨hs1, hs2⟩ := hrd.small
    have h20 := hrd.head.1.2
    have hck := hrd.check
    have HC := Lib.hid (fun W hW => encode_any tr W hW (by omega))
    obtain ⟨BT, hBT⟩ : ∃ BT, blobT tr = BT := ⟨_, rfl⟩
    have HE := Lib.hid (fun (e : Ending) (W : World) (h : EncOut tr e W) => show (1048576 < BT.length → e = .returned (.tuple #[.slice none 0 0, .int .i64 7])) ∧ (BT.length ≤ 1048576 → ∃ A c, e = .returned (.tuple #[.slice A BT.length c, .int .i64 0]) ∧ Shows W W.heap.size A BT.length BT ∧ BT.length ≤ c ∧ c ≤ 9223372036854775807) from by
      rw [← hBT]
      exact ⟨h.2.1 hck, h.2.2 hck⟩)
    have HL : Hid (LayP zs ↔ zs = BT) := Lib.hid ⟨fun ⟨t, h1, h2⟩ => h2.trans ((h1.blob hrd).trans hBT), fun h => ⟨tr, hrd, h.trans hBT.symm⟩⟩
    have HZ := Lib.hid h20
    have HI := Lib.hid hin
    have HB1 := Lib.hid hb
    clear hs1 hs2 h20 hck hrd hBT hb hin C0
    obtain ⟨boot, ra, rc, rs, ⟨nm, pa, pc, ps, ka, kc, ks⟩⟩ := tr
    show _
    have HW := Lib.hid (HB1.out.alloc HB1.out.size (.cells #[.int .u32 boot, .slice ra rs.length rc, .string nm, .slice pa ps.length pc, .slice ka ks.length kc] 40))
    have HW1 := Lib.hid ((Below.refl w1.heap.size w1).alloc (Nat.le_refl _) (.cells #[.int .u32 boot, .slice ra rs.length rc, .string nm, .slice pa ps.length pc, .slice ka ks.length kc] 40))
    simp only [Tr.val, Tr.rv, Nd.pv, Nd.kv, Nd.name, Nd.pa, Nd.pc, Nd.props, Nd.ka, Nd.kc, Nd.kids] at HC ⊢
    go_wp2_with fail
    refine (HC.out _ (HI.out.on HW1.out)).mono ?_
    rintro e w2 ⟨ho, hb2⟩
    have HB2 := Lib.hid (HW.out.trans (hb2.mono HW.out.size))
    obtain ⟨o1, o2⟩ := HE.out _ _ ho
    clear ho hb2
    by_cases hbig : 1048576 < BT.length
    · obtain rfl := o1 hbig
      have HN := Lib.hid (show false = true ↔ LayP zs from ⟨fun h => absurd h (by decide), fun h => by have := congrArg List.length (HL.out.1 h); have := HZ.out; omega⟩)
      clear o1 o2 hbig
      go_wp2
      go_ret
      exact ⟨⟨false, rfl, HN.out⟩, HB2.out⟩
    · obtain ⟨A2, c2, rfl, hs2, hc2, hc2'⟩ := o2 (by omega)
      have CE := Lib.hid (bequal_any A A2 n BT.length c c2 _ _ zs BT w2 (HS.out.below HB2.out) hs2 _ rfl)
      clear o1 o2 hbig hs2
      go_wp2_with fail
      refine CE.out.mono ?_
      rintro e w3 ⟨rfl, rfl⟩
      go_wp2
      go_ret
      exact ⟨⟨_, rfl, by rw [decide_eq_true_iff]; exact HL.out.symm⟩, HB2.out⟩
end Go.Proofs.Ytnopcnbeklbfoaa

/-! Layer 5: the empty tree: what a program that does nothing answers wrongly of it. -/
namespace Go.Proofs.Ytnopcnbeklbfoaa
open Go.RowKit
set_option linter.unusedVariables false
set_option linter.unusedSimpArgs false

/-- The empty tree. -/
def tr0 : Tr := ⟨0, none, 0, [], .mk ⟨#[]⟩ none 0 [] none 0 []⟩
theorem tr0_in (w : World) (B : Nat) : tr0.In w B :=
  ⟨⟨by decide, by decide⟩, ⟨by simp [tr0], by simp [tr0], by simp [tr0]⟩, fun h => absurd h (by simp [tr0]), fun r h => by simp [tr0] at h,
    .mk _ ⟨by decide, by simp [tr0, Nd.props], by simp [tr0, Nd.kids]⟩ (by simp [tr0, Nd.props, Nd.pc]) (by simp [tr0, Nd.pc]) (by simp [tr0, Nd.kids, Nd.kc]) (by simp [tr0, Nd.kc]) (fun h => absurd h (by simp [tr0, Nd.props])) (fun p h => by simp [tr0, Nd.props] at h) (fun h => absurd h (by simp [tr0, Nd.kids])) (fun k h => by simp [tr0, Nd.kids] at h)⟩
theorem tr0_check : checkE tr0 = 0 := by
  have e : wrongN tr0.root 1 = 0 := by
    rw [wrongN_mk, aloneE]
    simp [tr0, Nd.name, Nd.props, Nd.kids, nameOk, twiceB, wrongL]
  rw [checkE, if_pos e, manyE]
  simp [tr0, nodesN, nodesL, propsN, propsL, wrap64]
theorem tr0_blob : (blobT tr0).length = 72 := by
  rw [blob_length]
  simp only [headT, List.getD_cons_zero, List.getD_cons_succ]
  decide +kernel

set_option maxRecDepth 20000 in
set_option maxHeartbeats 4000000 in
theorem awake5 (w : World) : Calls Try.prog 17 #[] w fun e w' => e = .returned (.bool true) ∧ Below w.heap.size w w' := by
  have C0 := Lib.hid ((encode_any tr0 w (tr0_in w _) (by decide)).mono fun e w' h => show (∃ A c, e = .returned (.tuple #[.slice A 72 c, .int .i64 0]) ∧ Shows w' w'.heap.size A 72 (blobT tr0) ∧ 72 ≤ c ∧ c ≤ 9223372036854775807) ∧ Below w.heap.size w w' from ⟨by
    have := h.1.2.2 tr0_check (by rw [tr0_blob]; decide)
    rwa [tr0_blob] at this, h.2⟩)
  have LP : Hid (LayP (blobT tr0)) := Lib.hid ⟨tr0, read_own ⟨by decide, by decide⟩ (fun r h => by simp [tr0] at h) tr0_check (by rw [tr0_blob]; decide), rfl⟩
  replace C0 : Hid (Calls Try.prog 18 #[.agg #[.int .u32 0, .slice none 0 0, .string ⟨#[]⟩, .slice none 0 0, .slice none 0 0]] w _) := C0
  go_enter Try.func17, Try.ntmps17
  go_wp2_with fail
  refine C0.out.mono ?_
  rintro e w1 ⟨⟨A, c, rfl, hs, hc, hc'⟩, hb⟩
  have HB1 := Lib.hid hb
  have C1 := Lib.hid (layout_any A 72 c _ w1 hs hc hc')
  clear hs hb
  go_wp2_with fail
  refine C1.out.mono ?_
  rintro e w2 ⟨⟨r, rfl, hr⟩, hb⟩
  obtain rfl := hr.2 LP.out
  have HB2 := Lib.hid (HB1.out.trans (hb.mono HB1.out.size))
  clear hb hr
  go_wp2
  go_ret
  exact ⟨rfl, HB2.out⟩
end Go.Proofs.Ytnopcnbeklbfoaa
