/-
  Layer 14: spots (where a node stands, with a pointer to the one above), the map from handles to spots, and the reader's box.
-/
import Derived.Test.YtapfcbcojnplaaaBase4
import Derived.Test.YtapfcbcojnplaaaRCheck
import Derived.Maps.AppendAt
import Derived.Laws.Pointers
import Derived.BigQuiet
namespace Go.Proofs.Ytapfcbcojnplaaa
open Go.RowKit Go.Maps Go.WideMaps
set_option linter.unusedVariables false
set_option linter.unusedSimpArgs false

/-- The spot of the node at a place lies in block b. -/
inductive Spot (w : World) (R : Nd) (D : Nat → Prop) : Nat → List Nat → Nd → Prop
  | root {b : Nat} : D b → w.heap[b]? = some (.cells #[.string R.name, R.pv, R.kv, .pointer none, .int .i64 0] 74 (0, 0)) → Spot w R D b [] R
  | kid {a b i : Nat} {z : List Nat} {x k : Nd} : Spot w R D a z x → x.kids[i]? = some k → D b → w.heap[b]? = some (.cells #[.string k.name, k.pv, k.kv, .pointer (some ⟨a, 0, none⟩), .int .i64 i] 74 (0, 0)) → Spot w R D b (z ++ [i]) k
/-- Spots stay. -/
def Sp (w w' : World) : Prop := ∀ (j : Nat) (c : Array Value), w.heap[j]? = some (Obj.cells c 74 (0, 0)) → w'.heap[j]? = w.heap[j]?
section
variable {w w' w'' : World} {R x : Nd} {D D' : Nat → Prop} {b : Nat} {z : List Nat}
theorem Sp.refl (w : World) : Sp w w := fun _ _ _ => rfl
theorem Sp.trans (h : Sp w w') (k : Sp w' w'') : Sp w w'' := fun j c e => (k j c ((h j c e).trans e)).trans (h j c e)
theorem Sp.of_below (h : Below w.heap.size w w') : Sp w w' := fun j c e => h.block j (Array.getElem?_eq_some_iff.1 e).1
theorem Sp.grown {g : Nat} {es : Array MapEntry} {cl : Nat} (h : w.grownBy w' (some g)) (hg : w.heap[g]? = some (.map es cl)) : Sp w w' := fun j c e => h.block j (Array.getElem?_eq_some_iff.1 e).1 (fun q => by
  rw [Option.some.inj q, hg] at e
  cases e)
theorem Spot.sp (h : Spot w R D b z x) (k : Sp w w') : Spot w' R D b z x := by
  induction h with
  | root hd e => exact .root hd ((k _ _ e).trans e)
  | kid _ hk hd e ih => exact .kid ih hk hd ((k _ _ e).trans e)
theorem Spot.keep (h : Spot w R D b z x) (k : ∀ j, D j → j < w.heap.size → w'.heap[j]? = w.heap[j]?) : Spot w' R D b z x := by
  induction h with
  | root hd e => exact .root hd ((k _ hd (Array.getElem?_eq_some_iff.1 e).1).trans e)
  | kid _ hk hd e ih => exact .kid ih hk hd ((k _ hd (Array.getElem?_eq_some_iff.1 e).1).trans e)
theorem Spot.sub (h : Spot w R D b z x) (k : ∀ j, D j → j < w.heap.size → D' j) : Spot w R D' b z x := by
  induction h with
  | root hd e => exact .root (k _ hd (Array.getElem?_eq_some_iff.1 e).1) e
  | kid _ hk hd e ih => exact .kid ih hk (k _ hd (Array.getElem?_eq_some_iff.1 e).1) e
theorem Spot.on (h : Spot w R D b z x) (k : Below w.heap.size w w') : Spot w' R D b z x := h.sp (.of_below k)
theorem Spot.heap (h : Spot w R D b z x) : ∃ a i, w.heap[b]? = some (.cells #[.string x.name, x.pv, x.kv, .pointer a, .int .i64 i] 74 (0, 0)) := by
  cases h with
  | root _ e => exact ⟨_, _, e⟩
  | kid _ _ _ e => exact ⟨_, _, e⟩
theorem Spot.inv (h : Spot w R D b z x) : (z = [] ∧ x = R ∧ w.heap[b]? = some (.cells #[.string R.name, R.pv, R.kv, .pointer none, .int .i64 0] 74 (0, 0))) ∨ ∃ a i z' x', z = z' ++ [i] ∧ Spot w R D a z' x' ∧ x'.kids[i]? = some x ∧ w.heap[b]? = some (.cells #[.string x.name, x.pv, x.kv, .pointer (some ⟨a, 0, none⟩), .int .i64 (i : Nat)] 74 (0, 0)) := by
  cases h with
  | root _ e => exact .inl ⟨rfl, rfl, e⟩
  | kid h1 h2 _ h3 => exact .inr ⟨_, _, _, _, rfl, h1, h2, h3⟩
theorem Spot.lt (h : Spot w R D b z x) : b < w.heap.size := by
  obtain ⟨a, i, e⟩ := h.heap
  exact (Array.getElem?_eq_some_iff.1 e).1
theorem Spot.node (h : Spot w R D b z x) : nodeZ R (z.map Int.ofNat) = some x := by
  induction h with
  | root _ e => rfl
  | @kid a b i z x k _ hk _ e ih =>
    rw [List.map_append, List.map_cons, List.map_nil, nodeZ_append, ih]
    simp only [nodeZ, Int.ofNat_eq_natCast, Int.toNat_natCast, hk]
    rw [if_neg (by omega)]
theorem Spot.inn (h : Spot w R D b z x) {v : World} {B : Nat} (hin : R.In v B) : x.In v B := nodeZ_in _ hin h.node
theorem kid_heft {x k : Nd} {i : Nat} (h : x.kids[i]? = some k) : 16 + heftN k ≤ heftN x := by
  obtain ⟨hlt, rfl⟩ := List.getElem?_eq_some_iff.1 h
  have h2 := heftL_next x.kids _ hlt
  have h3 := heftL_take x.kids (i + 1)
  have h4 : heftN x = 16 + x.name.size + (x.props.map heftP).sum + heftL x.kids := by cases x; rw [heftN]; rfl
  omega
theorem Spot.len (h : Spot w R D b z x) : 16 * z.length + heftN x ≤ heftN R := by
  induction h with
  | root _ e => simp
  | kid _ hk _ e ih =>
    have := kid_heft hk
    rw [List.length_append, List.length_singleton]
    omega
end

open Classical in
/-- A value reads, if it is good. -/
noncomputable def okP (P : Value → Prop) (v : Value) : Option (DataW Unit × List MemPlace) := if P v then some (.agg [], []) else none
theorem okP_good {P : Value → Prop} {v : Value} (h : P v) : okP P v = some (.agg [], []) := by unfold okP; rw [if_pos h]
theorem okP_inv {P : Value → Prop} {v : Value} {z : DataW Unit × List MemPlace} (h : okP P v = some z) : P v ∧ z = (.agg [], []) := by
  unfold okP at h
  by_cases hp : P v
  · rw [if_pos hp] at h
    exact ⟨hp, (Option.some.inj h).symm⟩
  · rw [if_neg hp] at h
    cases h
/-- A pointer to a spot. -/
def GoodS (w : World) (R : Nd) (D : Nat → Prop) (v : Value) : Prop := ∃ b z x, v = .pointer (some ⟨b, 0, none⟩) ∧ Spot w R D b z x
/-- Block g is a map by handles, of at most n values, all of them spots. -/
def MZ (w : World) (R : Nd) (D : Nat → Prop) (g n : Nat) : Prop := ∃ X, w.ownsMap Try.prog 22 (okP (GoodS w R D)) g n X
section
variable {w w' : World} {R : Nd} {D D' : Nat → Prop} {g n : Nat}
theorem GoodS.sp {v : Value} (h : GoodS w R D v) (k : Sp w w') : GoodS w' R D v := by
  obtain ⟨b, z, x, e, hs⟩ := h
  exact ⟨b, z, x, e, hs.sp k⟩
theorem MZ.new (h : w.heap[g]? = some (.map #[] 0)) : MZ w R D g 0 := ⟨_, #[], 0, h, ⟨by simp, Go.MapKept.stamped_empty 0, by simp⟩, Nat.le_refl _, rfl⟩
theorem MZ.heap (h : MZ w R D g n) : ∃ es cl, w.heap[g]? = some (.map es cl) := by
  obtain ⟨X, es, cl, h1, h2⟩ := h
  exact ⟨es, cl, h1⟩
theorem MZ.lt (h : MZ w R D g n) : g < w.heap.size := by
  obtain ⟨es, cl, h1⟩ := h.heap
  exact (Array.getElem?_eq_some_iff.1 h1).1
theorem MZ.more {n' : Nat} (h : MZ w R D g n) (hn : n ≤ n') : MZ w R D g n' := by
  obtain ⟨X, es, cl, h1, h2, h3, h4⟩ := h
  exact ⟨X, es, cl, h1, h2, Nat.le_trans h3 hn, h4⟩
theorem MZ.sp (h : MZ w R D g n) (hg : w'.heap[g]? = w.heap[g]?) (k : Sp w w') : MZ w' R D g n := by
  obtain ⟨X, es, clock, hb, F, hs, hX⟩ := h
  obtain ⟨es', cl', h1, h2, h3, h4⟩ := World.ownsMap_of_fit (w := w') (R := okP (GoodS w' R D)) (hg.trans hb) F (fun x hx z hz => by
    obtain ⟨h1, rfl⟩ := okP_inv hz
    exact okP_good (h1.sp k))
  exact ⟨_, es', cl', h1, h2, Nat.le_trans h3 hs, h4⟩
/-- Only the map and the blocks D count. -/
theorem MZ.keep (h : MZ w R D g n) (hg : w'.heap[g]? = w.heap[g]?) (hs : ∀ j, D j → j < w.heap.size → D' j) (k : ∀ j, D j → j < w.heap.size → w'.heap[j]? = w.heap[j]?) : MZ w' R D' g n := by
  obtain ⟨X, es, clock, hb, F, hn, hX⟩ := h
  obtain ⟨es', cl', h1, h2, h3, h4⟩ := World.ownsMap_of_fit (w := w') (R := okP (GoodS w' R D')) (hg.trans hb) F (fun x hx z hz => by
    obtain ⟨⟨b, z, x, e, hsp⟩, rfl⟩ := okP_inv hz
    exact okP_good ⟨b, z, x, e, (hsp.sub (D' := fun j => D j ∧ D' j) (fun j h1 h2 => ⟨h1, hs j h1 h2⟩)).keep (fun j h1 h2 => k j h1.1 h2) |>.sub (fun j h1 _ => h1.2)⟩)
  exact ⟨_, es', cl', h1, h2, Nat.le_trans h3 hn, h4⟩
theorem MZ.on (h : MZ w R D g n) (k : Below w.heap.size w w') : MZ w' R D g n := h.sp (k.block _ h.lt) (.of_below k)
theorem zeroSpot (w : World) : (zeroValue 50).run Try.prog w = .ok (.pointer none) w := by kernel_rfl
/-- v, ok := m[h] -/
theorem MZ.look (h : MZ w R D g n) {k : Int} (h0 : 0 ≤ k ∧ k ≤ 4294967295) :
    ∃ v r, (Instr.lookup 47 (.map (some g)) (.int .u32 k) true).run Try.prog w = .ok (.tuple #[v, .bool r]) w ∧ (r = true → GoodS w R D v) ∧ (r = false → v = .pointer none) := by
  obtain ⟨X, es, clock, hb, F, hs, hX⟩ := h
  rcases Maps.fit_look true lawU Try.underlying47 (zeroSpot w) hb F (keyH_ok h0.1 h0.2) with ⟨hrun, _, _⟩ | ⟨e0, y, _, _, hrun, hR, _⟩
  · exact ⟨_, false, hrun, fun h => (by cases h), fun _ => rfl⟩
  · exact ⟨_, true, hrun, fun _ => (okP_inv hR).1, fun h => by cases h⟩
/-- m[h] = v -/
theorem MZ.store (h : MZ w R D g n) {v : Value} (hP : GoodS w R D v) {k : Int} (h0 : 0 ≤ k ∧ k ≤ 4294967295) (hn : n < maxLen) :
    ∃ w', (Instr.mapUpdate 47 (.map (some g)) (.int .u32 k) v).run Try.prog w = .ok () w' ∧ MZ w' R D g (n + 1) ∧ w.grownBy w' (some g) ∧ Sp w w' := by
  obtain ⟨es0, cl0, hb0⟩ := h.heap
  obtain ⟨X, h⟩ := h
  obtain ⟨w', h1, h2, h3⟩ := h.store lawU Try.underlying47 hn (keyH_ok h0.1 h0.2) (okP_good hP)
  have hsp := Sp.grown h3.grown hb0
  obtain ⟨es, clock, hb, F, hs, hX⟩ := h2
  obtain ⟨es', cl', g1, g2, g3, g4⟩ := World.ownsMap_of_fit (w := w') (R := okP (GoodS w' R D)) hb F (fun x hx z hz => by
    obtain ⟨h1, rfl⟩ := okP_inv hz
    exact okP_good (h1.sp hsp))
  exact ⟨w', h1, ⟨_, es', cl', g1, g2, Nat.le_trans g3 hs, g4⟩, h3.grown, hsp⟩
theorem makeMapZ (w : World) : (Instr.makeMap 47 none).run Try.prog w = .ok (.map (some w.heap.size)) (w.alloc (.map #[] 0)) := by
  simp [Instr.makeMap, run_underlying Try.underlying47, asInt, asIntOf, Result.andThen]
end

/-- The reader's box. -/
def rbox (t : Tr) (own : Option Nat) (er : Int) : Obj := .cells #[.int .u32 t.boot, t.rv, .string t.root.name, t.root.pv, t.root.kv, .map own, .int .i64 er] 49 (0, 0)
/-- Block r is a reader of t; its map, if it has one, lies from B on, in a block of D, as its spots do. -/
def Rd (w : World) (B r : Nat) (t : Tr) (D : Nat → Prop) : Prop := B ≤ r ∧ ∃ own er, w.heap[r]? = some (rbox t own er) ∧ ∀ g, own = some g → (B ≤ g ∧ D g) ∧ ∃ n, MZ w t.root D g n
/-- What a call of the reader's does: of what was there only the reader's box may have turned. -/
structure Tn (B r : Nat) (w w' : World) : Prop where
  below : Below B w w'
  same : ∀ k, k < w.heap.size → k ≠ r → w'.heap[k]? = w.heap[k]?
section
variable {w w' w'' : World} {B r : Nat} {t : Tr} {D D' : Nat → Prop}
theorem Tn.refl (B r : Nat) (w : World) : Tn B r w w := ⟨Below.refl _ _, fun _ _ _ => rfl⟩
theorem Tn.of_below (h : Below w.heap.size w w') (hB : B ≤ w.heap.size) : Tn B r w w' := ⟨h.mono hB, fun k hk _ => h.block k hk⟩
theorem Tn.trans (h : Tn B r w w') (k : Tn B r w' w'') : Tn B r w w'' := ⟨h.below.trans k.below, fun j hj hr => (k.same j (Nat.lt_of_lt_of_le hj h.below.size) hr).trans (h.same j hj hr)⟩
theorem Rd.lt (h : Rd w B r t D) : r < w.heap.size := by
  obtain ⟨_, own, er, h1, _⟩ := h
  exact (Array.getElem?_eq_some_iff.1 h1).1
theorem Rd.keep (h : Rd w B r t D) (hs : ∀ j, D j → j < w.heap.size → D' j) (k : ∀ j, (j = r ∨ D j) → j < w.heap.size → w'.heap[j]? = w.heap[j]?) : Rd w' B r t D' := by
  have hlt := h.lt
  obtain ⟨h0, own, er, h1, h2⟩ := h
  refine ⟨h0, own, er, (k _ (.inl rfl) hlt).trans h1, fun g hg => ?_⟩
  obtain ⟨⟨h3, h5⟩, n, h4⟩ := h2 g hg
  exact ⟨⟨h3, hs g h5 h4.lt⟩, n, h4.keep (k g (.inr h5) h4.lt) hs (fun j hj hl => k j (.inr hj) hl)⟩
theorem Rd.on (h : Rd w B r t D) (k : Below w.heap.size w w') : Rd w' B r t D := h.keep (fun _ h _ => h) (fun j _ hl => k.block j hl)
theorem Tn.sp (h : Tn B r w w') (hr : Rd w B r t D) : Sp w w' := fun j c e => h.same j (Array.getElem?_eq_some_iff.1 e).1 (fun q => by
  obtain ⟨_, own, er, h1, _⟩ := hr
  rw [q, h1] at e
  simp only [rbox, Option.some.injEq, Obj.cells.injEq] at e
  exact absurd e.2.1 (by decide))
end
end Go.Proofs.Ytapfcbcojnplaaa
