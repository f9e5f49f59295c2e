/-
  The document's blob: the names of properties, each once, in order.
-/
import Derived.Test.YtmgokplpkmndoaaGreatTCount
import Derived.Test.YtmgokplpkmndoaaGreatTIdx
import Derived.Test.YtmgokplpkmndoaaGreatDBytes
import Derived.Deep.QuietTactic
import Derived.BigQuiet
namespace Go.Proofs.YtmgokplpkmndoaaGreat
open Go.RowKit
set_option linter.unusedVariables false
set_option linter.unusedSimpArgs false

/-- Is a name there? -/
def hasT (l : List ByteArray) (s : ByteArray) : Bool := l.any fun x => decide (x = s)
theorem hasT_next (l : List ByteArray) (s : ByteArray) (j : Nat) (h : j < l.length) : hasT (l.take (j + 1)) s = (hasT (l.take j) s || decide (l[j] = s)) := by
  unfold hasT
  rw [take_next l j h, List.any_append]
  simp
/-- A name behind those ahead, if it isn't there. -/
def addT (l : List ByteArray) (s : ByteArray) : List ByteArray := if hasT l s = true then l else l ++ [s]
mutual
def textsN : Nd → List ByteArray → List ByteArray
  | .mk _ _ _ ps _ _ ks, l => textsL ks ((ps.map PV.name).foldl addT l)
def textsL : List Nd → List ByteArray → List ByteArray
  | [], l => l
  | k :: r, l => textsL r (textsN k l)
end
theorem textsL_append : ∀ (a b : List Nd) (l : List ByteArray), textsL (a ++ b) l = textsL b (textsL a l)
  | [], b, l => by simp [textsL]
  | x :: a, b, l => by simp only [List.cons_append, textsL, textsL_append a b]
theorem textsL_next (ks : List Nd) (j : Nat) (h : j < ks.length) (l : List ByteArray) : textsL (ks.take (j + 1)) l = textsN ks[j] (textsL (ks.take j) l) := by
  rw [take_next ks j h, textsL_append]; simp [textsL]
theorem addT_length (l : List ByteArray) (s : ByteArray) : (addT l s).length ≤ l.length + 1 := by
  unfold addT; split <;> simp
theorem fold_length : ∀ (ns l : List ByteArray), (ns.foldl addT l).length ≤ l.length + ns.length
  | [], l => by simp
  | s :: ns, l => by
    have h1 := addT_length l s
    have h2 := fold_length ns (addT l s)
    simp only [List.foldl_cons, List.length_cons]
    omega
theorem texts_length_all (l0 : List ByteArray) : True := trivial
theorem textsN_length : ∀ (n : Nd) (l : List ByteArray), (textsN n l).length ≤ l.length + propsN n := by
  refine Nd.ind ?_
  intro n ih l
  obtain ⟨nm, pa, pc, ps, ka, kc, ks⟩ := n
  have hl : ∀ (r : List Nd), (∀ k ∈ r, k ∈ ks) → ∀ l, (textsL r l).length ≤ l.length + propsL r := by
    intro r
    induction r with
    | nil => intro _ l; simp [textsL]
    | cons k r ihr =>
      intro hr l
      have h1 := ih k (hr k (by simp)) l
      have h2 := ihr (fun x hx => hr x (by simp [hx])) (textsN k l)
      simp only [textsL, propsL]
      omega
  have h1 := fold_length (ps.map PV.name) l
  have h2 := hl ks (fun _ h => h) ((ps.map PV.name).foldl addT l)
  simp only [textsN, propsN]
  simp only [List.length_map] at h1
  omega
theorem propsL_take (ks : List Nd) (j : Nat) : propsL (ks.take j) ≤ propsL ks := by
  conv => rhs; rw [← List.take_append_drop j ks, propsL_append]
  omega
theorem textsL_length (ks : List Nd) (l : List ByteArray) : (textsL ks l).length ≤ l.length + propsL ks := by
  induction ks generalizing l with
  | nil => simp [textsL]
  | cons k r ih =>
    have h1 := textsN_length k l
    have h2 := ih (textsN k l)
    simp only [textsL, propsL]
    omega

/-! ### Rows of texts -/
abbrev strs (l : List ByteArray) : List Value := l.map Value.string
theorem info_strD : (Tryz.prog.info? 9).map (fun i => (i.zero, i.size, i.bytes)) = some (some (.string ⟨#[]⟩), 1, 16) := by kernel_rfl

/-- A row of texts that the call owns, as a slice. -/
theorem own_slice {w : World} {base n : Nat} {t : TypeId} {v : Value} {xs : List Value} (h : w.ownsRow base t 1 v n xs) :
    ∃ A c, v = .slice A n c ∧ n ≤ c ∧ c ≤ 9223372036854775807 ∧ (0 < n → ∃ g, A = some ⟨g, 0, none⟩ ∧ v.ownBlock = some g ∧ g < w.heap.size ∧ ∀ k, k < n → w.cell? ⟨g, k, none⟩ = xs[k]?) := by
  obtain ⟨hl, ⟨rfl, rfl⟩ | ⟨g, cap, cur, rfl, hb, hg, hnc, hcm, hsz, htk⟩⟩ := h
  · exact ⟨none, 0, rfl, Nat.le_refl _, by omega, fun h => absurd h (Nat.lt_irrefl 0)⟩
  · refine ⟨_, cap, rfl, hnc, hcm, fun _ => ⟨g, rfl, rfl, (Array.getElem?_eq_some_iff.1 hg).1, fun k hk => ?_⟩⟩
    have e : w.cell? ⟨g, k, none⟩ = cur[k]? := by simp [World.cell?, hg]
    rw [e, ← htk, List.getElem?_take_of_lt (by omega), Array.getElem?_toList]

/-- One text more. -/
theorem run_append_text (w : World) (base : Nat) (v : Value) (n : Nat) (xs : List Value) (hown : w.ownsRow base 9 1 v n xs) (g : Nat) (s : ByteArray) (hc : w.cell? ⟨g, 0, none⟩ = some (.string s))
    (hn : (n + 1) * 16 ≤ 140737488351232) (hbase : base ≤ w.heap.size) (ty : TypeId) :
    ∃ v' w', (Builtin.append_ #[101, 101] ty #[v, .slice (some ⟨g, 0, none⟩) 1 1]).run Tryz.prog w = .ok v' w' ∧ w'.ownsRow base 9 1 v' (n + 1) (xs ++ [.string s]) ∧ w.grownBy w' v.ownBlock ∧ (v'.ownBlock = v.ownBlock ∨ v'.ownBlock = some w.heap.size) := by
  obtain ⟨i0, hi0, hz0, hz1, hz2⟩ := info_parts info_strD
  obtain ⟨v', w', h1, h2, h3, _, h5⟩ := run_append_own_at (P := Tryz.prog) w base 101 ty 9 i0 (.string ⟨#[]⟩) 1 16 Tryz.underlying101 hi0 hz0 hz1 hz2 rfl (by omega) v n xs hown ⟨g, 0, none⟩ 1 1 [.string s] rfl
    (fun j u hj => by
      match j, hj with
      | 0, hj => simp at hj; subst hj; rw [addr_add]; exact hc)
    (fun u hu => by simp at hu; subst hu; rfl) (by unfold maxLen; omega) (by omega) hbase
  exact ⟨v', w', h1, h2, h3, h5⟩

/-- What texts leaves: a row of its own, in the old one's block or a new one. -/
def TState (w0 : World) (B1 : Nat) (r0 : Option Nat) (wr : World) (v : Value) (l : List ByteArray) : Prop :=
  wr.ownsRow B1 9 1 v l.length (strs l) ∧ w0.grownBy wr r0 ∧ (v.ownBlock = r0 ∨ ∃ g, v.ownBlock = some g ∧ w0.heap.size ≤ g)
def TOut (w : World) (B1 : Nat) (v : Value) (l : List ByteArray) (e : Ending) (w' : World) : Prop := ∃ v', e = .returned v' ∧ TState w B1 v.ownBlock w' v' l

theorem TState.step {w0 wr w' : World} {B1 : Nat} {r0 : Option Nat} {v v' : Value} {l l' : List ByteArray} (h : TState w0 B1 r0 wr v l) (h' : TState wr B1 v.ownBlock w' v' l') : TState w0 B1 r0 w' v' l' := by
  obtain ⟨h1, h2, h3⟩ := h
  obtain ⟨k1, k2, k3⟩ := h'
  refine ⟨k1, ⟨k2.os.trans h2.os, k2.tape.trans h2.tape, k2.output.trans h2.output, Nat.le_trans h2.size k2.size, fun i hi hne => ?_⟩, ?_⟩
  · refine (k2.block i (Nat.lt_of_lt_of_le hi h2.size) ?_).trans (h2.block i hi hne)
    rcases h3 with e | ⟨g, e, hg⟩
    · rw [e]; exact hne
    · rw [e]; intro e2; injection e2 with e2; omega
  · rcases k3 with e | ⟨g, e, hg⟩
    · rw [e]; exact h3
    · exact .inr ⟨g, e, Nat.le_trans h2.size hg⟩
theorem TState.drewN {w0 wr : World} {B1 : Nat} {r0 : Option Nat} {v : Value} {l : List ByteArray} (h : TState w0 B1 r0 wr v l) (q : Nat) : TState w0 B1 r0 (wr.drewN q) v l :=
  ⟨h.1, ⟨h.2.1.os, h.2.1.tape, h.2.1.output, h.2.1.size, h.2.1.block⟩, h.2.2⟩
/-- Behind a new block. -/
theorem TState.box {w w' : World} {o : Obj} {B1 : Nat} {r0 : Option Nat} {v : Value} {l : List ByteArray} (h : TState (w.alloc o) B1 r0 w' v l) : TState w B1 r0 w' v l := by
  obtain ⟨h1, h2, h3⟩ := h
  refine ⟨h1, ⟨h2.os, h2.tape, h2.output, Nat.le_trans (by simp) h2.size, fun i hi hne => (h2.block i (by simp; omega) hne).trans (heap_alloc_old w o hi)⟩, ?_⟩
  rcases h3 with e | ⟨g, e, hg⟩
  · exact .inl e
  · exact .inr ⟨g, e, by simp at hg; omega⟩
/-- Cells of blocks that are another's. -/
theorem TState.cell {w0 wr : World} {B1 : Nat} {r0 : Option Nat} {v : Value} {l : List ByteArray} (h : TState w0 B1 r0 wr v l) {a : Addr} (ha : a.block < w0.heap.size) (hr : some a.block ≠ r0) : wr.cell? a = w0.cell? a :=
  World.cell?_of_block (h.2.1.block a.block ha hr)

theorem TState.append {w0 wr : World} {B1 : Nat} {r0 : Option Nat} {v : Value} {l : List ByteArray} (h : TState w0 B1 r0 wr v l) (hB : B1 ≤ wr.heap.size) (hn : (l.length + 1) * 16 ≤ 140737488351232) (q : Nat) (s : ByteArray) (ty : TypeId) :
    ∃ v' w', (Builtin.append_ #[101, 101] ty #[v, .slice (some ⟨wr.heap.size, 0, none⟩) 1 1]).run Tryz.prog ((wr.drewN q).alloc (.cells #[.string s] 9)) = .ok v' w' ∧ TState w0 B1 r0 w' v' (l ++ [s]) := by
  obtain ⟨v', w', h1, h2, h3, h4⟩ := run_append_text ((wr.drewN q).alloc (.cells #[.string s] 9)) B1 v l.length (strs l) (World.ownsRow.alloc (w := wr.drewN q) h.1 _) wr.heap.size s (World.cell?_alloc_new (wr.drewN q) _ _ _) hn (by simp; omega) ty
  refine ⟨v', w', h1, h.step ?_⟩
  refine TState.box (w := wr) (o := .cells #[.string s] 9) ⟨by simpa using h2, ⟨h3.os, h3.tape, h3.output, h3.size, h3.block⟩, ?_⟩
  rcases h4 with e | e
  · exact .inl e
  · exact .inr ⟨_, e, Nat.le_refl _⟩

end Go.Proofs.YtmgokplpkmndoaaGreat
