/-
  Rows of one cell an element, of any type: slices that show values, rows of a call's own, append.
-/
import Derived.Test.YtjilkifecdigfaaMem
import Derived.Deep.OwnRows
import Derived.Deep.Strs
import Derived.Great.BuildSlice
import Derived.Lib.SlFresh
namespace Go.Proofs.Ytjilkifecdigfaa
open Go.RowKit
set_option linter.unusedVariables false
set_option linter.unusedSimpArgs false

/-- A slice shows these values, one cell each, in a block below B. -/
def Cel (w : World) (B : Nat) (A : Option Addr) (n : Nat) (xs : List Value) : Prop :=
  xs.length = n ∧ (0 < n → ∃ b o, A = some ⟨b, o, none⟩ ∧ b < B ∧ ∀ i, i < n → w.cell? ⟨b, o + i, none⟩ = xs[i]?)
section
variable {w w' : World} {B B' n : Nat} {A : Option Addr} {xs : List Value}
theorem Cel.at_ (h : Cel w B A n xs) (hn : 0 < n) : ∃ b o, A = some ⟨b, o, none⟩ ∧ b < B ∧ ∀ i, i < n → w.cell? ⟨b, o + i, none⟩ = xs[i]? := h.2 hn
theorem Cel.nil (w : World) (B : Nat) (A : Option Addr) : Cel w B A 0 [] := ⟨rfl, fun h => absurd h (Nat.lt_irrefl 0)⟩
theorem Cel.keep (h : Cel w B A n xs) (hk : ∀ p : Addr, p.block < B → w'.cell? p = w.cell? p) : Cel w' B A n xs :=
  ⟨h.1, fun hn => by
    obtain ⟨b, o, e, hb, hc⟩ := h.2 hn
    exact ⟨b, o, e, hb, fun i hi => (hk _ hb).trans (hc i hi)⟩⟩
theorem Cel.below (h : Cel w B A n xs) (hb : Below B w w') : Cel w' B A n xs := h.keep fun _ hp => hb.cell hp
theorem Cel.more (h : Cel w B A n xs) (hB : B ≤ B') : Cel w B' A n xs :=
  ⟨h.1, fun hn => by
    obtain ⟨b, o, e, hb, hc⟩ := h.2 hn
    exact ⟨b, o, e, by omega, hc⟩⟩
theorem Cel.on (h : Cel w w.heap.size A n xs) (hb : Below w.heap.size w w') : Cel w' w'.heap.size A n xs := (h.below hb).more hb.size
theorem Cel.upto {k : Nat} (h : Cel w B A n xs) (hk : k ≤ n) : Cel w B A k (xs.take k) :=
  ⟨by rw [List.length_take, h.1]; omega, fun h0 => by
    obtain ⟨b, o, e, hb, hc⟩ := h.2 (by omega)
    exact ⟨b, o, e, hb, fun i hi => by rw [List.getElem?_take_of_lt hi]; exact hc i (by omega)⟩⟩
theorem Cel.from_ {l c : Nat} (h : Cel w B A n xs) (hl : l ≤ n) (hc : n ≤ c) : Cel w B (cutAt A c l) (n - l) (xs.drop l) :=
  ⟨by rw [List.length_drop, h.1], fun h0 => by
    obtain ⟨b, o, e, hb, hcc⟩ := h.2 (by omega)
    subst e
    have e : cutAt (some ⟨b, o, none⟩) c l = some ⟨b, o + l, none⟩ := by
      unfold cutAt
      rw [if_neg (by omega)]
      simp [addr_add]
    exact ⟨b, o + l, e, hb, fun i hi => by rw [List.getElem?_drop, Nat.add_assoc]; exact hcc (l + i) (by omega)⟩⟩
theorem Cel.drewN (h : Cel w B A n xs) (k : Nat) : Cel (w.drewN k) B A n xs := h
end

/-- What a call has made shows its values. -/
theorem owned_cel {w : World} {base n : Nat} {e : TypeId} {v : Value} {xs : List Value} (h : w.ownsRow base e 1 v n xs) : ∃ A c, v = .slice A n c ∧ Cel w w.heap.size A n xs ∧ n ≤ c ∧ c ≤ 9223372036854775807 ∧ (∀ b, v.ownBlock = some b → base ≤ b ∧ b < w.heap.size) := by
  obtain ⟨hl, ⟨rfl, rfl⟩ | ⟨g, cap, cur, rfl, hb, hg, hnc, hcm, hsz, htk⟩⟩ := h
  · obtain rfl : xs = [] := by simpa using hl
    exact ⟨none, 0, rfl, Cel.nil _ _ _, Nat.le_refl _, by omega, fun b h => by simp [Value.ownBlock] at h⟩
  · have hlz : xs.length = n := by simpa using hl
    have hlt := (Array.getElem?_eq_some_iff.1 hg).1
    refine ⟨_, cap, rfl, ⟨hlz, fun hn => ⟨g, 0, rfl, hlt, fun i hi => ?_⟩⟩, hnc, hcm, fun b h => ?_⟩
    · have h1 : xs[i]? = cur[i]? := by
        rw [← htk, List.getElem?_take_of_lt (by omega), Array.getElem?_toList]
      rw [Nat.zero_add, h1]
      simp [World.cell?, hg]
    · simp [Value.ownBlock] at h
      omega

/-- A row of the call's own has become another one. -/
def GrewC (e : TypeId) (w w' : World) (B : Nat) (v v' : Value) (xs : List Value) : Prop := w'.ownsRow B e 1 v' xs.length xs ∧ w.grownBy w' v.ownBlock ∧ (v'.ownBlock = v.ownBlock ∨ v'.ownBlock = some w.heap.size)

/-- append onto a row of the call's own of what a slice shows. -/
theorem app_cel {t e : TypeId} {i0 : TypeInfo} {z : Value} {bytes : Nat} (ht : Try.prog.underlying t = some (.slice e)) (hi : Try.prog.info? e = some i0) (hz : i0.zero = some z) (hs1 : i0.size = 1) (hby : i0.bytes = bytes) (hzs : z.cells.size = 1)
    {w : World} {B B' : Nat} {v : Value} {xs ys : List Value} {A : Option Addr} {m : Nat} (c : Nat) (h : w.ownsRow B e 1 v xs.length xs) (hs : Cel w B' A m ys) (h1 : ∀ u ∈ ys, u.oneCell' = true)
    (hbig : (xs.length + ys.length) * bytes ≤ 140737488355328) (hlen : xs.length + ys.length ≤ 140737488355328) (hB : B ≤ w.heap.size) (ty : TypeId) :
    ∃ v' w', (Builtin.append_ #[t, t] ty #[v, .slice A m c]).run Try.prog w = .ok v' w' ∧ GrewC e w w' B v v' (xs ++ ys) := by
  have hm : ys.length = m := hs.1
  rcases Nat.eq_zero_or_pos m with h0 | h0
  · obtain rfl : ys = [] := List.eq_nil_of_length_eq_zero (hm.trans h0)
    subst h0
    rcases A with _ | ad
    · refine ⟨v, w, ?_, by simpa using h, World.grownBy.refl w _, .inl rfl⟩
      rcases h.2 with ⟨rfl, _⟩ | ⟨g, cap, cur, rfl, _, _, hnc, _⟩
      · simp [Builtin.append_, run_underlying ht, sizeOf, typeInfo, hi, Builtin.lenOf, Builtin.firstCells]
      · simp [Builtin.append_, run_underlying ht, sizeOf, typeInfo, hi, Builtin.lenOf, Builtin.firstCells, hnc, storeCells]
    · obtain ⟨v', w', r1, r2, r3, _, r5⟩ := run_append_own_at (P := Try.prog) w B t ty e i0 z 1 bytes ht hi hz hs1 hby hzs (by omega) v _ xs h ad 0 c [] rfl (by simp) (by simp) (by unfold maxLen; simp at hlen; omega) (by simpa using hbig) hB
      exact ⟨v', w', r1, by simpa using r2, r3, r5⟩
  · obtain ⟨b, o, rfl, _, hc⟩ := hs.at_ h0
    obtain ⟨v', w', r1, r2, r3, _, r5⟩ := run_append_own_at (P := Try.prog) w B t ty e i0 z 1 bytes ht hi hz hs1 hby hzs (by omega) v _ xs h ⟨b, o, none⟩ m c ys (by rw [hm, Nat.mul_one])
      (fun j u hu => by
        have hj : j < m := by
          rw [← hm]
          rcases Nat.lt_or_ge j ys.length with h | h
          · exact h
          · rw [List.getElem?_eq_none h] at hu; cases hu
        rw [addr_add, hc j hj]; exact hu) h1 (by unfold maxLen; omega) (by rw [← hm]; exact hbig) hB
    exact ⟨v', w', r1, by rw [GrewC, List.length_append, hm]; exact ⟨r2, r3, r5⟩⟩
theorem GrewC.below {e : TypeId} {w w' W0 : World} {B : Nat} {v v' : Value} {xs ys : List Value} (h : GrewC e w w' B v v' ys) (hv : w.ownsRow B e 1 v xs.length xs) (h0 : Below B W0 w) (hB : B ≤ w.heap.size) : Below B W0 w' :=
  h0.grown h.2.1 hB (fun q hq => (hv.lt q hq).1)

theorem info_int : (Try.prog.info? 3).map (fun i => (i.zero, i.size, i.bytes)) = some (some (.int .i64 0), 1, 8) := by kernel_rfl
theorem info_any {t : TypeId} {z : Value} {s b : Nat} (h : (Try.prog.info? t).map (fun i => (i.zero, i.size, i.bytes)) = some (some z, s, b)) : ∃ i0, Try.prog.info? t = some i0 ∧ i0.zero = some z ∧ i0.size = s ∧ i0.bytes = b := by
  obtain ⟨i, hi, he⟩ := Option.map_eq_some_iff.1 h
  simp only [Prod.mk.injEq] at he
  exact ⟨i, hi, he.1, he.2.1, he.2.2⟩

/-- The numbers of a place, as cells. -/
abbrev ints (p : List Nat) : List Value := p.map fun k : Nat => Value.int .i64 (k : Int)
theorem ints_one (p : List Nat) : ∀ u ∈ ints p, u.oneCell' = true := by
  intro u hu
  obtain ⟨k, _, rfl⟩ := List.mem_map.1 hu
  rfl
/-! ### Lists of places -/
/-- The slice v shows the place p, in a block from lo on and below hi that is not the one named. -/
def PlV (w : World) (lo hi : Nat) (own : Option Nat) (v : Value) (p : List Nat) : Prop :=
  ∃ A c, v = .slice A p.length c ∧ Cel w hi A p.length (ints p) ∧ p.length ≤ c ∧ c ≤ 9223372036854775807 ∧ (0 < p.length → ∀ b o, A = some ⟨b, o, none⟩ → lo ≤ b ∧ own ≠ some b)
/-- Pair by pair. -/
inductive Two {α β : Type} (r : α → β → Prop) : List α → List β → Prop
  | nil : Two r [] []
  | cons {a : α} {b : β} {l : List α} {m : List β} (h : r a b) (t : Two r l m) : Two r (a :: l) (b :: m)
section
variable {α β : Type} {r s : α → β → Prop}
theorem Two.len : ∀ {l : List α} {m : List β}, Two r l m → l.length = m.length
  | _, _, .nil => rfl
  | _, _, .cons _ t => by simp [t.len]
theorem Two.mono (h : ∀ a b, r a b → s a b) : ∀ {l : List α} {m : List β}, Two r l m → Two s l m
  | _, _, .nil => .nil
  | _, _, .cons a t => .cons (h _ _ a) (t.mono h)
theorem Two.app : ∀ {l l' : List α} {m m' : List β}, Two r l m → Two r l' m' → Two r (l ++ l') (m ++ m')
  | _, _, _, _, .nil, h => h
  | _, _, _, _, .cons a t, h => .cons a (t.app h)
theorem Two.get : ∀ {l : List α} {m : List β}, Two r l m → ∀ (i : Nat) (h1 : i < l.length) (h2 : i < m.length), r l[i] m[i]
  | _, _, .nil, i, h1, _ => absurd h1 (by simp)
  | _, _, .cons a t, 0, _, _ => a
  | _, _, .cons a t, i + 1, h1, h2 => by simpa using t.get i (by simpa using h1) (by simpa using h2)
end
theorem PlV.keep {w w' : World} {lo hi hi' : Nat} {own own' : Option Nat} {v : Value} {p : List Nat} (h : PlV w lo hi own v p) (hh : hi ≤ hi') (hk : ∀ a : Addr, a.block < hi → own ≠ some a.block → w'.cell? a = w.cell? a) (ho : ∀ b, b < hi → own ≠ some b → own' ≠ some b) : PlV w' lo hi' own' v p := by
  obtain ⟨A, c, e, hc, h1, h2, h3⟩ := h
  refine ⟨A, c, e, ⟨hc.1, fun h0 => ?_⟩, h1, h2, fun h0 b o e => ?_⟩
  · obtain ⟨b, o, e, hb, hcc⟩ := hc.2 h0
    obtain ⟨_, hne⟩ := h3 h0 b o e
    exact ⟨b, o, e, by omega, fun i hi => (hk _ hb hne).trans (hcc i hi)⟩
  · obtain ⟨h4, h5⟩ := h3 h0 b o e
    obtain ⟨b', o', e', hb, _⟩ := hc.2 h0
    rw [e] at e'
    simp only [Option.some.injEq, Addr.mk.injEq] at e'
    exact ⟨h4, ho b (by omega) h5⟩
end Go.Proofs.Ytjilkifecdigfaa
