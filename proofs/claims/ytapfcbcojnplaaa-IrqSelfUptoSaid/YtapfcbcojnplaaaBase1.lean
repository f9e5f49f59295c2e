/-
  Base, part 1: what the proofs of this claim lean on.
-/
import Derived.Test.YtapfcbcojnplaaaChecked
import Derived.Below
import Derived.WalkKit
import Derived.WalkLawsBesides
import Derived.WalkSpells
import Derived.Laws.BytesArg
import Derived.Laws.OwnMore
import Derived.Laws.AppendOwnNone
import Derived.Maps.AppendAt
import Derived.Deep.Draws
import Derived.Lib.Hide
import Derived.OpenShut
import Derived.Deep.OwnRows
import Derived.Deep.Strs
import Derived.Great.BuildSlice
import Derived.Lib.SlFresh
import Derived.Deep.RegionHeld3
import Derived.Deep.DrawnRows
import Derived.Lib.AppendZerosOnto
import Derived.Laws.Bits64
import Derived.Laws.BitsAllLaws
import Derived.Lib.ConvBytes

/-! What memory holds, as lists of numbers: byte slices that are only read, and byte slices that a call has made. -/
namespace Go.Proofs.Ytapfcbcojnplaaa
open Go.RowKit
set_option linter.unusedVariables false

/-- The slice value with address A and length n shows the bytes zs (numbers from 0 to 255), in a block below B. -/
def Shows (w : World) (B : Nat) (A : Option Addr) (n : Nat) (zs : List Int) : Prop :=
  zs.length = n ∧ (∀ z ∈ zs, 0 ≤ z ∧ z < 256) ∧ (0 < n → ∃ b o, A = some ⟨b, o, none⟩ ∧ b < B ∧ ∀ i, i < n → w.cell? ⟨b, o + i, none⟩ = some (.int .u8 (zs.getD i 0)))

theorem addr_add (b o i : Nat) : (⟨b, o, none⟩ : Addr).add i = ⟨b, o + i, none⟩ := by unfold Addr.add; split <;> simp_all

section
variable {w w' : World} {B B' n : Nat} {A : Option Addr} {zs : List Int}

theorem Shows.len (h : Shows w B A n zs) : zs.length = n := h.1
theorem Shows.byte (h : Shows w B A n zs) (i : Nat) : 0 ≤ zs.getD i 0 ∧ zs.getD i 0 < 256 := by
  rcases Nat.lt_or_ge i zs.length with hi | hi
  · have e : zs.getD i 0 = zs[i] := by simp [List.getD, List.getElem?_eq_getElem hi]
    rw [e]; exact h.2.1 _ (List.getElem_mem hi)
  · have e : zs.getD i 0 = 0 := by simp [List.getD, List.getElem?_eq_none hi]
    rw [e]; omega
theorem Shows.at_ (h : Shows w B A n zs) (hn : 0 < n) : ∃ b o, A = some ⟨b, o, none⟩ ∧ b < B ∧ ∀ i, i < n → w.cell? ⟨b, o + i, none⟩ = some (.int .u8 (zs.getD i 0)) := h.2.2 hn
theorem Shows.nil (w : World) (B : Nat) : Shows w B none 0 [] := ⟨rfl, by simp, fun h => absurd h (by omega)⟩
theorem Shows.keep (h : Shows w B A n zs) (hk : ∀ p : Addr, p.block < B → w'.cell? p = w.cell? p) : Shows w' B A n zs :=
  ⟨h.1, h.2.1, fun hn => by
    obtain ⟨b, o, e, hb, hc⟩ := h.2.2 hn
    exact ⟨b, o, e, hb, fun i hi => (hk _ hb).trans (hc i hi)⟩⟩
theorem Shows.below (h : Shows w B A n zs) (hb : Below B w w') : Shows w' B A n zs := h.keep fun _ hp => hb.cell hp
theorem Shows.more (h : Shows w B A n zs) (hB : B ≤ B') : Shows w B' A n zs :=
  ⟨h.1, h.2.1, fun hn => by
    obtain ⟨b, o, e, hb, hc⟩ := h.2.2 hn
    exact ⟨b, o, e, by omega, hc⟩⟩
theorem Shows.drewN (h : Shows w B A n zs) (k : Nat) : Shows (w.drewN k) B A n zs := h

/-- An argument as the row's reading gives it. -/
theorem Shows.of_row {a : Option Addr} {len cap : Nat} {l : List Int}
    (h : (a = none ∧ len = 0 ∧ cap = 0 ∧ l = []) ∨ ∃ x, a = some x ∧ len ≤ cap ∧ cap ≤ maxLen ∧ l.length = cap ∧ (∀ i, i < l.length → w.cell? (x.add i) = some (.int .u8 (l.getD i 0))) ∧ ∀ n ∈ l, (Lit.int .u8 n).wf = true) :
    Shows w w.heap.size a len (l.take len) ∧ len ≤ cap ∧ cap ≤ maxLen := by
  rcases h with ⟨rfl, rfl, rfl, rfl⟩ | ⟨x, rfl, hl, hm, hz, hcell, hwz⟩
  · exact ⟨Shows.nil _ _, Nat.le_refl _, by unfold maxLen; omega⟩
  · refine ⟨⟨by rw [List.length_take]; omega, fun z hz' => ?_, fun hn => ?_⟩, hl, hm⟩
    · have h1 := hwz z (List.mem_of_mem_take hz')
      have h2 := bounds_u8 h1
      omega
    · obtain ⟨b, o, spot⟩ := x
      have hc := hcell 0 (by omega)
      have hspot : spot = none := by simpa [Addr.add] using World.cell?_spot hc
      subst hspot
      refine ⟨b, o, rfl, ?_, fun i hi => ?_⟩
      · rw [addr_add] at hc
        exact World.block_lt_of_cell? w _ hc
      · have hci := hcell i (by omega)
        rw [addr_add] at hci
        rw [hci]
        congr 2
        simp [List.getD, List.getElem?_take_of_lt hi]

/-- Where a slice of bytes with capacity c begins when it is cut from l on (the model keeps the address where nothing is left). -/
def cutAt (A : Option Addr) (c l : Nat) : Option Addr := if c = l then A else A.map (·.add l)

theorem Shows.cut {l h c : Nat} (hs : Shows w B A n zs) (hlh : l ≤ h) (hh : h ≤ n) (hc : n ≤ c) : Shows w B (cutAt A c l) (h - l) ((zs.drop l).take (h - l)) := by
  refine ⟨by rw [List.length_take, List.length_drop, hs.1]; omega, fun z hz => hs.2.1 z (List.mem_of_mem_drop (List.mem_of_mem_take hz)), fun h0 => ?_⟩
  obtain ⟨b, o, rfl, hb, hcell⟩ := hs.at_ (by omega)
  refine ⟨b, o + l, ?_, hb, fun i hi => ?_⟩
  · unfold cutAt
    rw [if_neg (by omega)]
    simp [addr_add]
  · rw [Nat.add_assoc, hcell (l + i) (by omega)]
    simp [List.getD, List.getElem?_take_of_lt hi, List.getElem?_drop]
theorem Shows.upto {h : Nat} (hs : Shows w B A n zs) (hh : h ≤ n) : Shows w B A h (zs.take h) := by
  refine ⟨by rw [List.length_take, hs.1]; omega, fun z hz => hs.2.1 z (List.mem_of_mem_take hz), fun h0 => ?_⟩
  obtain ⟨b, o, rfl, hb, hcell⟩ := hs.at_ (by omega)
  refine ⟨b, o, rfl, hb, fun i hi => ?_⟩
  rw [hcell i (by omega)]
  simp [List.getD, List.getElem?_take_of_lt hi]
theorem Shows.from_ {l c : Nat} (hs : Shows w B A n zs) (hl : l ≤ n) (hc : n ≤ c) : Shows w B (cutAt A c l) (n - l) (zs.drop l) := by
  have h := hs.cut hl (Nat.le_refl n) hc
  rwa [List.take_of_length_le (by rw [List.length_drop, hs.1]; exact Nat.le_refl _)] at h
end

section
variable {P : Program} {t e : TypeId} (ht : P.underlying t = some (.slice e)) (he : ∀ w, (Go.sizeOf e).run P w = .ok 1 w)
include ht he
theorem run_upto (A : Option Addr) (n c : Nat) (H : Int) (h : Nat) (hH : H = h) (hh : h ≤ c) (W : World) : (Instr.slice t (.slice A n c) none (some (.int .i64 H)) none).run P W = .ok (.slice A h c) W := by
  subst hH
  have ht' : P.underlying t = some (.slice (P.elem t)) := by simp [Program.elem, ht]
  have he' : P.elem t = e := by simp [Program.elem, ht]
  rw [run_slice_h W t _ _ _ ht' .i64 _ (by omega) (by omega), he', he]
  rcases A with _ | ⟨b, o, s⟩ <;> simp [Result.andThen, sliced, Addr.add]
theorem run_from (A : Option Addr) (n c : Nat) (L : Int) (l : Nat) (hL : L = l) (hl : l ≤ n) (W : World) : (Instr.slice t (.slice A n c) (some (.int .i64 L)) none none).run P W = .ok (.slice (cutAt A c l) (n - l) (c - l)) W := by
  subst hL
  have ht' : P.underlying t = some (.slice (P.elem t)) := by simp [Program.elem, ht]
  have he' : P.elem t = e := by simp [Program.elem, ht]
  rw [run_slice_l W t _ _ _ ht' .i64 _ (by omega) (by omega), he', he]
  simp [Result.andThen, sliced, cutAt]
theorem run_cut (A : Option Addr) (n c : Nat) (L H : Int) (l h : Nat) (hL : L = l) (hH : H = h) (hl : l ≤ h) (hh : h ≤ c) (W : World) :
    (Instr.slice t (.slice A n c) (some (.int .i64 L)) (some (.int .i64 H)) none).run P W = .ok (.slice (cutAt A c l) (h - l) (c - l)) W := by
  subst hL hH
  have ht' : P.underlying t = some (.slice (P.elem t)) := by simp [Program.elem, ht]
  have he' : P.elem t = e := by simp [Program.elem, ht]
  rw [run_slice_lh W t _ _ _ ht' .i64 .i64 _ _ (by omega) (by omega) (by omega), he', he]
  simp [Result.andThen, sliced, cutAt]
end
end Go.Proofs.Ytapfcbcojnplaaa

/-! Rows of one cell an element, of any type: slices that show values, rows of a call's own, append. -/
namespace Go.Proofs.Ytapfcbcojnplaaa
open Go.RowKit
set_option linter.unusedVariables false
set_option linter.unusedSimpArgs false

/-- A slice shows these values, one cell each, in a block below B. -/
def Cel (w : World) (B : Nat) (A : Option Addr) (n : Nat) (xs : List Value) : Prop :=
  xs.length = n ∧ (0 < n → ∃ b o, A = some ⟨b, o, none⟩ ∧ b < B ∧ ∀ i, i < n → w.cell? ⟨b, o + i, none⟩ = xs[i]?)
section
variable {w w' : World} {B B' n : Nat} {A : Option Addr} {xs : List Value}
theorem Cel.at_ (h : Cel w B A n xs) (hn : 0 < n) : ∃ b o, A = some ⟨b, o, none⟩ ∧ b < B ∧ ∀ i, i < n → w.cell? ⟨b, o + i, none⟩ = xs[i]? := h.2 hn
theorem Cel.nil (w : World) (B : Nat) (A : Option Addr) : Cel w B A 0 [] := ⟨rfl, fun h => absurd h (Nat.lt_irrefl 0)⟩
theorem Cel.keep (h : Cel w B A n xs) (hk : ∀ p : Addr, p.block < B → w'.cell? p = w.cell? p) : Cel w' B A n xs :=
  ⟨h.1, fun hn => by
    obtain ⟨b, o, e, hb, hc⟩ := h.2 hn
    exact ⟨b, o, e, hb, fun i hi => (hk _ hb).trans (hc i hi)⟩⟩
theorem Cel.below (h : Cel w B A n xs) (hb : Below B w w') : Cel w' B A n xs := h.keep fun _ hp => hb.cell hp
theorem Cel.more (h : Cel w B A n xs) (hB : B ≤ B') : Cel w B' A n xs :=
  ⟨h.1, fun hn => by
    obtain ⟨b, o, e, hb, hc⟩ := h.2 hn
    exact ⟨b, o, e, by omega, hc⟩⟩
theorem Cel.on (h : Cel w w.heap.size A n xs) (hb : Below w.heap.size w w') : Cel w' w'.heap.size A n xs := (h.below hb).more hb.size
theorem Cel.upto {k : Nat} (h : Cel w B A n xs) (hk : k ≤ n) : Cel w B A k (xs.take k) :=
  ⟨by rw [List.length_take, h.1]; omega, fun h0 => by
    obtain ⟨b, o, e, hb, hc⟩ := h.2 (by omega)
    exact ⟨b, o, e, hb, fun i hi => by rw [List.getElem?_take_of_lt hi]; exact hc i (by omega)⟩⟩
theorem Cel.from_ {l c : Nat} (h : Cel w B A n xs) (hl : l ≤ n) (hc : n ≤ c) : Cel w B (cutAt A c l) (n - l) (xs.drop l) :=
  ⟨by rw [List.length_drop, h.1], fun h0 => by
    obtain ⟨b, o, e, hb, hcc⟩ := h.2 (by omega)
    subst e
    have e : cutAt (some ⟨b, o, none⟩) c l = some ⟨b, o + l, none⟩ := by
      unfold cutAt
      rw [if_neg (by omega)]
      simp [addr_add]
    exact ⟨b, o + l, e, hb, fun i hi => by rw [List.getElem?_drop, Nat.add_assoc]; exact hcc (l + i) (by omega)⟩⟩
theorem Cel.drewN (h : Cel w B A n xs) (k : Nat) : Cel (w.drewN k) B A n xs := h
end

/-- What a call has made shows its values. -/
theorem owned_cel {w : World} {base n : Nat} {e : TypeId} {v : Value} {xs : List Value} (h : w.ownsRow base e 1 v n xs) : ∃ A c, v = .slice A n c ∧ Cel w w.heap.size A n xs ∧ n ≤ c ∧ c ≤ 9223372036854775807 ∧ (∀ b, v.ownBlock = some b → base ≤ b ∧ b < w.heap.size) := by
  obtain ⟨hl, ⟨rfl, rfl⟩ | ⟨g, cap, cur, rfl, hb, hg, hnc, hcm, hsz, htk⟩⟩ := h
  · obtain rfl : xs = [] := by simpa using hl
    exact ⟨none, 0, rfl, Cel.nil _ _ _, Nat.le_refl _, by omega, fun b h => by simp [Value.ownBlock] at h⟩
  · have hlz : xs.length = n := by simpa using hl
    have hlt := (Array.getElem?_eq_some_iff.1 hg).1
    refine ⟨_, cap, rfl, ⟨hlz, fun hn => ⟨g, 0, rfl, hlt, fun i hi => ?_⟩⟩, hnc, hcm, fun b h => ?_⟩
    · have h1 : xs[i]? = cur[i]? := by
        rw [← htk, List.getElem?_take_of_lt (by omega), Array.getElem?_toList]
      rw [Nat.zero_add, h1]
      simp [World.cell?, hg]
    · simp [Value.ownBlock] at h
      omega

/-- A row of the call's own has become another one. -/
def GrewC (e : TypeId) (w w' : World) (B : Nat) (v v' : Value) (xs : List Value) : Prop := w'.ownsRow B e 1 v' xs.length xs ∧ w.grownBy w' v.ownBlock ∧ (v'.ownBlock = v.ownBlock ∨ v'.ownBlock = some w.heap.size)

/-- append onto a row of the call's own of what a slice shows. -/
theorem app_cel {t e : TypeId} {i0 : TypeInfo} {z : Value} {bytes : Nat} (ht : Try.prog.underlying t = some (.slice e)) (hi : Try.prog.info? e = some i0) (hz : i0.zero = some z) (hs1 : i0.size = 1) (hby : i0.bytes = bytes) (hzs : z.cells.size = 1)
    {w : World} {B B' : Nat} {v : Value} {xs ys : List Value} {A : Option Addr} {m : Nat} (c : Nat) (h : w.ownsRow B e 1 v xs.length xs) (hs : Cel w B' A m ys) (h1 : ∀ u ∈ ys, u.oneCell' = true)
    (hbig : (xs.length + ys.length) * bytes ≤ 140737488355328) (hlen : xs.length + ys.length ≤ 140737488355328) (hB : B ≤ w.heap.size) (ty : TypeId) :
    ∃ v' w', (Builtin.append_ #[t, t] ty #[v, .slice A m c]).run Try.prog w = .ok v' w' ∧ GrewC e w w' B v v' (xs ++ ys) := by
  have hm : ys.length = m := hs.1
  rcases Nat.eq_zero_or_pos m with h0 | h0
  · obtain rfl : ys = [] := List.eq_nil_of_length_eq_zero (hm.trans h0)
    subst h0
    rcases A with _ | ad
    · refine ⟨v, w, ?_, by simpa using h, World.grownBy.refl w _, .inl rfl⟩
      rcases h.2 with ⟨rfl, _⟩ | ⟨g, cap, cur, rfl, _, _, hnc, _⟩
      · simp [Builtin.append_, run_underlying ht, sizeOf, typeInfo, hi, Builtin.lenOf, Builtin.firstCells]
      · simp [Builtin.append_, run_underlying ht, sizeOf, typeInfo, hi, Builtin.lenOf, Builtin.firstCells, hnc, storeCells]
    · obtain ⟨v', w', r1, r2, r3, _, r5⟩ := run_append_own_at (P := Try.prog) w B t ty e i0 z 1 bytes ht hi hz hs1 hby hzs (by omega) v _ xs h ad 0 c [] rfl (by simp) (by simp) (by unfold maxLen; simp at hlen; omega) (by simpa using hbig) hB
      exact ⟨v', w', r1, by simpa using r2, r3, r5⟩
  · obtain ⟨b, o, rfl, _, hc⟩ := hs.at_ h0
    obtain ⟨v', w', r1, r2, r3, _, r5⟩ := run_append_own_at (P := Try.prog) w B t ty e i0 z 1 bytes ht hi hz hs1 hby hzs (by omega) v _ xs h ⟨b, o, none⟩ m c ys (by rw [hm, Nat.mul_one])
      (fun j u hu => by
        have hj : j < m := by
          rw [← hm]
          rcases Nat.lt_or_ge j ys.length with h | h
          · exact h
          · rw [List.getElem?_eq_none h] at hu; cases hu
        rw [addr_add, hc j hj]; exact hu) h1 (by unfold maxLen; omega) (by rw [← hm]; exact hbig) hB
    exact ⟨v', w', r1, by rw [GrewC, List.length_append, hm]; exact ⟨r2, r3, r5⟩⟩
theorem GrewC.below {e : TypeId} {w w' W0 : World} {B : Nat} {v v' : Value} {xs ys : List Value} (h : GrewC e w w' B v v' ys) (hv : w.ownsRow B e 1 v xs.length xs) (h0 : Below B W0 w) (hB : B ≤ w.heap.size) : Below B W0 w' :=
  h0.grown h.2.1 hB (fun q hq => (hv.lt q hq).1)

theorem info_int : (Try.prog.info? 3).map (fun i => (i.zero, i.size, i.bytes)) = some (some (.int .i64 0), 1, 8) := by kernel_rfl
theorem info_ints : (Try.prog.info? 30).map (fun i => (i.zero, i.size, i.bytes)) = some (some (.slice none 0 0), 1, 24) := by kernel_rfl
theorem info_any {t : TypeId} {z : Value} {s b : Nat} (h : (Try.prog.info? t).map (fun i => (i.zero, i.size, i.bytes)) = some (some z, s, b)) : ∃ i0, Try.prog.info? t = some i0 ∧ i0.zero = some z ∧ i0.size = s ∧ i0.bytes = b := by
  obtain ⟨i, hi, he⟩ := Option.map_eq_some_iff.1 h
  simp only [Prod.mk.injEq] at he
  exact ⟨i, hi, he.1, he.2.1, he.2.2⟩

/-- The numbers of a place, as cells. -/
abbrev ints (p : List Nat) : List Value := p.map fun k : Nat => Value.int .i64 (k : Int)
theorem ints_one (p : List Nat) : ∀ u ∈ ints p, u.oneCell' = true := by
  intro u hu
  obtain ⟨k, _, rfl⟩ := List.mem_map.1 hu
  rfl
theorem app_ints {w : World} {B B' : Nat} {v : Value} {xs ys : List Nat} {A : Option Addr} {m : Nat} (c : Nat) (h : w.ownsRow B 3 1 v xs.length (ints xs)) (hs : Cel w B' A m (ints ys)) (hbig : xs.length + ys.length ≤ 17592186044416) (hB : B ≤ w.heap.size) (ty : TypeId) :
    ∃ v' w', (Builtin.append_ #[30, 30] ty #[v, .slice A m c]).run Try.prog w = .ok v' w' ∧ GrewC 3 w w' B v v' (ints (xs ++ ys)) := by
  obtain ⟨i0, hi, hz, hs1, hb⟩ := info_any info_int
  have h' : w.ownsRow B 3 1 v (ints xs).length (ints xs) := by rw [List.length_map]; exact h
  obtain ⟨v', w', h1, h2⟩ := app_cel Try.underlying30 hi hz hs1 hb rfl c h' hs (ints_one ys) (by simp only [List.length_map]; omega) (by simp only [List.length_map]; omega) hB ty
  exact ⟨v', w', h1, by rw [← List.map_append] at h2; exact h2⟩

/-! ### Lists of places -/
/-- The slice v shows the place p, in a block from lo on and below hi that is not the one named. -/
def PlV (w : World) (lo hi : Nat) (own : Option Nat) (v : Value) (p : List Nat) : Prop :=
  ∃ A c, v = .slice A p.length c ∧ Cel w hi A p.length (ints p) ∧ p.length ≤ c ∧ c ≤ 9223372036854775807 ∧ (0 < p.length → ∀ b o, A = some ⟨b, o, none⟩ → lo ≤ b ∧ own ≠ some b)
/-- Pair by pair. -/
inductive Two {α β : Type} (r : α → β → Prop) : List α → List β → Prop
  | nil : Two r [] []
  | cons {a : α} {b : β} {l : List α} {m : List β} (h : r a b) (t : Two r l m) : Two r (a :: l) (b :: m)
section
variable {α β : Type} {r s : α → β → Prop}
theorem Two.len : ∀ {l : List α} {m : List β}, Two r l m → l.length = m.length
  | _, _, .nil => rfl
  | _, _, .cons _ t => by simp [t.len]
theorem Two.mono (h : ∀ a b, r a b → s a b) : ∀ {l : List α} {m : List β}, Two r l m → Two s l m
  | _, _, .nil => .nil
  | _, _, .cons a t => .cons (h _ _ a) (t.mono h)
theorem Two.app : ∀ {l l' : List α} {m m' : List β}, Two r l m → Two r l' m' → Two r (l ++ l') (m ++ m')
  | _, _, _, _, .nil, h => h
  | _, _, _, _, .cons a t, h => .cons a (t.app h)
theorem Two.get : ∀ {l : List α} {m : List β}, Two r l m → ∀ (i : Nat) (h1 : i < l.length) (h2 : i < m.length), r l[i] m[i]
  | _, _, .nil, i, h1, _ => absurd h1 (by simp)
  | _, _, .cons a t, 0, _, _ => a
  | _, _, .cons a t, i + 1, h1, h2 => by simpa using t.get i (by simpa using h1) (by simpa using h2)
end
theorem PlV.keep {w w' : World} {lo hi hi' : Nat} {own own' : Option Nat} {v : Value} {p : List Nat} (h : PlV w lo hi own v p) (hh : hi ≤ hi') (hk : ∀ a : Addr, a.block < hi → own ≠ some a.block → w'.cell? a = w.cell? a) (ho : ∀ b, b < hi → own ≠ some b → own' ≠ some b) : PlV w' lo hi' own' v p := by
  obtain ⟨A, c, e, hc, h1, h2, h3⟩ := h
  refine ⟨A, c, e, ⟨hc.1, fun h0 => ?_⟩, h1, h2, fun h0 b o e => ?_⟩
  · obtain ⟨b, o, e, hb, hcc⟩ := hc.2 h0
    obtain ⟨_, hne⟩ := h3 h0 b o e
    exact ⟨b, o, e, by omega, fun i hi => (hk _ hb hne).trans (hcc i hi)⟩
  · obtain ⟨h4, h5⟩ := h3 h0 b o e
    obtain ⟨b', o', e', hb, _⟩ := hc.2 h0
    rw [e] at e'
    simp only [Option.some.injEq, Addr.mk.injEq] at e'
    exact ⟨h4, ho b (by omega) h5⟩
/-- A row of places that a call has made. -/
structure PlRow (w : World) (lo : Nat) (v : Value) (ps : List (List Nat)) : Prop where
  row : ∃ vs, w.ownsRow lo 30 1 v ps.length vs ∧ Two (PlV w lo w.heap.size v.ownBlock) vs ps
end Go.Proofs.Ytapfcbcojnplaaa

/-! A statement whose operations may come in several orders: operations that only read are taken first; when the only operation that may come is a call, the call is carried out, and from there on more may be known of memory. -/
namespace Go.Proofs.Ytapfcbcojnplaaa
open Go.RowKit
section
variable {P : Program} {ops : Array Oper} {l : List Oper} {Q : Exit → Act → World → Prop} {S S' : World → Prop}

/-- What is known of memory may grow as the walk goes on. -/
theorem held_more (hsub : ∀ w, S' w → S w) : ∀ (fuel : Nat) (listed : Array Bool) (a : Act) (w : World), wpAnyH P .any ops Q S' fuel listed a w → wpAnyH P .any ops Q S fuel listed a w
  | 0, _, _, _, h => h
  | fuel + 1, _, _, _, h => ⟨h.1, fun i hi => wpOp_mono (fun a' w' h' => ⟨hsub _ h'.1, held_more hsub fuel _ a' w' h'.2⟩) (h.2 i hi)⟩

/-- An operation that reads, and is wanted. -/
theorem held_take (i : Nat) {oi : Oper} {v : Value} {fuel : Nat} {listed : Array Bool} {a : Act} {w : World} (hi : l[i]? = some oi) (hs : Region.noSelect l.toArray = true) (hf : Region.free .any l.toArray listed i = true)
    (hr : (Region.ready .any l.toArray listed).contains i = true) (hQ : ∀ c a w, Q (.panic c) (a.put oi.dst v) w → Q (.panic c) a w) (hw : Region.wanted oi (yielded l.toArray a.tmps) = true)
    (hS : S w) (hy : ∀ w, S w → (execOp a.eval oi).run P w = .ok (.value v) w) (h : S w → wpAnyH P .any l.toArray Q S fuel (listed.setIfInBounds i true) (a.put oi.dst v) w) : wpAnyH P .any l.toArray Q S (fuel + 1) listed a w :=
  wpAnyH_take (by simpa using hi) hs hf hr hQ (.inl ⟨hw, hy⟩) hS (h hS)

/-- An operation whose guard says no. -/
theorem held_skip (i : Nat) {oi : Oper} {fuel : Nat} {listed : Array Bool} {a : Act} {w : World} (hi : l[i]? = some oi) (hs : Region.noSelect l.toArray = true) (hf : Region.free .any l.toArray listed i = true)
    (hr : (Region.ready .any l.toArray listed).contains i = true) (hQ : ∀ c a w, Q (.panic c) (a.put oi.dst undef) w → Q (.panic c) a w) (hw : Region.wanted oi (yielded l.toArray a.tmps) = false)
    (hS : S w) (h : S w → wpAnyH P .any l.toArray Q S fuel (listed.setIfInBounds i true) (a.put oi.dst undef) w) : wpAnyH P .any l.toArray Q S (fuel + 1) listed a w :=
  wpAnyH_take (by simpa using hi) hs hf hr hQ (.inr ⟨hw, rfl⟩) hS (h hS)

/-- The one operation that may come now, whatever it does; behind it the walk goes on knowing S'. -/
theorem held_call (i : Nat) {oi : Oper} {fuel : Nat} {listed : Array Bool} {a : Act} {w : World} (hr : Region.ready .any l.toArray listed = [i]) (hi : l[i]? = some oi) (hw : Region.wanted oi (yielded l.toArray a.tmps) = true)
    (h : ∀ K : Act → World → Prop, Shut (∀ a w, S w → (S w → wpAnyH P .any l.toArray Q S fuel (listed.setIfInBounds i true) a w) → K a w) → Oper.wp P oi a w K Q) : wpAnyH P .any l.toArray Q S (fuel + 1) listed a w :=
  wpAnyH_ready hr (by simp) (AllReadyH.cons (by simpa using hi) (fun K hK => by rw [if_pos hw]; exact h K hK) AllReadyH.nil)

/-- Two operations may come now. -/
theorem held_two (i j : Nat) {oi oj : Oper} {fuel : Nat} {listed : Array Bool} {a : Act} {w : World} (hr : Region.ready .any l.toArray listed = [i, j]) (hi : l[i]? = some oi) (hj : l[j]? = some oj) (hwi : Region.wanted oi (yielded l.toArray a.tmps) = true) (hwj : Region.wanted oj (yielded l.toArray a.tmps) = true)
    (h1 : ∀ K : Act → World → Prop, Shut (∀ a w, S w → (S w → wpAnyH P .any l.toArray Q S fuel (listed.setIfInBounds i true) a w) → K a w) → Oper.wp P oi a w K Q)
    (h2 : ∀ K : Act → World → Prop, Shut (∀ a w, S w → (S w → wpAnyH P .any l.toArray Q S fuel (listed.setIfInBounds j true) a w) → K a w) → Oper.wp P oj a w K Q) : wpAnyH P .any l.toArray Q S (fuel + 1) listed a w :=
  wpAnyH_ready hr (by simp) (AllReadyH.cons (by simpa using hi) (fun K hK => by rw [if_pos hwi]; exact h1 K hK) (AllReadyH.cons (by simpa using hj) (fun K hK => by rw [if_pos hwj]; exact h2 K hK) AllReadyH.nil))

/-- A piece of code is walked up to its end, once; what follows is walked once. -/
theorem code_cut {c : Code} {Q : Exit → Act → World → Prop} {a : Act} {w : World} (R : Act → World → Prop) (h1 : Code.wp P c (fun x a w => x = .normal ∧ R a w) a w) (h2 : ∀ a w, R a w → Q .normal a w) : Code.wp P c Q a w :=
  Code.wp_mono (fun e a w ⟨he, hr⟩ => by subst he; exact h2 a w hr) h1

/-- One world, spelled in two ways. -/
theorem calls_world {f : FuncId} {args : Array Value} {W W' : World} {R : Ending → World → Prop} (h : W = W') (H : Calls P f args W R) : Calls P f args W' R := h ▸ H
end
end Go.Proofs.Ytapfcbcojnplaaa

/-! Places: whether two are the same, and two lists of them: the document's answer. -/
namespace Go.Proofs.Ytapfcbcojnplaaa
open Go.RowKit
set_option linter.unusedVariables false
set_option linter.unusedSimpArgs false

/-- The first k are the same. -/
def Ev {α : Type} (xs ys : List α) (k : Nat) : Prop := ∀ j, j < k → xs[j]? = ys[j]?
theorem Ev.zero {α : Type} (xs ys : List α) : Ev xs ys 0 := fun j h => absurd h (Nat.not_lt_zero _)
theorem Ev.succ {α : Type} {xs ys : List α} {k : Nat} (h : Ev xs ys k) (he : xs[k]? = ys[k]?) : Ev xs ys (k + 1) := fun j hj => by
  rcases Nat.lt_succ_iff_lt_or_eq.1 hj with h' | rfl
  · exact h j h'
  · exact he
theorem Ev.all {α : Type} {xs ys : List α} {k : Nat} (h : Ev xs ys k) (hl : xs.length = ys.length) (hk : xs.length ≤ k) : xs = ys := by
  apply List.ext_getElem?
  intro i
  rcases Nat.lt_or_ge i k with hi | hi
  · exact h i hi
  · rw [List.getElem?_eq_none (by omega), List.getElem?_eq_none (by omega)]

set_option maxHeartbeats 2000000 in
theorem equalI_any (A A' : Option Addr) (n n' c c' B B' : Nat) (xs ys : List Nat) (w : World) (hx : Cel w B A n (ints xs)) (hy : Cel w B' A' n' (ints ys)) (hB : B ≤ w.heap.size) (hB' : B' ≤ w.heap.size) (hnc : n ≤ c) (hc : c ≤ 9223372036854775807) (hnc' : n' ≤ c') (hc' : c' ≤ 9223372036854775807) (r : Bool) (hr : decide (xs = ys) = r) :
    Calls Try.prog 9 #[.slice A n c, .slice A' n' c'] w fun e w' => e = .returned (.bool r) ∧ Below w.heap.size w w' := by
  have HX := Lib.hid (hx.more hB)
  have HY := Lib.hid (hy.more hB')
  have HR := Lib.hid hr
  have lx := hx.1
  have ly := hy.1
  rw [List.length_map] at lx ly
  have HLX := Lib.hid lx
  have HLY := Lib.hid ly
  clear hx hy hr lx ly
  by_cases hle : n = n'
  · subst hle
    have n1 : ((n : Int) != (n : Int)) = false := by simp
    go_enter Try.func9, Try.ntmps9
    go_wp2_with fail
    go_loopw [13] (fun i wr => ∃ k : Nat, k ≤ n ∧ i = .int .i64 k ∧ Ev xs ys k ∧ Below w.heap.size w wr) (fun i _ => n - (intOf i).toNat)
    case atStart => exact ⟨0, Nat.zero_le _, rfl, Ev.zero _ _, Below.refl _ _⟩
    case round =>
      obtain ⟨k, hk, rfl, hev, hb⟩ := hrel
      have HE := Lib.hid hev
      have HB := Lib.hid hb
      by_cases hlt : k < n
      · obtain ⟨b, o, e, _, hcx⟩ := (HX.out.below hb).2 (by omega)
        obtain rfl : A = _ := e
        obtain ⟨b', o', e', _, hcy⟩ := (HY.out.below hb).2 (by omega)
        obtain rfl : A' = _ := e'
        have hkx : k < xs.length := by rw [HLX.out]; exact hlt
        have hky : k < ys.length := by rw [HLY.out]; exact hlt
        have c0 := hcx k hlt
        have d0 := hcy k hlt
        rw [List.getElem?_map, List.getElem?_eq_getElem hkx] at c0
        rw [List.getElem?_map, List.getElem?_eq_getElem hky] at d0
        obtain ⟨x, hxx⟩ : ∃ x, xs[k] = x := ⟨_, rfl⟩
        obtain ⟨y, hyy⟩ : ∃ y, ys[k] = y := ⟨_, rfl⟩
        rw [hxx] at c0
        rw [hyy] at d0
        replace c0 : _ = some (Value.int .i64 (x : Int)) := c0
        replace d0 : _ = some (Value.int .i64 (y : Int)) := d0
        have HXX := Lib.hid hxx
        have HYY := Lib.hid hyy
        clear hcx hcy hev hb hxx hyy
        by_cases hxy : x = y
        · subst hxy
          have q1 : ((x : Int) != (x : Int)) = false := by simp
          have HN : Hid (xs[k]? = ys[k]?) := by
            show _ = _
            rw [List.getElem?_eq_getElem (by rw [HLX.out]; exact hlt), List.getElem?_eq_getElem (by rw [HLY.out]; exact hlt), HXX.out, HYY.out]
          go_wp2_with fail
          go_region
          go_wp2
          go_roundw
          case rel => exact ⟨k + 1, by omega, by go_num, HE.out.succ HN.out, HB.out.drew⟩
          case measure => simp [intOf]; omega
        · have q1 : ((x : Int) != (y : Int)) = true := by rw [bne_iff_ne]; omega
          obtain rfl : r = false := by
            rw [← HR.out]
            refine decide_eq_false fun e => hxy ?_
            have h1 := HXX.out
            have h2 := HYY.out
            subst e
            exact h1.symm.trans h2
          clear hxy
          go_wp2_with fail
          go_region
          go_wp2
          go_ret
          exact ⟨rfl, HB.out.drew⟩
      · obtain rfl : r = true := by
          rw [← HR.out]
          exact decide_eq_true (HE.out.all (HLX.out.trans HLY.out.symm) (by rw [HLX.out]; omega))
        clear hev hb
        go_wp2
        go_ret
        exact ⟨rfl, HB.out⟩
  · obtain rfl : r = false := by
      rw [← HR.out]
      exact decide_eq_false fun e => hle (by rw [← HLX.out, ← HLY.out, e])
    have n1 : ((n : Int) != (n' : Int)) = true := by rw [bne_iff_ne]; omega
    clear hle
    go_enter Try.func9, Try.ntmps9
    go_wp2
    go_ret
    exact ⟨rfl, Below.refl _ _⟩

/-- A slice shows these places. -/
def PlShow (w : World) (B : Nat) (A : Option Addr) (n : Nat) (ps : List (List Nat)) : Prop :=
  ∃ vs, Cel w B A n vs ∧ Two (PlV w 0 B none) vs ps
theorem PlShow.on {w w' : World} {A : Option Addr} {n : Nat} {ps : List (List Nat)} (h : PlShow w w.heap.size A n ps) (hb : Below w.heap.size w w') : PlShow w' w'.heap.size A n ps := by
  obtain ⟨vs, h1, h2⟩ := h
  exact ⟨vs, h1.on hb, h2.mono fun v p hv => hv.keep hb.size (fun a ha _ => hb.cell ha) (fun _ _ h => h)⟩
theorem PlRow.show {w : World} {lo : Nat} {v : Value} {ps : List (List Nat)} (h : PlRow w lo v ps) : ∃ A c, v = .slice A ps.length c ∧ PlShow w w.heap.size A ps.length ps ∧ ps.length ≤ c ∧ c ≤ 9223372036854775807 := by
  obtain ⟨vs, h1, h2⟩ := h.row
  obtain ⟨A, c, e, hc, h3, h4, _⟩ := owned_cel h1
  refine ⟨A, c, e, ⟨vs, hc, h2.mono fun v p hv => ?_⟩, h3, h4⟩
  obtain ⟨A, c, e, hc, h1, h2, h3⟩ := hv
  exact ⟨A, c, e, hc, h1, h2, fun _ _ _ _ => ⟨Nat.zero_le _, by simp⟩⟩

end Go.Proofs.Ytapfcbcojnplaaa

/-! Bytes that a call makes: rows of its own, appended to; the document's bytes of a number, written one by one from the last to the first. -/
namespace Go.Proofs.Ytapfcbcojnplaaa
open Go.RowKit
set_option linter.unusedVariables false
set_option linter.unusedSimpArgs false

theorem info_u8 : (Try.prog.info? 5).map (fun i => (i.zero, i.size, i.bytes)) = some (some (.int .u8 0), 1, 1) := by kernel_rfl
theorem size_u8 (w : World) : (Go.sizeOf 5).run Try.prog w = .ok 1 w := by kernel_rfl
/-- The numbers as cells. -/
abbrev u8s (zs : List Int) : List Value := zs.map (Value.int .u8)

theorem run_append_shown (w : World) (i0 : TypeInfo) (hi0 : Try.prog.info? 5 = some i0) (hz0 : i0.zero = some (.int .u8 0)) (hz1 : i0.size = 1) (hz2 : i0.bytes = 1)
    (base : Nat) (v : Value) (n : Nat) (xs : List Value) (hown : w.ownsRow base 5 1 v n xs) (B : Nat) (A : Option Addr) (m c : Nat) (zs : List Int) (hs : Shows w B A m zs)
    (hnm : n + m ≤ 140737488351232) (hbase : base ≤ w.heap.size) (ty : TypeId) :
    ∃ v' w', (Builtin.append_ #[79, 79] ty #[v, .slice A m c]).run Try.prog w = .ok v' w' ∧ w'.ownsRow base 5 1 v' (n + m) (xs ++ u8s zs) ∧ w.grownBy w' v.ownBlock ∧ (v ≠ .slice none 0 0 → v' ≠ .slice none 0 0) := by
  rcases Nat.eq_zero_or_pos m with rfl | hm
  · obtain rfl : zs = [] := List.eq_nil_of_length_eq_zero hs.1
    rcases A with _ | ad
    · refine ⟨v, w, ?_, by simpa using hown, World.grownBy.refl w _, fun h => h⟩
      rcases hown.2 with ⟨rfl, rfl⟩ | ⟨g, cap, cur, rfl, _, _, hnc, _⟩
      · simp [Builtin.append_, run_underlying Try.underlying79, sizeOf, typeInfo, hi0, Builtin.lenOf, Builtin.firstCells]
      · simp [Builtin.append_, run_underlying Try.underlying79, sizeOf, typeInfo, hi0, Builtin.lenOf, Builtin.firstCells, hnc, storeCells]
    · obtain ⟨v', w', h1, h2, h3, h4⟩ := run_append_own_at (P := Try.prog) w base 79 ty 5 i0 (.int .u8 0) 1 1 Try.underlying79 hi0 hz0 hz1 hz2 rfl (by omega) v n xs hown ad 0 c [] rfl (by simp) (by simp) (by unfold maxLen; omega) (by omega) hbase
      exact ⟨v', w', h1, h2, h3, fun h e => h ((h4.1.1 e).1)⟩
  · obtain ⟨b, o, rfl, _, hc⟩ := hs.at_ hm
    obtain ⟨v', w', h1, h2, h3, h4⟩ := run_append_own_at (P := Try.prog) w base 79 ty 5 i0 (.int .u8 0) 1 1 Try.underlying79 hi0 hz0 hz1 hz2 rfl (by omega) v n xs hown ⟨b, o, none⟩ m c (u8s zs) (by simp [hs.1])
      (fun j u hu => by
        rw [List.getElem?_map] at hu
        have hj : j < zs.length := by
          rcases Nat.lt_or_ge j zs.length with h | h
          · exact h
          · rw [List.getElem?_eq_none h] at hu; cases hu
        rw [List.getElem?_eq_getElem hj] at hu
        rw [addr_add, hc j (by rw [← hs.1]; exact hj), ← Option.some.inj hu]
        simp [List.getD, List.getElem?_eq_getElem hj])
      (fun u hu => by obtain ⟨z, _, rfl⟩ := List.mem_map.1 hu; rfl) (by unfold maxLen; omega) (by omega) hbase
    exact ⟨v', w', h1, h2, h3, fun h e => h ((h4.1.1 e).1)⟩
/-- What a call has made shows its bytes. -/
theorem owned_shows {w : World} {base n : Nat} {v : Value} {zs : List Int} (h : w.ownsRow base 5 1 v n (u8s zs)) (hz : ∀ z ∈ zs, 0 ≤ z ∧ z < 256) :
    ∃ A c, v = .slice A n c ∧ Shows w w.heap.size A n zs ∧ n ≤ c ∧ c ≤ 9223372036854775807 := by
  obtain ⟨hl, ⟨rfl, rfl⟩ | ⟨g, cap, cur, rfl, hb, hg, hnc, hcm, hsz, htk⟩⟩ := h
  · obtain rfl : zs = [] := by simpa using hl
    exact ⟨none, 0, rfl, Shows.nil _ _, Nat.le_refl _, by omega⟩
  · have hlz : zs.length = n := by simpa using hl
    refine ⟨_, cap, rfl, ⟨hlz, hz, fun hn => ⟨g, 0, rfl, ?_, fun i hi => ?_⟩⟩, hnc, hcm⟩
    · exact (Array.getElem?_eq_some_iff.1 hg).1
    · have h1 : (u8s zs)[i]? = cur[i]? := by
        rw [← htk, List.getElem?_take_of_lt (by omega), Array.getElem?_toList]
      rw [Nat.zero_add]
      have h2 : w.cell? ⟨g, i, none⟩ = cur[i]? := by simp [World.cell?, hg]
      rw [h2, ← h1, List.getElem?_map, List.getElem?_eq_getElem (by omega)]
      simp [List.getD, List.getElem?_eq_getElem (show i < zs.length by omega)]

/-- The four bytes of a number, the greatest first. -/
def four (v : Int) : List Int := [v / 16777216, v / 65536 % 256, v / 256 % 256, v % 256]

/-- Block g holds just these bytes. -/
def BRow (w : World) (g : Nat) (zs : List Int) : Prop := w.heap[g]? = some (.cells (u8s zs).toArray 5 (0, 0))
section
variable {w w' : World} {g : Nat} {zs : List Int}
theorem BRow.lt (h : BRow w g zs) : g < w.heap.size := (Array.getElem?_eq_some_iff.1 h).1
theorem BRow.cell (h : BRow w g zs) (i : Nat) (hi : i < zs.length) : w.cell? ⟨g, i, none⟩ = some (.int .u8 (zs.getD i 0)) := by
  rw [cell_of_row w g i _ _ (0, 0) h]
  simp [List.getD, List.getElem?_eq_getElem hi]
theorem BRow.free (h : BRow w g zs) (i : Nat) : w.frozen? ⟨g, i, none⟩ = false := by
  unfold BRow at h
  simp [World.frozen?, h]
theorem BRow.set (h : BRow w g zs) (i : Nat) (v : Int) : BRow (w.setCell ⟨g, i, none⟩ (.int .u8 v)) g (zs.set i v) := by
  unfold BRow at h ⊢
  simp [World.setCell, Array.getElem?_modify, h, List.map_set]
theorem BRow.shows {n : Nat} (h : BRow w g zs) (hn : zs.length = n) (hz : ∀ z ∈ zs, 0 ≤ z ∧ z < 256) : Shows w w.heap.size (some ⟨g, 0, none⟩) n zs :=
  ⟨hn, hz, fun h0 => ⟨g, 0, rfl, h.lt, fun i hi => by rw [Nat.zero_add]; exact h.cell i (by omega)⟩⟩
end

/-- The k bytes of v, the greatest first. -/
def digits (v : Int) (k : Nat) : List Int := (List.range k).map fun i => v / 256 ^ (k - 1 - i) % 256

theorem make_bytes (k : Nat) (hk : k ≤ 100) (w : World) :
    (Instr.makeSlice 79 (.int .i64 (k : Int)) (.int .i64 (k : Int))).run Try.prog w = .ok (.slice (some ⟨w.heap.size, 0, none⟩) k k) (w.alloc (.cells (madeCells #[.int .u8 0] k) 5)) := by
  exact run_make_row' (P := Try.prog) 79 5 (.int .u8 0) 1 Try.underlying79 info_u8 rfl .i64 .i64 k (by omega) (by omega) w

theorem made_brow (w : World) (k : Nat) : BRow (w.alloc (.cells (madeCells #[.int .u8 0] k) 5)) w.heap.size (List.replicate k 0) := by
  unfold BRow
  rw [heap_alloc_new]
  congr 2
  apply Array.toList_inj.1
  rw [toList_madeCells_one]
  simp

/-- One byte more from the end is written. -/
theorem digits_step (v : Int) (k m : Nat) (cs : List Int) (hm : m < k) (hl : cs.length = k) (h : ∀ p, m + 1 ≤ p → p < k → cs.getD p 0 = v / 256 ^ (k - 1 - p) % 256) :
    ∀ p, m ≤ p → p < k → (cs.set m (v / 256 ^ (k - (m + 1)) % 256)).getD p 0 = v / 256 ^ (k - 1 - p) % 256 := by
  intro p h1 h2
  by_cases e : p = m
  · subst e
    rw [show k - (p + 1) = k - 1 - p from by omega]
    simp [List.getD, hl, h2]
  · have := h p (by omega) h2
    rw [← this]
    simp [List.getD, List.getElem?_set_ne (Ne.symm e)]

theorem digits_all (v : Int) (k : Nat) (cs : List Int) (hl : cs.length = k) (h : ∀ p, 0 ≤ p → p < k → cs.getD p 0 = v / 256 ^ (k - 1 - p) % 256) : cs = digits v k := by
  apply List.ext_getElem
  · simp [digits, hl]
  · intro i h1 h2
    have := h i (by omega) (by omega)
    simp only [List.getD, List.getElem?_eq_getElem h1, Option.getD_some] at this
    rw [this]
    simp [digits]

theorem quo_step (v : Int) (k m : Nat) (hm : m < k) : v / 256 ^ (k - (m + 1)) / 256 = v / 256 ^ (k - m) := by
  rw [show k - m = (k - (m + 1)) + 1 from by omega, Int.pow_succ, Int.ediv_ediv_of_nonneg (Int.pow_nonneg (by omega))]

theorem digits_four (v : Int) (h0 : 0 ≤ v) (h1 : v ≤ 4294967295) : digits v 4 = four v := by
  have e : List.range 4 = [0, 1, 2, 3] := rfl
  simp only [digits, four, e, List.map_cons, List.map_nil, List.cons.injEq, and_true]
  refine ⟨?_, ?_, ?_, ?_⟩ <;> simp only [show (4 - 1 - 0 : Nat) = 3 from rfl, show (4 - 1 - 1 : Nat) = 2 from rfl, show (4 - 1 - 2 : Nat) = 1 from rfl, show (4 - 1 - 3 : Nat) = 0 from rfl, show (256 : Int) ^ 3 = 16777216 from by decide, show (256 : Int) ^ 2 = 65536 from by decide, show (256 : Int) ^ 1 = 256 from by decide, show (256 : Int) ^ 0 = 1 from by decide]
  all_goals omega
theorem digits_eight (v : Int) (h0 : 0 ≤ v) (h1 : v ≤ 18446744073709551615) : digits v 8 = four (v / 4294967296) ++ four (v % 4294967296) := by
  have e : List.range 8 = [0, 1, 2, 3, 4, 5, 6, 7] := rfl
  simp only [digits, four, e, List.map_cons, List.map_nil, List.cons_append, List.nil_append, List.cons.injEq, and_true]
  refine ⟨?_, ?_, ?_, ?_, ?_, ?_, ?_, ?_⟩ <;> simp only [show (8 - 1 - 0 : Nat) = 7 from rfl, show (8 - 1 - 1 : Nat) = 6 from rfl, show (8 - 1 - 2 : Nat) = 5 from rfl, show (8 - 1 - 3 : Nat) = 4 from rfl, show (8 - 1 - 4 : Nat) = 3 from rfl, show (8 - 1 - 5 : Nat) = 2 from rfl, show (8 - 1 - 6 : Nat) = 1 from rfl, show (8 - 1 - 7 : Nat) = 0 from rfl, show (256 : Int) ^ 7 = 72057594037927936 from by decide, show (256 : Int) ^ 6 = 281474976710656 from by decide, show (256 : Int) ^ 5 = 1099511627776 from by decide, show (256 : Int) ^ 4 = 4294967296 from by decide, show (256 : Int) ^ 3 = 16777216 from by decide, show (256 : Int) ^ 2 = 65536 from by decide, show (256 : Int) ^ 1 = 256 from by decide, show (256 : Int) ^ 0 = 1 from by decide]
  all_goals omega

/-- A row of the call's own is left by a call that lays only new blocks. -/
theorem own_on {w w' : World} {base n sz : Nat} {e : TypeId} {v : Value} {xs : List Value} (h : w.ownsRow base e sz v n xs) (hb : Below w.heap.size w w') : w'.ownsRow base e sz v n xs :=
  h.kept (row := none) ⟨hb.os, hb.tape, hb.output, hb.size, fun i hi _ => hb.block i hi⟩ (by cases v.ownBlock <;> simp)
end Go.Proofs.Ytapfcbcojnplaaa

/-! append(b, make([]byte, m)...) onto a row that the call owns: gc's append-of-make. -/
namespace Go.Proofs.Ytapfcbcojnplaaa
open Go.RowKit
set_option linter.unusedVariables false
set_option linter.unusedSimpArgs false

theorem zeroCells_u8 (m : Nat) : (Builtin.zeroCells (Value.int .u8 0).cells m).toList = u8s (List.replicate m 0) := by
  have e : (Value.int .u8 0).cells = #[.int .u8 0] := rfl
  rw [e]
  simp only [Builtin.zeroCells, List.size_toArray, List.length_cons, List.length_nil, Nat.zero_add, Nat.mul_one, u8s, List.map_replicate]
  rw [Array.toList_map, Array.toList_range]
  apply List.ext_getElem
  · simp
  · intro i h1 h2
    simp [Nat.mod_one]

set_option maxHeartbeats 1000000 in
theorem run_append_zeros (w : World) (i0 : TypeInfo) (hi0 : Try.prog.info? 5 = some i0) (hz0 : i0.zero = some (.int .u8 0)) (hz1 : i0.size = 1) (hz2 : i0.bytes = 1)
    (base : Nat) (v : Value) (n : Nat) (xs : List Value) (hown : w.ownsRow base 5 1 v n xs) (m : Nat) (hnm : n + m ≤ 140737488351232) (hbase : base ≤ w.heap.size) (ty : TypeId) :
    ∃ v' w', (Builtin.append_ #[79, 3] ty #[v, .int .i64 (m : Int)]).run Try.prog w = .ok v' w' ∧ w'.ownsRow base 5 1 v' (n + m) (xs ++ u8s (List.replicate m 0)) ∧ w.grownBy w' v.ownBlock := by
  have ht := Try.underlying79
  have htn := Try.underlying3
  have hw : IntKind.i64.wrap (m : Int) = m := by rw [IntKind.wrap_i64]; omega
  have hneg : ¬ ((m : Int) < 0) := by omega
  have h48i : ¬ (281474976710656 < (m : Int) * (i0.bytes : Int)) := by rw [hz2]; omega
  have h48j : ¬ (281474976710656 < (m : Int)) := by omega
  have hl : xs.length = n := by simpa using hown.1
  have hlen : (xs ++ u8s (List.replicate m 0)).length = (n + m) * 1 := by simp [hl]
  have hsz : (Builtin.zeroCells (Value.int .u8 0).cells m).size = m := by rw [size_zeroCells]; simp [Value.cells]
  rcases Nat.eq_zero_or_pos m with rfl | hm
  · refine ⟨v, w, ?_, by simpa using hown, World.grownBy.refl w _⟩
    rcases hown.2 with ⟨rfl, rfl⟩ | ⟨g, cap, cur, rfl, _, _, hnc, _⟩
    · simp [Builtin.append_, run_underlying ht, run_underlying htn, sizeOf, typeInfo, hi0, asInt, asIntOf, hw, Builtin.lenOf, Builtin.firstCells, IntKind.wrap_i64]
    · simp [Builtin.append_, run_underlying ht, run_underlying htn, sizeOf, typeInfo, hi0, asInt, asIntOf, hw, Builtin.lenOf, Builtin.firstCells, hnc, storeCells, IntKind.wrap_i64]
  · have grow : ∀ (A : Option Addr) (cap : Nat), cap < n + m → v = .slice A n cap → (Builtin.firstCells 1 n (.slice A n cap)).run Try.prog w.drew = .ok xs.toArray w.drew →
        ∃ v' w', (Builtin.append_ #[79, 3] ty #[v, .int .i64 (m : Int)]).run Try.prog w = .ok v' w' ∧ w'.ownsRow base 5 1 v' (n + m) (xs ++ u8s (List.replicate m 0)) ∧ w.grownBy w' v.ownBlock := by
      intro A cap hlt hv hold
      subst hv
      have hr := Lib.run_append_grow_zeros (P := Try.prog) w 79 3 ty 5 i0 (.int .u8 0) .i64 .i64 ht htn hi0 hz0 A n cap xs (by rw [hz1]; exact hold) m hm (by omega) hlt (by omega) (by rw [hz2]; omega) (by rw [hz2]; exact growslice_fits (by omega) (by omega))
      have hge := grownCap_ge w (n + m) cap 5
      have hcm : grownCap w (n + m) cap 5 ≤ maxLen := grownCap_le_maxLen w (n + m) cap 5 (by unfold maxLen; omega)
      refine ⟨_, _, hr, ⟨hlen, .inr ⟨w.heap.size, _, _, rfl, hbase, heap_alloc_new w.drew _, hge, hcm, ?_, ?_⟩⟩, ⟨rfl, rfl, rfl, by simp, fun k hk _ => heap_alloc_old w.drew _ hk⟩⟩
      · simp only [Array.size_append, List.size_toArray, size_zeroCells, hsz, hl]
        simp only [Value.cells, List.size_toArray, List.length_cons, List.length_nil]
        omega
      · simp only [Array.toList_append, zeroCells_u8]
        rw [← hlen]
        exact List.take_left
    rcases hown.2 with ⟨hv, hx⟩ | ⟨g, cap, cur, hv, hbg, hg, hnc, hcm, hcs, htake⟩
    · subst hx
      obtain rfl : xs = [] := List.eq_nil_of_length_eq_zero hl
      exact grow none 0 (by omega) hv (run_firstCells_none w.drew 1 0 0 0)
    · by_cases hroom : n + m ≤ cap
      · subst hv
        have hfit : n * i0.size + (u8s (List.replicate m 0)).length ≤ cur.size := by rw [hz1, hcs]; simp; omega
        have hst := run_storeCells_at Try.prog g (n * i0.size) 5 (u8s (List.replicate m 0)) 0 cur w hg (by simpa using hfit) (fun u hu => by obtain ⟨z, _, rfl⟩ := List.mem_map.1 hu; rfl)
        rw [hz1] at hst hfit
        simp only [Nat.add_zero, Nat.mul_one] at hst hfit
        have hm0 : m ≠ 0 := by omega
        have hr : (Builtin.append_ #[79, 3] ty #[.slice (some ⟨g, 0, none⟩) n cap, .int .i64 (m : Int)]).run Try.prog w =
            .ok (.slice (some ⟨g, 0, none⟩) (n + m) cap) (w.setRow g (cur.toList.take n ++ u8s (List.replicate m 0) ++ cur.toList.drop (n + (u8s (List.replicate m 0)).length)).toArray) := by
          rw [← zeroCells_u8] at hst ⊢
          simp [Builtin.append_, run_underlying ht, run_underlying htn, sizeOf, typeInfo, zeroValue, hi0, hz0, hz1, hz2, asInt, asIntOf, hw, hneg, h48i, h48j, hm0, hroom, Addr.add_lit, hst]
        refine ⟨_, _, hr, ⟨hlen, .inr ⟨g, cap, _, rfl, hbg, setRow_heap w g cur _ 5 _ hg, hroom, hcm, ?_, ?_⟩⟩, ⟨rfl, rfl, rfl, by simp, fun k _ hk => setRow_other w g k _ (fun e => hk (by simp [Value.ownBlock, e]))⟩⟩
        · simp only [List.size_toArray, List.length_append, List.length_take, List.length_drop, Array.length_toList]
          omega
        · have h1 : cur.toList.take n = xs := by simpa using htake
          rw [h1, ← hlen]
          exact List.take_left
      · have holds : ∀ j u, xs[j]? = some u → w.cell? ((⟨g, 0, none⟩ : Addr).add j) = some u := by
          subst hv
          exact hown.cells (g := g) rfl
        exact grow (some ⟨g, 0, none⟩) cap (by omega) hv (run_firstCells_some (P := Try.prog) w.drew 1 n _ n cap xs (by simpa using hl) holds)
end Go.Proofs.Ytapfcbcojnplaaa

/-! The document's blob, its small parts: a cell's bytes, bytes with noughts up to a multiple of 4. -/
namespace Go.Proofs.Ytapfcbcojnplaaa
open Go.RowKit
set_option linter.unusedVariables false
set_option linter.unusedSimpArgs false

theorem four_byte (v : Int) (h0 : 0 ≤ v) (h1 : v ≤ 4294967295) : ∀ z ∈ four v, 0 ≤ z ∧ z < 256 := by
  intro z hz
  simp only [four, List.mem_cons, List.not_mem_nil, or_false] at hz
  omega
theorem and_mask (v : Nat) (hv : v ≤ 4294967295) : bits .and .u64 (v : Int) 4294967295 = v := by
  have h := u64_and_nat v 4294967295 (by omega) (by omega)
  have e : v &&& 4294967295 = v := by
    have := Nat.and_two_pow_sub_one_eq_mod v 32
    rw [show (2 ^ 32 - 1 : Nat) = 4294967295 from by decide, show (2 ^ 32 : Nat) = 4294967296 from by decide] at this
    rw [this]; omega
  rw [e] at h
  exact h

/-- How many noughts are missing up to a multiple of 4. -/
def padN (n : Nat) : Nat := (4 - n % 4) % 4
/-- Bytes, and noughts up to a multiple of 4. -/
def padL (zs : List Int) : List Int := zs ++ List.replicate (padN zs.length) 0
theorem padL_length (zs : List Int) : (padL zs).length = zs.length + padN zs.length := by simp [padL]
theorem padN_lt (n : Nat) : padN n < 4 := by unfold padN; omega
theorem padL_byte {zs : List Int} (h : ∀ z ∈ zs, 0 ≤ z ∧ z < 256) : ∀ z ∈ padL zs, 0 ≤ z ∧ z < 256 := by
  intro z hz
  rcases List.mem_append.1 hz with h' | h'
  · exact h z h'
  · rw [List.mem_replicate] at h'; omega
theorem bytes_more {zs : List Int} (h : ∀ z ∈ zs, 0 ≤ z ∧ z < 256) (j : Nat) : ∀ z ∈ zs ++ List.replicate j 0, 0 ≤ z ∧ z < 256 := by
  intro z hz
  rcases List.mem_append.1 hz with h' | h'
  · exact h z h'
  · rw [List.mem_replicate] at h'; omega

/-- A new block of bytes is shown. -/
theorem shows_lit (w : World) (zs : List Int) (n : Nat) (cs : Array Value) (hn : zs.length = n) (hz : ∀ z ∈ zs, 0 ≤ z ∧ z < 256) (hcs : cs = (u8s zs).toArray) (t : TypeId) :
    Shows (w.alloc (.cells cs t)) (w.heap.size + 1) (some ⟨w.heap.size, 0, none⟩) n zs := by
  subst hcs
  refine ⟨hn, hz, fun h0 => ⟨w.heap.size, 0, rfl, by omega, fun i hi => ?_⟩⟩
  rw [Nat.zero_add, cell_of_row (w.alloc (.cells (u8s zs).toArray t)) w.heap.size i _ t (0, 0) (heap_alloc_new w _)]
  have hi' : i < zs.length := by omega
  simp [List.getD, List.getElem?_eq_getElem hi']

def lenOfV : Value → Nat
  | .slice _ k _ => k
  | _ => 0
/-- How many noughts are missing. -/
def missing (v : Value) : Nat := padN (lenOfV v)

end Go.Proofs.Ytapfcbcojnplaaa

/-! The document's blob, a node's first statement, whose operations come in several orders: what is known while some of them have come. -/
namespace Go.Proofs.Ytapfcbcojnplaaa
open Go.RowKit
set_option linter.unusedVariables false
set_option linter.unusedSimpArgs false

/-- A text's bytes. -/
def strB (s : ByteArray) : List Int := s.data.toList.map fun b => (b.toNat : Int)
theorem strB_length (s : ByteArray) : (strB s).length = s.size := by simp [strB]
theorem strB_byte (s : ByteArray) : ∀ z ∈ strB s, 0 ≤ z ∧ z < 256 := by
  intro z hz
  obtain ⟨b, _, rfl⟩ := List.mem_map.1 hz
  have := b.toNat_lt
  omega

/-- An empty row that the call has made. -/
def EmptyRow (W : World) (B : Nat) (u : Value) : Prop := ∃ g, u = .slice (some ⟨g, 0, none⟩) 0 0 ∧ W.ownsRow B 5 1 u 0 []
/-- The row that []byte(s) has made: it bears a mark. -/
def MarkRow (W : World) (B : Nat) (s : ByteArray) (u : Value) : Prop :=
  ∃ g cap cs, u = .slice (some ⟨g, 0, none⟩) s.size cap ∧ B ≤ g ∧ W.heap[g]? = some (.cells cs 5 (cs.size, cs.size + 1)) ∧ cs.size = cap ∧ s.size ≤ cap ∧ cap ≤ 9223372036854775807 ∧ cs.toList.take s.size = u8s (strB s)
/-- A small row, by its bytes. -/
def SmallRow (W : World) (n : Nat) (zs : List Int) (u : Value) : Prop := ∃ g, u = .slice (some ⟨g, 0, none⟩) n n ∧ Shows W W.heap.size (some ⟨g, 0, none⟩) n zs

section
variable {W W' : World} {B : Nat} {u : Value} {s : ByteArray} {n : Nat} {zs : List Int}
theorem EmptyRow.on (h : EmptyRow W B u) (hb : Below W.heap.size W W') : EmptyRow W' B u := by
  obtain ⟨g, rfl, h⟩ := h
  exact ⟨g, rfl, own_on h hb⟩
theorem MarkRow.on (h : MarkRow W B s u) (hb : Below W.heap.size W W') : MarkRow W' B s u := by
  obtain ⟨g, cap, cs, h1, h2, h3, h4⟩ := h
  exact ⟨g, cap, cs, h1, h2, (hb.block g (Array.getElem?_eq_some_iff.1 h3).1).trans h3, h4⟩
theorem SmallRow.on (h : SmallRow W n zs u) (hb : Below W.heap.size W W') : SmallRow W' n zs u := by
  obtain ⟨g, h1, h2⟩ := h
  exact ⟨g, h1, (h2.below hb).more hb.size⟩
theorem SmallRow.new (W : World) (zs : List Int) (n : Nat) (cs : Array Value) (hn : zs.length = n) (hz : ∀ z ∈ zs, 0 ≤ z ∧ z < 256) (hcs : cs = (u8s zs).toArray) (t : TypeId) : SmallRow (W.alloc (.cells cs t)) n zs (.slice (some ⟨W.heap.size, 0, none⟩) n n) :=
  ⟨_, rfl, (shows_lit W zs n cs hn hz hcs t).more (by simp)⟩
theorem EmptyRow.new (W : World) (hB : B ≤ W.heap.size) : EmptyRow (W.alloc (.cells #[] 5)) B (.slice (some ⟨W.heap.size, 0, none⟩) 0 0) :=
  ⟨_, rfl, World.ownsRow_made W #[] 0 hB (Nat.zero_le _) rfl⟩
end

/-- append onto an empty row: a new one. -/
theorem run_append_empty (W : World) (B : Nat) (u : Value) (h : EmptyRow W B u) (hB : B ≤ W.heap.size) (n : Nat) (zs : List Int) (x : Value) (hx : SmallRow W n zs x) (h0 : 0 < n) (hn : n ≤ 100) (ty : TypeId) :
    ∃ v' W', (Builtin.append_ #[79, 79] ty #[u, x]).run Try.prog W = .ok v' W' ∧ W'.ownsRow B 5 1 v' n (u8s zs) ∧ Below W.heap.size W W' := by
  obtain ⟨i0, hi0, hz0, hz1, hz2⟩ := info_parts info_u8
  obtain ⟨g, rfl, hown⟩ := h
  obtain ⟨g2, rfl, hsh⟩ := hx
  obtain ⟨b, o, e, _, hc⟩ := hsh.at_ h0
  obtain ⟨rfl, rfl⟩ : b = g2 ∧ o = 0 := by injection e with e; injection e with e1 e2; exact ⟨e1.symm, e2.symm⟩
  have hl := hsh.1
  have hr := run_append_grow (P := Try.prog) W 79 ty 5 i0 (.int .u8 0) Try.underlying79 hi0 hz0 ⟨g, 0, none⟩ 0 0 [] (by simp) (by simp) ⟨b, 0, none⟩ n n (u8s zs) (by simp [hz1, hl])
    (fun j u hu => by
      rw [List.getElem?_map] at hu
      have hj : j < zs.length := by
        rcases Nat.lt_or_ge j zs.length with h | h
        · exact h
        · rw [List.getElem?_eq_none h] at hu; cases hu
      rw [List.getElem?_eq_getElem hj] at hu
      have := hc j (by omega)
      rw [Nat.zero_add] at this
      rw [addr_add, Nat.zero_add, this, ← Option.some.inj hu]
      simp [List.getD, List.getElem?_eq_getElem hj]) (by omega) (by omega) (by rw [hz2]; exact growslice_fits (by omega) (by omega))
  have hge := grownCap_ge W (0 + n) 0 5
  have hcm : grownCap W (0 + n) 0 5 ≤ maxLen := grownCap_le_maxLen W (0 + n) 0 5 (by unfold maxLen; omega)
  refine ⟨_, _, hr, ?_, (Below.refl _ W).drew.alloc (by simp) _⟩
  rw [Nat.zero_add] at hge hcm ⊢
  refine ⟨by simp [hl], .inr ⟨W.heap.size, _, _, rfl, hB, heap_alloc_new W.drew _, hge, hcm, ?_, ?_⟩⟩
  · have hz1' : (Value.int IntKind.u8 0).cells.size = 1 := rfl
    simp only [Array.size_append, List.size_toArray, size_zeroCells, hz1', List.length_nil, List.length_map, hl]
    omega
  · simp [hl]

/-- []byte(s). -/
theorem run_bytes_marked (W : World) (B : Nat) (hB : B ≤ W.heap.size) (s : ByteArray) (hs : s.size ≤ 140737488351232) :
    ∃ v' W', (convert 9 79 (.string s)).run Try.prog W = .ok v' W' ∧ MarkRow W' B s v' ∧ Below W.heap.size W W' := by
  have hge := grownCap_ge W s.size 0 5
  have hcm : grownCap W s.size 0 5 ≤ maxLen := grownCap_le_maxLen W s.size 0 5 (by unfold maxLen; omega)
  have hsz : (Lib.bytesCells W 5 s).size = grownCap W s.size 0 5 := by
    simp only [Lib.bytesCells, Array.size_append, Array.size_map, Array.size_replicate]
    have : s.data.size = s.size := rfl
    omega
  refine ⟨_, _, Lib.run_convert_string_bytes W _ _ 5 s Try.underlying9 Try.underlying79 Try.underlying5, ⟨_, _, _, rfl, hB, Lib.bytesWorld_at_new W _ s, hsz, hge, hcm, ?_⟩, ⟨rfl, rfl, rfl, by rw [Lib.bytesWorld_size]; omega, fun i hi => Lib.bytesWorld_at_old W _ s i hi⟩⟩
  have hl : s.data.toList.length = s.size := by simp
  rw [← hl]
  simp only [Lib.bytesCells, Array.toList_append, Array.toList_map, u8s, strB, List.map_map]
  rw [List.take_append_of_le_length (by simp), List.take_of_length_le (by simp)]
  rfl

/-- append of one nought onto the row that []byte(s) has made. -/
theorem own_ne {W : World} {B n : Nat} {v : Value} {xs : List Value} {g : Nat} (h : W.ownsRow B 5 1 v n xs) (hg : ∀ cur t, W.heap[g]? ≠ some (.cells cur t (0, 0))) : v.ownBlock = none ∨ v.ownBlock ≠ some g := by
  rcases h.2 with ⟨rfl, _⟩ | ⟨g', cap, cur, rfl, _, hh, _⟩
  · exact .inl rfl
  · refine .inr fun e => ?_
    have e' : g' = g := by simpa [Value.ownBlock] using e
    subst e'
    exact hg _ _ hh
theorem run_append_marked (W : World) (B : Nat) (s : ByteArray) (u : Value) (h : MarkRow W B s u) (hB : B ≤ W.heap.size) (hs : s.size ≤ 140737488351200) (x : Value) (hx : SmallRow W 1 [0] x) (ty : TypeId) :
    ∃ A c g W', (Builtin.append_ #[79, 79] ty #[u, x]).run Try.prog W = .ok (.slice A (s.size + 1) c) W' ∧ Shows W' W'.heap.size A (s.size + 1) (strB s ++ [0]) ∧ W.grownBy W' (some g) ∧ B ≤ g ∧ (∀ cur t, W.heap[g]? ≠ some (.cells cur t (0, 0))) := by
  obtain ⟨i0, hi0, hz0, hz1, hz2⟩ := info_parts info_u8
  obtain ⟨g, cap, cs, rfl, hg0, hg, hcs, hsc, hcm, htk⟩ := h
  obtain ⟨g2, rfl, hsh⟩ := hx
  obtain ⟨b, o, e, _, hc⟩ := hsh.at_ (by omega)
  obtain ⟨rfl, rfl⟩ : b = g2 ∧ o = 0 := by injection e with e; injection e with e1 e2; exact ⟨e1.symm, e2.symm⟩
  have hc0 : W.cell? ⟨b, 0, none⟩ = some (.int .u8 0) := by simpa using hc 0 (by omega)
  have hne : ∀ cur t, W.heap[g]? ≠ some (.cells cur t (0, 0)) := fun cur t e => by rw [hg] at e; injection e with e; injection e with _ _ e; injection e with _ e; omega
  have hz : ∀ z ∈ strB s ++ [0], 0 ≤ z ∧ z < 256 := fun z hz => by
    rcases List.mem_append.1 hz with h | h
    · exact strB_byte s z h
    · simp at h; subst h; omega
  have hlz : (strB s ++ [0]).length = s.size + 1 := by simp [strB_length]
  have cell : ∀ i, i < s.size → W.cell? ⟨g, i, none⟩ = some (.int .u8 ((strB s).getD i 0)) := fun i hi => by
    have e : W.cell? ⟨g, i, none⟩ = cs[i]? := by simp [World.cell?, hg]
    have h1 : (u8s (strB s))[i]? = cs[i]? := by rw [← htk, List.getElem?_take_of_lt hi, Array.getElem?_toList]
    rw [e, ← h1, List.getElem?_map]
    have hi' : i < (strB s).length := by rw [strB_length]; exact hi
    simp [List.getD, List.getElem?_eq_getElem hi']
  by_cases hroom : s.size + 1 ≤ cap
  · have hcn : W.cell? ⟨g, s.size, none⟩ = some cs[s.size] := by simp [World.cell?, hg, show s.size < cs.size by omega]
    have hfn : W.frozen? ⟨g, s.size, none⟩ = false := by
      simp only [World.frozen?, hg, Bool.and_eq_false_iff, decide_eq_false_iff_not]
      left
      omega
    have hst : (store (⟨g, s.size, none⟩ : Addr) (.int .u8 0)).run Try.prog W = .ok () (W.setCell ⟨g, s.size, none⟩ (.int .u8 0)) := by
      rw [run_store Try.prog W _ (.int .u8 0) _ rfl, hcn]
      simp [stored, hcn, hfn]
    have hfc := run_firstCells_some (P := Try.prog) W 1 1 ⟨b, 0, none⟩ 1 1 [.int .u8 0] rfl (fun j u hj => by
      match j, hj with
      | 0, hj => simp at hj; subst hj; rw [addr_add]; exact hc0)
    refine ⟨some ⟨g, 0, none⟩, cap, g, W.setCell ⟨g, s.size, none⟩ (.int .u8 0), ?_, ⟨hlz, hz, fun _ => ⟨g, 0, rfl, ?_, fun i hi => ?_⟩⟩, ?_, hg0, hne⟩
    · simp [Builtin.append_, run_underlying Try.underlying79, sizeOf, typeInfo, hi0, hz1, Builtin.lenOf, hroom, hfc, storeCells, addr_add, hst]
    · simp [World.setCell]; exact (Array.getElem?_eq_some_iff.1 hg).1
    · rw [Nat.zero_add]
      rcases Nat.lt_or_ge i s.size with h | h
      · rw [World.cell?_setCell_other _ _ _ _ (by intro e; injection e with _ e; omega), cell i h]
        have hi' : i < (strB s).length := by rw [strB_length]; exact h
        simp [List.getD, List.getElem?_append_left hi']
      · obtain rfl : i = s.size := by omega
        rw [World.cell?_setCell_same _ _ _ hcn]
        simp [List.getD, strB_length]
    · exact ⟨rfl, rfl, rfl, by simp [World.setCell], fun i hi hne' => Below.heap_setCell W ⟨g, s.size, none⟩ (.int .u8 0) i (fun e => hne' (by rw [e]))⟩
  · have hr := run_append_grow (P := Try.prog) W 79 ty 5 i0 (.int .u8 0) Try.underlying79 hi0 hz0 ⟨g, 0, none⟩ s.size cap (u8s (strB s)) (by simp [hz1, strB_length])
      (fun j u hu => by
        rw [List.getElem?_map] at hu
        have hj : j < (strB s).length := by
          rcases Nat.lt_or_ge j (strB s).length with h | h
          · exact h
          · rw [List.getElem?_eq_none h] at hu; cases hu
        rw [List.getElem?_eq_getElem hj] at hu
        have := cell j (by rw [← strB_length]; exact hj)
        rw [addr_add, Nat.zero_add, this, ← Option.some.inj hu]
        simp [List.getD, List.getElem?_eq_getElem hj])
      ⟨b, 0, none⟩ 1 1 [.int .u8 0] (by simp [hz1]) (fun j u hj => by
        match j, hj with
        | 0, hj => simp at hj; subst hj; rw [addr_add]; exact hc0) (by omega) (by omega) (by rw [hz2]; exact growslice_fits (by omega) (by omega))
    have hge := grownCap_ge W (s.size + 1) cap 5
    refine ⟨_, _, g, _, hr, ⟨hlz, hz, fun _ => ⟨W.heap.size, 0, rfl, by simp, fun i hi => ?_⟩⟩, ⟨rfl, rfl, rfl, by simp, fun i hi _ => heap_alloc_old W.drew _ hi⟩, hg0, hne⟩
    rw [Nat.zero_add, cell_of_row _ W.heap.size i _ 5 (0, 0) (heap_alloc_new W.drew _)]
    have hi' : i < (strB s ++ [0]).length := by omega
    have e : ((u8s (strB s)).toArray ++ [Value.int IntKind.u8 0].toArray) = (u8s (strB s ++ [0])).toArray := by simp
    rw [e, Array.getElem?_append_left (by simp [strB_length]; omega)]
    have e2 : (u8s (strB s ++ [0]))[i]? = some (.int .u8 ((strB s ++ [0])[i])) := by rw [List.getElem?_map, List.getElem?_eq_getElem hi']; rfl
    rw [List.getElem?_toArray, e2]
    simp [List.getD, List.getElem?_eq_getElem hi']

/-- What is known while some of a node's first operations have come: b0, b2, b3, b4, b7, b8: whether the empty row, it again, the token's row, the token appended, the name's row, the nought's row, are there. -/
structure NF (W0 W : World) (B : Nat) (nm : ByteArray) (b0 b2 b3 b4 b7 b8 : Bool) (u19 u21 u22 u23 u26 u27 : Value) : Prop where
  below : Below B W0 W
  size : B ≤ W.heap.size
  i20 : b2 = true → b0 = true
  i42 : b4 = true → b2 = true
  i43 : b4 = true → b3 = true
  f0 : b0 = true → EmptyRow W B u19
  f2 : b2 = true → EmptyRow W B u21
  f3 : b3 = true → SmallRow W 4 [0, 0, 0, 1] u22
  f4 : b4 = true → W.ownsRow B 5 1 u23 4 (u8s [0, 0, 0, 1])
  f7 : b7 = true → MarkRow W B nm u26
  f8 : b8 = true → SmallRow W 1 [0] u27

section
variable {W0 W W' : World} {B : Nat} {nm : ByteArray} {b0 b2 b3 b4 b7 b8 : Bool} {u19 u21 u22 u23 u26 u27 : Value}
theorem NF.on (h : NF W0 W B nm b0 b2 b3 b4 b7 b8 u19 u21 u22 u23 u26 u27) (hb : Below W.heap.size W W') : NF W0 W' B nm b0 b2 b3 b4 b7 b8 u19 u21 u22 u23 u26 u27 :=
  ⟨h.below.trans (hb.mono h.size), Nat.le_trans h.size hb.size, h.i20, h.i42, h.i43, fun e => (h.f0 e).on hb, fun e => (h.f2 e).on hb, fun e => (h.f3 e).on hb, fun e => own_on (h.f4 e) hb, fun e => (h.f7 e).on hb, fun e => (h.f8 e).on hb⟩
theorem NF.start (hb : Below B W0 W) (hs : B ≤ W.heap.size) : NF W0 W B nm false false false false false false u19 u21 u22 u23 u26 u27 :=
  ⟨hb, hs, (fun h => by cases h), (fun h => by cases h), (fun h => by cases h), (fun h => by cases h), (fun h => by cases h), (fun h => by cases h), (fun h => by cases h), (fun h => by cases h), (fun h => by cases h)⟩
theorem NF.op0 (h : NF W0 W B nm false b2 b3 b4 b7 b8 u19 u21 u22 u23 u26 u27) : NF W0 (W.alloc (.cells #[] 5)) B nm true b2 b3 b4 b7 b8 (.slice (some ⟨W.heap.size, 0, none⟩) 0 0) u21 u22 u23 u26 u27 := by
  have k := h.on ((Below.refl _ W).alloc (Nat.le_refl _) (.cells #[] 5))
  exact ⟨k.below, k.size, fun _ => rfl, k.i42, k.i43, fun _ => EmptyRow.new W h.size, k.f2, k.f3, k.f4, k.f7, k.f8⟩
theorem NF.op2 (h : NF W0 W B nm true false b3 b4 b7 b8 u19 u21 u22 u23 u26 u27) : NF W0 W B nm true true b3 b4 b7 b8 u19 u19 u22 u23 u26 u27 :=
  ⟨h.below, h.size, fun _ => rfl, fun _ => rfl, h.i43, h.f0, fun _ => h.f0 rfl, h.f3, h.f4, h.f7, h.f8⟩
theorem NF.op3 (h : NF W0 W B nm b0 b2 false b4 b7 b8 u19 u21 u22 u23 u26 u27) : NF W0 (W.alloc (.cells #[.int .u8 0, .int .u8 0, .int .u8 0, .int .u8 1] 5)) B nm b0 b2 true b4 b7 b8 u19 u21 (.slice (some ⟨W.heap.size, 0, none⟩) 4 4) u23 u26 u27 := by
  have k := h.on ((Below.refl _ W).alloc (Nat.le_refl _) (.cells #[.int .u8 0, .int .u8 0, .int .u8 0, .int .u8 1] 5))
  exact ⟨k.below, k.size, k.i20, k.i42, fun _ => rfl, k.f0, k.f2, fun _ => SmallRow.new W [0, 0, 0, 1] 4 _ rfl (by simp) rfl _, k.f4, k.f7, k.f8⟩
theorem NF.op4 (h : NF W0 W B nm b0 true true false b7 b8 u19 u21 u22 u23 u26 u27) (ty : TypeId) : ∃ v' W', (Builtin.append_ #[79, 79] ty #[u21, u22]).run Try.prog W = .ok v' W' ∧ NF W0 W' B nm b0 true true true b7 b8 u19 u21 u22 v' u26 u27 := by
  obtain ⟨v', W', h1, h2, h3⟩ := run_append_empty W B u21 (h.f2 rfl) h.size 4 [0, 0, 0, 1] u22 (h.f3 rfl) (by omega) (by omega) ty
  have k := h.on h3
  exact ⟨v', W', h1, k.below, k.size, k.i20, fun _ => rfl, fun _ => rfl, k.f0, k.f2, k.f3, fun _ => h2, k.f7, k.f8⟩
theorem NF.op7 (h : NF W0 W B nm b0 b2 b3 b4 false b8 u19 u21 u22 u23 u26 u27) (hs : nm.size ≤ 140737488351232) : ∃ v' W', (convert 9 79 (.string nm)).run Try.prog W = .ok v' W' ∧ NF W0 W' B nm b0 b2 b3 b4 true b8 u19 u21 u22 u23 v' u27 := by
  obtain ⟨v', W', h1, h2, h3⟩ := run_bytes_marked W B h.size nm hs
  have k := h.on h3
  exact ⟨v', W', h1, k.below, k.size, k.i20, k.i42, k.i43, k.f0, k.f2, k.f3, k.f4, fun _ => h2, k.f8⟩
theorem NF.op8 (h : NF W0 W B nm b0 b2 b3 b4 b7 false u19 u21 u22 u23 u26 u27) : NF W0 (W.alloc (.cells #[.int .u8 0] 5)) B nm b0 b2 b3 b4 b7 true u19 u21 u22 u23 u26 (.slice (some ⟨W.heap.size, 0, none⟩) 1 1) := by
  have k := h.on ((Below.refl _ W).alloc (Nat.le_refl _) (.cells #[.int .u8 0] 5))
  exact ⟨k.below, k.size, k.i20, k.i42, k.i43, k.f0, k.f2, k.f3, k.f4, k.f7, fun _ => SmallRow.new W [0] 1 _ rfl (by simp) rfl _⟩
/-- append of nil onto the empty row: the same. -/
theorem run_append_nil0 (W : World) (u : Value) (h : EmptyRow W B u) (ty : TypeId) : (Builtin.append_ #[79, 79] ty #[u, .slice none 0 0]).run Try.prog W = .ok u W := by
  obtain ⟨i0, hi0, hz0, hz1, hz2⟩ := info_parts info_u8
  obtain ⟨g, rfl, _⟩ := h
  simp [Builtin.append_, run_underlying Try.underlying79, sizeOf, typeInfo, hi0, Builtin.lenOf, Builtin.firstCells, storeCells]
end

section
variable {P : Program} {ops : Array Oper} {Q : Exit → Act → World → Prop} {S : World → Prop}
/-- Operations that come in whatever order: what is known is kept by each that may come. -/
theorem phase (I : Act → Nat → Array Bool → Act → World → Prop) {a0 : Act} : ∀ {fuel : Nat} {L : Array Bool} {a : Act} {w : World}, I a0 fuel L a w →
    (∀ n L a w, I a0 n L a w → (∀ m, m < n → ∀ L' a' w', I a0 m L' a' w' → wpAnyH P .any ops Q S m L' a' w') → wpAnyH P .any ops Q S n L a w) → wpAnyH P .any ops Q S fuel L a w := by
  intro fuel
  induction fuel using Nat.strongRecOn with
  | _ n ih =>
    intro L a w h hstep
    exact hstep n L a w h (fun m hm L' a' w' h' => ih m hm h' hstep)
theorem phase0 (I : Act → Nat → Array Bool → Act → World → Prop) {a0 : Act} {fuel : Nat} {L : Array Bool} {w : World} (h : I a0 fuel L a0 w)
    (hs : ∀ n L a w, I a0 n L a w → (∀ m, m < n → ∀ L' a' w', I a0 m L' a' w' → wpAnyH P .any ops Q S m L' a' w') → wpAnyH P .any ops Q S n L a w) : wpAnyH P .any ops Q S fuel L a0 w := phase I h hs
theorem any_step {n : Nat} {L : Array Bool} {a : Act} {w : World} (hne : Region.ready .any ops L ≠ []) (h : ∀ i ∈ Region.ready .any ops L, wpOp P ops Q i (fun a' w' => S w' ∧ wpAnyH P .any ops Q S n (L.setIfInBounds i true) a' w') a w) : wpAnyH P .any ops Q S (n + 1) L a w :=
  ⟨fun h0 => absurd h0 hne, h⟩
/-- One operation, by its number. -/
theorem one_op {l : List Oper} {n i : Nat} {o : Oper} {L : Array Bool} {a : Act} {w : World} (ho : l[i]? = some o) (hg : Region.wanted o (yielded l.toArray a.tmps) = true)
    (h : ∀ K : Act → World → Prop, Shut (∀ a w, S w → (S w → wpAnyH P .any l.toArray Q S n (L.setIfInBounds i true) a w) → K a w) → Oper.wp P o a w K Q) : wpOp P l.toArray Q i (fun a' w' => S w' ∧ wpAnyH P .any l.toArray Q S n (L.setIfInBounds i true) a' w') a w :=
  AllReadyH.cons (by simpa using ho) (fun K hK => by rw [if_pos hg]; exact h K hK) AllReadyH.nil i (List.mem_singleton.2 rfl)
/-- What an operation that is ready waits for has come. -/
theorem came {l : List Oper} {i j : Nat} {o : Oper} {L : Array Bool} {g : Ground} (ho : l[i]? = some o) (hi : i ∈ Region.ready .any l.toArray L) (he : { on := j, ground := g } ∈ o.after) (hb : Region.binds .any { on := j, ground := g } = true) : L.getD j false = true := by
  obtain ⟨_, o', ho', h⟩ := mem_ready.1 hi
  rw [List.getElem?_toArray, ho] at ho'
  injection ho' with e
  subst e
  exact h _ he hb
theorem not_come {i : Nat} {L : Array Bool} (hi : i ∈ Region.ready .any ops L) : L.getD i true = false := (mem_ready.1 hi).1
theorem ready_ne {l : List Nat} (h : l.isEmpty = false) : l ≠ [] := by
  rintro rfl
  cases h
theorem ready_lt {i : Nat} {L : Array Bool} (hi : i ∈ Region.ready .any ops L) : i < ops.size := by
  obtain ⟨_, o, ho, _⟩ := mem_ready.1 hi
  exact (Array.getElem?_eq_some_iff.1 ho).1
end

/-- A frame in which six temporaries have come. -/
def Six (a : Act) (u19 u21 u22 u23 u26 u27 : Value) : Act := (((((a.put (some 19) u19).put (some 21) u21).put (some 22) u22).put (some 23) u23).put (some 26) u26).put (some 27) u27
section
variable (a : Act) (u19 u21 u22 u23 u26 u27 v : Value)
theorem put_put (t : Nat) (x : Value) : (a.put (some t) x).put (some t) v = a.put (some t) v := by simp [Act.put]
theorem put_swap (t t' : Nat) (x : Value) (h : t ≠ t') : (a.put (some t) x).put (some t') v = (a.put (some t') v).put (some t) x :=
  Act.put_comm a x v (fun d e e' => by injection e with e; injection e' with e'; exact h (e.trans e'.symm))
theorem six19 : (Six a u19 u21 u22 u23 u26 u27).put (some 19) v = Six a v u21 u22 u23 u26 u27 := by
  unfold Six
  rw [put_swap _ _ 27 19 _ (by decide), put_swap _ _ 26 19 _ (by decide), put_swap _ _ 23 19 _ (by decide), put_swap _ _ 22 19 _ (by decide), put_swap _ _ 21 19 _ (by decide), put_put]
theorem six21 : (Six a u19 u21 u22 u23 u26 u27).put (some 21) v = Six a u19 v u22 u23 u26 u27 := by
  unfold Six
  rw [put_swap _ _ 27 21 _ (by decide), put_swap _ _ 26 21 _ (by decide), put_swap _ _ 23 21 _ (by decide), put_swap _ _ 22 21 _ (by decide), put_put]
theorem six22 : (Six a u19 u21 u22 u23 u26 u27).put (some 22) v = Six a u19 u21 v u23 u26 u27 := by
  unfold Six
  rw [put_swap _ _ 27 22 _ (by decide), put_swap _ _ 26 22 _ (by decide), put_swap _ _ 23 22 _ (by decide), put_put]
theorem six23 : (Six a u19 u21 u22 u23 u26 u27).put (some 23) v = Six a u19 u21 u22 v u26 u27 := by
  unfold Six
  rw [put_swap _ _ 27 23 _ (by decide), put_swap _ _ 26 23 _ (by decide), put_put]
theorem six26 : (Six a u19 u21 u22 u23 u26 u27).put (some 26) v = Six a u19 u21 u22 u23 v u27 := by
  unfold Six
  rw [put_swap _ _ 27 26 _ (by decide), put_put]
theorem six27 : (Six a u19 u21 u22 u23 u26 u27).put (some 27) v = Six a u19 u21 u22 u23 u26 v := by
  unfold Six
  rw [put_put]
theorem six_at19 (h : 19 < a.tmps.size) : (Six a u19 u21 u22 u23 u26 u27).eval (.tmp 19) = u19 := by
  simp [Six, Act.put, Act.eval, h]
theorem six_at21 (h : 21 < a.tmps.size) : (Six a u19 u21 u22 u23 u26 u27).eval (.tmp 21) = u21 := by
  simp [Six, Act.put, Act.eval, h]
theorem six_at22 (h : 22 < a.tmps.size) : (Six a u19 u21 u22 u23 u26 u27).eval (.tmp 22) = u22 := by
  simp [Six, Act.put, Act.eval, h]
theorem six_at23 (h : 23 < a.tmps.size) : (Six a u19 u21 u22 u23 u26 u27).eval (.tmp 23) = u23 := by
  simp [Six, Act.put, Act.eval, h]
theorem six_at26 (h : 26 < a.tmps.size) : (Six a u19 u21 u22 u23 u26 u27).eval (.tmp 26) = u26 := by
  simp [Six, Act.put, Act.eval, h]
theorem six_at27 (h : 27 < a.tmps.size) : (Six a u19 u21 u22 u23 u26 u27).eval (.tmp 27) = u27 := by
  simp [Six, Act.put, Act.eval, h]
theorem six_far (t : Nat) (h19 : t ≠ 19) (h21 : t ≠ 21) (h22 : t ≠ 22) (h23 : t ≠ 23) (h26 : t ≠ 26) (h27 : t ≠ 27) : (Six a u19 u21 u22 u23 u26 u27).eval (.tmp t) = a.eval (.tmp t) := by
  simp [Six, Act.put, Act.eval, Array.getElem?_setIfInBounds_ne, Ne.symm h19, Ne.symm h21, Ne.symm h22, Ne.symm h23, Ne.symm h26, Ne.symm h27]
end
theorem wp_run {P : Program} {o : Oper} {a : Act} {w w' : World} {v : Value} {K : Act → World → Prop} {Q : Exit → Act → World → Prop} (h : (execOp a.eval o).run P w = .ok (.value v) w') (hK : K (a.put o.dst v) w') : Oper.wp P o a w K Q := by
  unfold Oper.wp
  rw [h]
  exact hK
theorem conv_run {P : Program} {a : Act} {w w' : World} {x v : Value} {x0 : Operand} {t t' : TypeId} {d : Option Tmp} {ty : TypeId} {pos : String} {af : Array Edge} {gd : Option (Nat × Bool)} (hx : a.eval x0 = x) (h : (convert t t' x).run P w = .ok v w') : (execOp a.eval { dst := d, op := Op.convert t t' x0, type := ty, pos := pos, after := af, guard := gd }).run P w = .ok (.value v) w' := by
  unfold execOp
  simp only [hx, Sem.run_bind, h, Result.andThen_ok, Sem.run_pure]

theorem own_base {w : World} {b b' : Nat} {e : TypeId} {sz : Nat} {v : Value} {n : Nat} {xs : List Value} (h : w.ownsRow b e sz v n xs) (hb : b' ≤ b) : w.ownsRow b' e sz v n xs := by
  refine ⟨h.1, ?_⟩
  rcases h.2 with h | ⟨g, cap, cur, h1, h2, h3⟩
  · exact .inl h
  · exact .inr ⟨g, cap, cur, h1, Nat.le_trans hb h2, h3⟩

/-- While bytes are put behind bytes: the row is the call's own, and what was there is as it was. -/
def Mid (B : Nat) (W0 W : World) (v : Value) (zs : List Int) : Prop := W.ownsRow B 5 1 v zs.length (u8s zs) ∧ Below B W0 W ∧ B ≤ W.heap.size ∧ ∀ z ∈ zs, 0 ≤ z ∧ z < 256
theorem Mid.on {B : Nat} {W0 W W' : World} {v : Value} {zs : List Int} (h : Mid B W0 W v zs) (hb : Below W.heap.size W W') : Mid B W0 W' v zs :=
  ⟨own_on h.1 hb, h.2.1.trans (hb.mono h.2.2.1), Nat.le_trans h.2.2.1 hb.size, h.2.2.2⟩
theorem Mid.drew {B : Nat} {W0 W : World} {v : Value} {zs : List Int} (h : Mid B W0 W v zs) : Mid B W0 W.drew v zs := ⟨h.1, h.2.1.drew, h.2.2⟩
/-- A block of another kind than bytes. -/
def Other (W : World) (g : Nat) (cs : Array Value) (t : TypeId) : Prop := t ≠ 5 ∧ W.heap[g]? = some (.cells cs t (0, 0))
theorem Other.on {W W' : World} {g : Nat} {cs : Array Value} {t : TypeId} (h : Other W g cs t) (hb : Below W.heap.size W W') : Other W' g cs t := ⟨h.1, (hb.block g (Array.getElem?_eq_some_iff.1 h.2).1).trans h.2⟩
theorem Other.new (W : World) (cs : Array Value) (t : TypeId) (ht : t ≠ 5) : Other (W.alloc (.cells cs t)) W.heap.size cs t := ⟨ht, heap_alloc_new W _⟩
theorem Other.cell {W : World} {g : Nat} {cs : Array Value} {t : TypeId} (h : Other W g cs t) (i : Nat) : W.cell? ⟨g, i, none⟩ = cs[i]? := cell_of_row W g i cs t (0, 0) h.2
theorem Other.ne {W : World} {g B n : Nat} {cs : Array Value} {t : TypeId} {v : Value} {xs : List Value} (h : Other W g cs t) (ho : W.ownsRow B 5 1 v n xs) : some g ≠ v.ownBlock := by
  rcases ho.2 with ⟨rfl, _⟩ | ⟨g', cap, cur, rfl, _, hh, _⟩
  · intro e; cases e
  · intro e
    have e' : g = g' := by simpa [Value.ownBlock] using e
    subst e'
    rw [h.2] at hh
    injection hh with hh
    injection hh with _ ht
    exact h.1 ht
theorem Mid.append {B : Nat} {W0 W : World} {v : Value} {zs : List Int} (h : Mid B W0 W v zs) {B' m : Nat} {A : Option Addr} {ys : List Int} (c : Nat) (hs : Shows W B' A m ys) (hbig : zs.length + ys.length ≤ 140737488351232) (ty : TypeId) :
    ∃ v' W', (Builtin.append_ #[79, 79] ty #[v, .slice A m c]).run Try.prog W = .ok v' W' ∧ Mid B W0 W' v' (zs ++ ys) ∧ (∀ g cs t, Other W g cs t → Other W' g cs t) := by
  obtain ⟨i0, hi0, hz0, hz1, hz2⟩ := info_parts info_u8
  obtain ⟨v', W', h1, h2, h3, _⟩ := run_append_shown W i0 hi0 hz0 hz1 hz2 B v _ _ h.1 B' A m c ys hs (by rw [← hs.1]; exact hbig) h.2.2.1 ty
  have hb := h.2.1.grown h3 h.2.2.1 (fun q hq => (h.1.lt q hq).1)
  have hsz : B ≤ W'.heap.size := Nat.le_trans h.2.2.1 h3.size
  refine ⟨v', W', h1, ⟨?_, hb, hsz, fun z hz => (List.mem_append.1 hz).elim (h.2.2.2 z) (hs.2.1 z)⟩, fun g cs t ho => ⟨ho.1, (h3.block g (Array.getElem?_eq_some_iff.1 ho.2).1 (ho.ne h.1)).trans ho.2⟩⟩
  rw [List.length_append, hs.1, u8s, List.map_append]
  exact h2
/-- Four bytes in a new block. -/
theorem four_new (W : World) (a b c d : Int) (h : ∀ z ∈ [a, b, c, d], 0 ≤ z ∧ z < 256) : Shows (W.alloc (.cells #[.int .u8 a, .int .u8 b, .int .u8 c, .int .u8 d] 5)) (W.heap.size + 1) (some ⟨W.heap.size, 0, none⟩) 4 [a, b, c, d] :=
  shows_lit W [a, b, c, d] 4 _ rfl h rfl _
end Go.Proofs.Ytapfcbcojnplaaa
