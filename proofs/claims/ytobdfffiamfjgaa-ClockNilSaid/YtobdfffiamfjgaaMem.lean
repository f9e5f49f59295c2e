/-
  What memory holds, as lists of numbers: byte slices that are only read, and byte slices that a call has made.
-/
import Derived.Test.YtobdfffiamfjgaaChecked
import Derived.Below
import Derived.WalkKit
import Derived.WalkLawsBesides
import Derived.WalkSpells
import Derived.Laws.BytesArg
import Derived.Laws.OwnMore
import Derived.Laws.AppendOwnNone
import Derived.Maps.AppendAt
import Derived.Deep.Draws
import Derived.Lib.Hide
import Derived.OpenShut
namespace Go.Proofs.Ytobdfffiamfjgaa
open Go.RowKit
set_option linter.unusedVariables false

/-- The slice value with address A and length n shows the bytes zs (numbers from 0 to 255), in a block below B. -/
def Shows (w : World) (B : Nat) (A : Option Addr) (n : Nat) (zs : List Int) : Prop :=
  zs.length = n ∧ (∀ z ∈ zs, 0 ≤ z ∧ z < 256) ∧ (0 < n → ∃ b o, A = some ⟨b, o, none⟩ ∧ b < B ∧ ∀ i, i < n → w.cell? ⟨b, o + i, none⟩ = some (.int .u8 (zs.getD i 0)))

theorem addr_add (b o i : Nat) : (⟨b, o, none⟩ : Addr).add i = ⟨b, o + i, none⟩ := by unfold Addr.add; split <;> simp_all

section
variable {w w' : World} {B B' n : Nat} {A : Option Addr} {zs : List Int}

theorem Shows.len (h : Shows w B A n zs) : zs.length = n := h.1
theorem Shows.byte (h : Shows w B A n zs) (i : Nat) : 0 ≤ zs.getD i 0 ∧ zs.getD i 0 < 256 := by
  rcases Nat.lt_or_ge i zs.length with hi | hi
  · have e : zs.getD i 0 = zs[i] := by simp [List.getD, List.getElem?_eq_getElem hi]
    rw [e]; exact h.2.1 _ (List.getElem_mem hi)
  · have e : zs.getD i 0 = 0 := by simp [List.getD, List.getElem?_eq_none hi]
    rw [e]; omega
theorem Shows.at_ (h : Shows w B A n zs) (hn : 0 < n) : ∃ b o, A = some ⟨b, o, none⟩ ∧ b < B ∧ ∀ i, i < n → w.cell? ⟨b, o + i, none⟩ = some (.int .u8 (zs.getD i 0)) := h.2.2 hn
theorem Shows.nil (w : World) (B : Nat) : Shows w B none 0 [] := ⟨rfl, by simp, fun h => absurd h (by omega)⟩
theorem Shows.keep (h : Shows w B A n zs) (hk : ∀ p : Addr, p.block < B → w'.cell? p = w.cell? p) : Shows w' B A n zs :=
  ⟨h.1, h.2.1, fun hn => by
    obtain ⟨b, o, e, hb, hc⟩ := h.2.2 hn
    exact ⟨b, o, e, hb, fun i hi => (hk _ hb).trans (hc i hi)⟩⟩
theorem Shows.below (h : Shows w B A n zs) (hb : Below B w w') : Shows w' B A n zs := h.keep fun _ hp => hb.cell hp
theorem Shows.more (h : Shows w B A n zs) (hB : B ≤ B') : Shows w B' A n zs :=
  ⟨h.1, h.2.1, fun hn => by
    obtain ⟨b, o, e, hb, hc⟩ := h.2.2 hn
    exact ⟨b, o, e, by omega, hc⟩⟩
theorem Shows.drewN (h : Shows w B A n zs) (k : Nat) : Shows (w.drewN k) B A n zs := h

/-- An argument as the row's reading gives it. -/
theorem Shows.of_row {a : Option Addr} {len cap : Nat} {l : List Int}
    (h : (a = none ∧ len = 0 ∧ cap = 0 ∧ l = []) ∨ ∃ x, a = some x ∧ len ≤ cap ∧ cap ≤ maxLen ∧ l.length = cap ∧ (∀ i, i < l.length → w.cell? (x.add i) = some (.int .u8 (l.getD i 0))) ∧ ∀ n ∈ l, (Lit.int .u8 n).wf = true) :
    Shows w w.heap.size a len (l.take len) ∧ len ≤ cap ∧ cap ≤ maxLen := by
  rcases h with ⟨rfl, rfl, rfl, rfl⟩ | ⟨x, rfl, hl, hm, hz, hcell, hwz⟩
  · exact ⟨Shows.nil _ _, Nat.le_refl _, by unfold maxLen; omega⟩
  · refine ⟨⟨by rw [List.length_take]; omega, fun z hz' => ?_, fun hn => ?_⟩, hl, hm⟩
    · have h1 := hwz z (List.mem_of_mem_take hz')
      have h2 := bounds_u8 h1
      omega
    · obtain ⟨b, o, spot⟩ := x
      have hc := hcell 0 (by omega)
      have hspot : spot = none := by simpa [Addr.add] using World.cell?_spot hc
      subst hspot
      refine ⟨b, o, rfl, ?_, fun i hi => ?_⟩
      · rw [addr_add] at hc
        exact World.block_lt_of_cell? w _ hc
      · have hci := hcell i (by omega)
        rw [addr_add] at hci
        rw [hci]
        congr 2
        simp [List.getD, List.getElem?_take_of_lt hi]

/-- Where a slice of bytes with capacity c begins when it is cut from l on (the model keeps the address where nothing is left). -/
def cutAt (A : Option Addr) (c l : Nat) : Option Addr := if c = l then A else A.map (·.add l)

theorem Shows.cut {l h c : Nat} (hs : Shows w B A n zs) (hlh : l ≤ h) (hh : h ≤ n) (hc : n ≤ c) : Shows w B (cutAt A c l) (h - l) ((zs.drop l).take (h - l)) := by
  refine ⟨by rw [List.length_take, List.length_drop, hs.1]; omega, fun z hz => hs.2.1 z (List.mem_of_mem_drop (List.mem_of_mem_take hz)), fun h0 => ?_⟩
  obtain ⟨b, o, rfl, hb, hcell⟩ := hs.at_ (by omega)
  refine ⟨b, o + l, ?_, hb, fun i hi => ?_⟩
  · unfold cutAt
    rw [if_neg (by omega)]
    simp [addr_add]
  · rw [Nat.add_assoc, hcell (l + i) (by omega)]
    simp [List.getD, List.getElem?_take_of_lt hi, List.getElem?_drop]
theorem Shows.upto {h : Nat} (hs : Shows w B A n zs) (hh : h ≤ n) : Shows w B A h (zs.take h) := by
  refine ⟨by rw [List.length_take, hs.1]; omega, fun z hz => hs.2.1 z (List.mem_of_mem_take hz), fun h0 => ?_⟩
  obtain ⟨b, o, rfl, hb, hcell⟩ := hs.at_ (by omega)
  refine ⟨b, o, rfl, hb, fun i hi => ?_⟩
  rw [hcell i (by omega)]
  simp [List.getD, List.getElem?_take_of_lt hi]
theorem Shows.from_ {l c : Nat} (hs : Shows w B A n zs) (hl : l ≤ n) (hc : n ≤ c) : Shows w B (cutAt A c l) (n - l) (zs.drop l) := by
  have h := hs.cut hl (Nat.le_refl n) hc
  rwa [List.take_of_length_le (by rw [List.length_drop, hs.1]; exact Nat.le_refl _)] at h
end

section
variable {P : Program} {t e : TypeId} (ht : P.underlying t = some (.slice e)) (he : ∀ w, (Go.sizeOf e).run P w = .ok 1 w)
include ht he
theorem run_upto (A : Option Addr) (n c : Nat) (H : Int) (h : Nat) (hH : H = h) (hh : h ≤ c) (W : World) : (Instr.slice t (.slice A n c) none (some (.int .i64 H)) none).run P W = .ok (.slice A h c) W := by
  subst hH
  have ht' : P.underlying t = some (.slice (P.elem t)) := by simp [Program.elem, ht]
  have he' : P.elem t = e := by simp [Program.elem, ht]
  rw [run_slice_h W t _ _ _ ht' .i64 _ (by omega) (by omega), he', he]
  rcases A with _ | ⟨b, o, s⟩ <;> simp [Result.andThen, sliced, Addr.add]
theorem run_from (A : Option Addr) (n c : Nat) (L : Int) (l : Nat) (hL : L = l) (hl : l ≤ n) (W : World) : (Instr.slice t (.slice A n c) (some (.int .i64 L)) none none).run P W = .ok (.slice (cutAt A c l) (n - l) (c - l)) W := by
  subst hL
  have ht' : P.underlying t = some (.slice (P.elem t)) := by simp [Program.elem, ht]
  have he' : P.elem t = e := by simp [Program.elem, ht]
  rw [run_slice_l W t _ _ _ ht' .i64 _ (by omega) (by omega), he', he]
  simp [Result.andThen, sliced, cutAt]
theorem run_cut (A : Option Addr) (n c : Nat) (L H : Int) (l h : Nat) (hL : L = l) (hH : H = h) (hl : l ≤ h) (hh : h ≤ c) (W : World) :
    (Instr.slice t (.slice A n c) (some (.int .i64 L)) (some (.int .i64 H)) none).run P W = .ok (.slice (cutAt A c l) (h - l) (c - l)) W := by
  subst hL hH
  have ht' : P.underlying t = some (.slice (P.elem t)) := by simp [Program.elem, ht]
  have he' : P.elem t = e := by simp [Program.elem, ht]
  rw [run_slice_lh W t _ _ _ ht' .i64 .i64 _ _ (by omega) (by omega) (by omega), he', he]
  simp [Result.andThen, sliced, cutAt]
end
end Go.Proofs.Ytobdfffiamfjgaa
