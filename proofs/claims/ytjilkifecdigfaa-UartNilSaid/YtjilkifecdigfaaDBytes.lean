/-
  Bytes that a call makes: rows of its own, appended to; the document's bytes of a number, written one by one from the last to the first.
-/
import Derived.Test.YtjilkifecdigfaaMem
import Derived.Deep.OwnRows
import Derived.Deep.Strs
import Derived.Great.BuildSlice
import Derived.Lib.SlFresh
import Derived.Lib.AppendZerosOnto
import Derived.Laws.Bits64
import Derived.Laws.BitsAllLaws
namespace Go.Proofs.Ytjilkifecdigfaa
open Go.RowKit
set_option linter.unusedVariables false
set_option linter.unusedSimpArgs false

theorem info_u8 : (Try.prog.info? 5).map (fun i => (i.zero, i.size, i.bytes)) = some (some (.int .u8 0), 1, 1) := by kernel_rfl
theorem size_u8 (w : World) : (Go.sizeOf 5).run Try.prog w = .ok 1 w := by kernel_rfl
/-- The numbers as cells. -/
abbrev u8s (zs : List Int) : List Value := zs.map (Value.int .u8)

theorem run_append_shown (w : World) (i0 : TypeInfo) (hi0 : Try.prog.info? 5 = some i0) (hz0 : i0.zero = some (.int .u8 0)) (hz1 : i0.size = 1) (hz2 : i0.bytes = 1)
    (base : Nat) (v : Value) (n : Nat) (xs : List Value) (hown : w.ownsRow base 5 1 v n xs) (B : Nat) (A : Option Addr) (m c : Nat) (zs : List Int) (hs : Shows w B A m zs)
    (hnm : n + m ≤ 140737488351232) (hbase : base ≤ w.heap.size) (ty : TypeId) :
    ∃ v' w', (Builtin.append_ #[33, 33] ty #[v, .slice A m c]).run Try.prog w = .ok v' w' ∧ w'.ownsRow base 5 1 v' (n + m) (xs ++ u8s zs) ∧ w.grownBy w' v.ownBlock ∧ (v ≠ .slice none 0 0 → v' ≠ .slice none 0 0) := by
  rcases Nat.eq_zero_or_pos m with rfl | hm
  · obtain rfl : zs = [] := List.eq_nil_of_length_eq_zero hs.1
    rcases A with _ | ad
    · refine ⟨v, w, ?_, by simpa using hown, World.grownBy.refl w _, fun h => h⟩
      rcases hown.2 with ⟨rfl, rfl⟩ | ⟨g, cap, cur, rfl, _, _, hnc, _⟩
      · simp [Builtin.append_, run_underlying Try.underlying33, sizeOf, typeInfo, hi0, Builtin.lenOf, Builtin.firstCells]
      · simp [Builtin.append_, run_underlying Try.underlying33, sizeOf, typeInfo, hi0, Builtin.lenOf, Builtin.firstCells, hnc, storeCells]
    · obtain ⟨v', w', h1, h2, h3, h4⟩ := run_append_own_at (P := Try.prog) w base 33 ty 5 i0 (.int .u8 0) 1 1 Try.underlying33 hi0 hz0 hz1 hz2 rfl (by omega) v n xs hown ad 0 c [] rfl (by simp) (by simp) (by unfold maxLen; omega) (by omega) hbase
      exact ⟨v', w', h1, h2, h3, fun h e => h ((h4.1.1 e).1)⟩
  · obtain ⟨b, o, rfl, _, hc⟩ := hs.at_ hm
    obtain ⟨v', w', h1, h2, h3, h4⟩ := run_append_own_at (P := Try.prog) w base 33 ty 5 i0 (.int .u8 0) 1 1 Try.underlying33 hi0 hz0 hz1 hz2 rfl (by omega) v n xs hown ⟨b, o, none⟩ m c (u8s zs) (by simp [hs.1])
      (fun j u hu => by
        rw [List.getElem?_map] at hu
        have hj : j < zs.length := by
          rcases Nat.lt_or_ge j zs.length with h | h
          · exact h
          · rw [List.getElem?_eq_none h] at hu; cases hu
        rw [List.getElem?_eq_getElem hj] at hu
        rw [addr_add, hc j (by rw [← hs.1]; exact hj), ← Option.some.inj hu]
        simp [List.getD, List.getElem?_eq_getElem hj])
      (fun u hu => by obtain ⟨z, _, rfl⟩ := List.mem_map.1 hu; rfl) (by unfold maxLen; omega) (by omega) hbase
    exact ⟨v', w', h1, h2, h3, fun h e => h ((h4.1.1 e).1)⟩
/-- What a call has made shows its bytes. -/
theorem owned_shows {w : World} {base n : Nat} {v : Value} {zs : List Int} (h : w.ownsRow base 5 1 v n (u8s zs)) (hz : ∀ z ∈ zs, 0 ≤ z ∧ z < 256) :
    ∃ A c, v = .slice A n c ∧ Shows w w.heap.size A n zs ∧ n ≤ c ∧ c ≤ 9223372036854775807 := by
  obtain ⟨hl, ⟨rfl, rfl⟩ | ⟨g, cap, cur, rfl, hb, hg, hnc, hcm, hsz, htk⟩⟩ := h
  · obtain rfl : zs = [] := by simpa using hl
    exact ⟨none, 0, rfl, Shows.nil _ _, Nat.le_refl _, by omega⟩
  · have hlz : zs.length = n := by simpa using hl
    refine ⟨_, cap, rfl, ⟨hlz, hz, fun hn => ⟨g, 0, rfl, ?_, fun i hi => ?_⟩⟩, hnc, hcm⟩
    · exact (Array.getElem?_eq_some_iff.1 hg).1
    · have h1 : (u8s zs)[i]? = cur[i]? := by
        rw [← htk, List.getElem?_take_of_lt (by omega), Array.getElem?_toList]
      rw [Nat.zero_add]
      have h2 : w.cell? ⟨g, i, none⟩ = cur[i]? := by simp [World.cell?, hg]
      rw [h2, ← h1, List.getElem?_map, List.getElem?_eq_getElem (by omega)]
      simp [List.getD, List.getElem?_eq_getElem (show i < zs.length by omega)]

/-- The four bytes of a number, the greatest first. -/
def four (v : Int) : List Int := [v / 16777216, v / 65536 % 256, v / 256 % 256, v % 256]

/-- Block g holds just these bytes. -/
def BRow (w : World) (g : Nat) (zs : List Int) : Prop := w.heap[g]? = some (.cells (u8s zs).toArray 5 (0, 0))
section
variable {w w' : World} {g : Nat} {zs : List Int}
theorem BRow.lt (h : BRow w g zs) : g < w.heap.size := (Array.getElem?_eq_some_iff.1 h).1
theorem BRow.cell (h : BRow w g zs) (i : Nat) (hi : i < zs.length) : w.cell? ⟨g, i, none⟩ = some (.int .u8 (zs.getD i 0)) := by
  rw [cell_of_row w g i _ _ (0, 0) h]
  simp [List.getD, List.getElem?_eq_getElem hi]
theorem BRow.free (h : BRow w g zs) (i : Nat) : w.frozen? ⟨g, i, none⟩ = false := by
  unfold BRow at h
  simp [World.frozen?, h]
theorem BRow.set (h : BRow w g zs) (i : Nat) (v : Int) : BRow (w.setCell ⟨g, i, none⟩ (.int .u8 v)) g (zs.set i v) := by
  unfold BRow at h ⊢
  simp [World.setCell, Array.getElem?_modify, h, List.map_set]
theorem BRow.shows {n : Nat} (h : BRow w g zs) (hn : zs.length = n) (hz : ∀ z ∈ zs, 0 ≤ z ∧ z < 256) : Shows w w.heap.size (some ⟨g, 0, none⟩) n zs :=
  ⟨hn, hz, fun h0 => ⟨g, 0, rfl, h.lt, fun i hi => by rw [Nat.zero_add]; exact h.cell i (by omega)⟩⟩
end

/-- The k bytes of v, the greatest first. -/
def digits (v : Int) (k : Nat) : List Int := (List.range k).map fun i => v / 256 ^ (k - 1 - i) % 256

theorem make_bytes (k : Nat) (hk : k ≤ 100) (w : World) :
    (Instr.makeSlice 33 (.int .i64 (k : Int)) (.int .i64 (k : Int))).run Try.prog w = .ok (.slice (some ⟨w.heap.size, 0, none⟩) k k) (w.alloc (.cells (madeCells #[.int .u8 0] k) 5)) := by
  exact run_make_row' (P := Try.prog) 33 5 (.int .u8 0) 1 Try.underlying33 info_u8 rfl .i64 .i64 k (by omega) (by omega) w

theorem made_brow (w : World) (k : Nat) : BRow (w.alloc (.cells (madeCells #[.int .u8 0] k) 5)) w.heap.size (List.replicate k 0) := by
  unfold BRow
  rw [heap_alloc_new]
  congr 2
  apply Array.toList_inj.1
  rw [toList_madeCells_one]
  simp

/-- One byte more from the end is written. -/
theorem digits_step (v : Int) (k m : Nat) (cs : List Int) (hm : m < k) (hl : cs.length = k) (h : ∀ p, m + 1 ≤ p → p < k → cs.getD p 0 = v / 256 ^ (k - 1 - p) % 256) :
    ∀ p, m ≤ p → p < k → (cs.set m (v / 256 ^ (k - (m + 1)) % 256)).getD p 0 = v / 256 ^ (k - 1 - p) % 256 := by
  intro p h1 h2
  by_cases e : p = m
  · subst e
    rw [show k - (p + 1) = k - 1 - p from by omega]
    simp [List.getD, hl, h2]
  · have := h p (by omega) h2
    rw [← this]
    simp [List.getD, List.getElem?_set_ne (Ne.symm e)]

theorem digits_all (v : Int) (k : Nat) (cs : List Int) (hl : cs.length = k) (h : ∀ p, 0 ≤ p → p < k → cs.getD p 0 = v / 256 ^ (k - 1 - p) % 256) : cs = digits v k := by
  apply List.ext_getElem
  · simp [digits, hl]
  · intro i h1 h2
    have := h i (by omega) (by omega)
    simp only [List.getD, List.getElem?_eq_getElem h1, Option.getD_some] at this
    rw [this]
    simp [digits]

theorem quo_step (v : Int) (k m : Nat) (hm : m < k) : v / 256 ^ (k - (m + 1)) / 256 = v / 256 ^ (k - m) := by
  rw [show k - m = (k - (m + 1)) + 1 from by omega, Int.pow_succ, Int.ediv_ediv_of_nonneg (Int.pow_nonneg (by omega))]

theorem digits_four (v : Int) (h0 : 0 ≤ v) (h1 : v ≤ 4294967295) : digits v 4 = four v := by
  have e : List.range 4 = [0, 1, 2, 3] := rfl
  simp only [digits, four, e, List.map_cons, List.map_nil, List.cons.injEq, and_true]
  refine ⟨?_, ?_, ?_, ?_⟩ <;> simp only [show (4 - 1 - 0 : Nat) = 3 from rfl, show (4 - 1 - 1 : Nat) = 2 from rfl, show (4 - 1 - 2 : Nat) = 1 from rfl, show (4 - 1 - 3 : Nat) = 0 from rfl, show (256 : Int) ^ 3 = 16777216 from by decide, show (256 : Int) ^ 2 = 65536 from by decide, show (256 : Int) ^ 1 = 256 from by decide, show (256 : Int) ^ 0 = 1 from by decide]
  all_goals omega
theorem digits_eight (v : Int) (h0 : 0 ≤ v) (h1 : v ≤ 18446744073709551615) : digits v 8 = four (v / 4294967296) ++ four (v % 4294967296) := by
  have e : List.range 8 = [0, 1, 2, 3, 4, 5, 6, 7] := rfl
  simp only [digits, four, e, List.map_cons, List.map_nil, List.cons_append, List.nil_append, List.cons.injEq, and_true]
  refine ⟨?_, ?_, ?_, ?_, ?_, ?_, ?_, ?_⟩ <;> simp only [show (8 - 1 - 0 : Nat) = 7 from rfl, show (8 - 1 - 1 : Nat) = 6 from rfl, show (8 - 1 - 2 : Nat) = 5 from rfl, show (8 - 1 - 3 : Nat) = 4 from rfl, show (8 - 1 - 4 : Nat) = 3 from rfl, show (8 - 1 - 5 : Nat) = 2 from rfl, show (8 - 1 - 6 : Nat) = 1 from rfl, show (8 - 1 - 7 : Nat) = 0 from rfl, show (256 : Int) ^ 7 = 72057594037927936 from by decide, show (256 : Int) ^ 6 = 281474976710656 from by decide, show (256 : Int) ^ 5 = 1099511627776 from by decide, show (256 : Int) ^ 4 = 4294967296 from by decide, show (256 : Int) ^ 3 = 16777216 from by decide, show (256 : Int) ^ 2 = 65536 from by decide, show (256 : Int) ^ 1 = 256 from by decide, show (256 : Int) ^ 0 = 1 from by decide]
  all_goals omega

/-- A row of the call's own is left by a call that lays only new blocks. -/
theorem own_on {w w' : World} {base n sz : Nat} {e : TypeId} {v : Value} {xs : List Value} (h : w.ownsRow base e sz v n xs) (hb : Below w.heap.size w w') : w'.ownsRow base e sz v n xs :=
  h.kept (row := none) ⟨hb.os, hb.tape, hb.output, hb.size, fun i hi _ => hb.block i hi⟩ (by cases v.ownBlock <;> simp)
end Go.Proofs.Ytjilkifecdigfaa
