/-
  Layer 7: rows that a call has made, of values of one cell; the program's Cells.
-/
import Derived.Test.YtgogkcmdcfcikaaLPropReads
import Derived.Test.YtgogkcmdcfcikaaDHead
namespace Go.Proofs.Ytgogkcmdcfcikaa
open Go.RowKit
set_option linter.unusedVariables false
set_option linter.unusedSimpArgs false

/-- Block g holds just these values, one cell each. -/
def VRow (w : World) (g : Nat) (t : TypeId) (vs : List Value) : Prop := w.heap[g]? = some (.cells vs.toArray t (0, 0))
section
variable {w w' : World} {g : Nat} {t : TypeId} {vs : List Value}
theorem VRow.lt (h : VRow w g t vs) : g < w.heap.size := (Array.getElem?_eq_some_iff.1 h).1
theorem VRow.cell (h : VRow w g t vs) (i : Nat) (hi : i < vs.length) : w.cell? ⟨g, i, none⟩ = some vs[i] := by
  rw [cell_of_row w g i _ _ (0, 0) h]
  simp [List.getElem?_eq_getElem hi]
theorem VRow.at_ (h : VRow w g t vs) {i : Nat} {z : Value} (hi : vs[i]? = some z) : w.cell? ⟨g, i, none⟩ = some z := by
  obtain ⟨h1, h2⟩ := List.getElem?_eq_some_iff.1 hi
  rw [h.cell i h1, h2]
theorem VRow.free (h : VRow w g t vs) (i : Nat) : w.frozen? ⟨g, i, none⟩ = false := by
  unfold VRow at h
  simp [World.frozen?, h]
theorem VRow.set (h : VRow w g t vs) (i : Nat) (v : Value) : VRow (w.setCell ⟨g, i, none⟩ v) g t (vs.set i v) := by
  unfold VRow at h ⊢
  simp [World.setCell, Array.getElem?_modify, h]
theorem VRow.on (h : VRow w g t vs) (hb : Below w.heap.size w w') : VRow w' g t vs := (hb.block g h.lt).trans h
theorem VRow.cel {n : Nat} (h : VRow w g t vs) (hn : vs.length = n) : Cel w w.heap.size (some ⟨g, 0, none⟩) n vs :=
  ⟨hn, fun _ => ⟨g, 0, rfl, h.lt, fun i hi => by rw [Nat.zero_add, h.cell i (by omega), List.getElem?_eq_getElem (by omega)]⟩⟩
end
theorem made_vrow (w : World) (z : Value) (k : Nat) (t : TypeId) : VRow (w.alloc (.cells (madeCells #[z] k) t)) w.heap.size t (List.replicate k z) := by
  unfold VRow
  rw [heap_alloc_new]
  congr 2
  apply Array.toList_inj.1
  rw [toList_madeCells_one]
/-- k of m values are laid. -/
def partV (l : List Value) (z : Value) (m k : Nat) : List Value := l.take k ++ List.replicate (m - k) z
theorem partV_length (l : List Value) (z : Value) (m k : Nat) (hk : k ≤ m) (hm : l.length = m) : (partV l z m k).length = m := by
  simp only [partV, List.length_append, List.length_take, List.length_replicate]; omega
theorem partV_set (l : List Value) (z : Value) (m k : Nat) (hk : k < m) (hm : l.length = m) (x : Value) (hx : l[k]? = some x) : (partV l z m k).set k x = partV l z m (k + 1) := by
  unfold partV
  have e : l.take (k + 1) = l.take k ++ [x] := by rw [List.take_add_one, hx]; rfl
  have hl : (l.take k).length = k := by rw [List.length_take]; omega
  rw [List.set_append, if_neg (by omega), hl, Nat.sub_self, e, List.append_assoc]
  congr 1
  obtain ⟨j, hj⟩ : ∃ j, m - k = j + 1 := ⟨m - k - 1, by omega⟩
  rw [hj, show m - (k + 1) = j by omega, List.replicate_succ]
  rfl
theorem partV_none (l : List Value) (z : Value) (m : Nat) : partV l z m 0 = List.replicate m z := by simp [partV]
theorem partV_all (l : List Value) (z : Value) (m : Nat) (hm : l.length = m) : partV l z m m = l := by simp [partV, ← hm]
theorem partV_at (l : List Value) (z : Value) (m k : Nat) (hk : k < m) (hm : l.length = m) : (partV l z m k)[k]? = some z := by
  unfold partV
  have hl : (l.take k).length = k := by rw [List.length_take]; omega
  rw [List.getElem?_append_right (by omega), hl, Nat.sub_self, List.getElem?_replicate]
  simp; omega

theorem rowOut_vrow {w : World} {g m c : Nat} {t : TypeId} {R : List Value} {e : Ending} (h : VRow w g t R) (hm : R.length = m) (hc : m ≤ c) (hc2 : c ≤ 9223372036854775807) (he : e = .returned (.tuple #[.slice (some ⟨g, 0, none⟩) m c, .int .i64 0])) : RowOut w R 0 e := by
  subst hm
  exact ⟨_, c, he, h.cel rfl, hc, hc2⟩

theorem make_u32 (k : Nat) (hk : k ≤ 70368744177664) (w : World) :
    (Instr.makeSlice 61 (.int .i64 (k : Int)) (.int .i64 (k : Int))).run Try.prog w = .ok (.slice (some ⟨w.heap.size, 0, none⟩) k k) (w.alloc (.cells (madeCells #[.int .u32 0] k) 51)) :=
  run_make_row' (P := Try.prog) 61 51 (.int .u32 0) 4 Try.underlying61 info_u32 rfl .i64 .i64 k (by omega) (by omega) w

theorem u32s_cells {zs : List Int} {m : Nat} (h4 : zs.length % 4 = 0) (hm : zs.length / 4 = m) : (u32s (cellsL zs)).length = m ∧ ∀ k, k < m → (u32s (cellsL zs))[k]? = some (.int .u32 (numTo zs (4 * k) 4)) := by
  rw [cellsL, if_pos h4, hm]
  refine ⟨by simp, fun k hk => ?_⟩
  simp [List.getElem?_range hk]

set_option maxRecDepth 20000 in
set_option maxHeartbeats 4000000 in
theorem cells_any (A : Option Addr) (n c : Nat) (zs : List Int) (w : World) (hs : Shows w w.heap.size A n zs) (hn : n ≤ 140737488351232) (hnc : n ≤ c) (hc : c ≤ 9223372036854775807) :
    Calls Try.prog 21 #[.slice A n c] w fun e w' => RowOut w' (u32s (cellsL zs)) (cellsE zs) e ∧ Below w.heap.size w w' := by
  have HS := Lib.hid hs
  have HC := Lib.hid (And.intro hnc hc)
  have HL := Lib.hid hs.1
  clear hs hnc hc
  by_cases h4 : n % 4 = 0
  · have q1 : (((n : Int) % 4) != 0) = false := by rw [bne_eq_false_iff_eq]; omega
    obtain ⟨m, hm⟩ : ∃ m, n / 4 = m := ⟨_, rfl⟩
    have q2 : (n : Int) / 4 = (m : Int) := by omega
    have hm4 : n = 4 * m := by omega
    have HU := Lib.hid (u32s_cells (zs := zs) (m := m) (by rw [HL.out]; exact h4) (by rw [HL.out]; exact hm))
    have HE : Hid (cellsE zs = 0) := Lib.hid (by rw [cellsE, if_pos (by rw [HL.out]; exact h4)])
    have HM := make_u32 m (by omega)
    have HN := Lib.hid (And.intro hm4 hn)
    have hm9 : m ≤ 35184372087808 := by omega
    clear h4 hm hm4 hn
    generalize hU : u32s (cellsL zs) = U at HU
    have HUU := Lib.hid hU
    clear hU
    go_enter Try.func21, Try.ntmps21
    go_wp2_with fail
    go_loopw [16] (fun i wr => ∃ k : Nat, k ≤ m ∧ i = .int .i64 k ∧ VRow wr w.heap.size 51 (partV U (.int .u32 0) m k) ∧ Below w.heap.size w wr) (fun i _ => m - (intOf i).toNat)
    case atStart => exact ⟨0, Nat.zero_le _, rfl, by rw [partV_none]; exact made_vrow _ _ _ _, (Below.refl _ _).alloc (Nat.le_refl _) _⟩
    case round =>
      obtain ⟨k, hk, rfl, hrow, hb⟩ := hrel
      have HB := Lib.hid hb
      have HR := Lib.hid hrow
      by_cases hlt : k < m
      · have hnum := numTo_u32 HS.out (4 * k)
        have CG := fun q hq => get_at A n c (4 * k) q hq zs wr w.heap.size (HS.out.below hb) (by have := HN.out.1; omega) (by have := HN.out.2; omega) HC.out.1 (by unfold maxLen; exact HC.out.2) _ rfl
        obtain ⟨x, hx⟩ : ∃ x, numTo zs (4 * k) 4 = x := ⟨_, rfl⟩
        have hat := HU.out.2 k hlt
        rw [hx] at CG hnum hat
        have HSET : Hid ((partV U (.int .u32 0) m k).set k (.int .u32 x) = partV U (.int .u32 0) m (k + 1)) := Lib.hid (partV_set U _ m k hlt HU.out.1 _ hat)
        have hcell := hrow.at_ (partV_at U (.int .u32 0) m k hlt HU.out.1)
        have hfree := hrow.free k
        have HR2 := Lib.hid (hrow.set k (.int .u32 x))
        have HB2 := Lib.hid (hb.setCell (p := ⟨w.heap.size, k, none⟩) (Nat.le_refl _) (.int .u32 x))
        have HCG := Lib.hid CG
        have hb4 := HN.out
        have hbd : 4 * (k : Int) ≤ 140737488351232 := by omega
        clear hx hat hrow hb CG hb4
        go_wp2_with fail
        refine (HCG.out _ (by omega)).mono ?_
        rintro e w1 ⟨rfl, rfl⟩
        go_wp2
        go_roundw
        case rel => exact ⟨k + 1, by omega, by go_num, by rw [← HSET.out]; exact HR2.out, HB2.out⟩
        case measure => simp [intOf]; omega
      · obtain rfl : k = m := by omega
        have HV : Hid (VRow wr w.heap.size 51 U) := Lib.hid (by have := HR.out; rw [partV_all _ _ _ HU.out.1] at this; exact this)
        clear hrow hb
        go_wp2
        go_ret2
        refine ⟨?_, HB.out⟩
        rw [HE.out]
        exact rowOut_vrow HV.out HU.out.1 (Nat.le_refl _) (by omega) rfl
  · have q1 : (((n : Int) % 4) != 0) = true := by rw [bne_iff_ne]; omega
    have H4 := Lib.hid (show ¬ zs.length % 4 = 0 by rw [HL.out]; exact h4)
    clear h4
    go_enter Try.func21, Try.ntmps21
    go_wp2
    go_ret2
    refine ⟨?_, Below.refl _ _⟩
    rw [cellsE, if_neg H4.out, cellsL, if_neg H4.out]
    exact rowOut_nil rfl
theorem cellsOK : CellsOK := fun A n c zs w hs hn hnc hc => cells_any A n c zs w hs (by omega) hnc hc
end Go.Proofs.Ytgogkcmdcfcikaa
