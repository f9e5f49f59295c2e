/-
  The document's blob, its small parts: a cell's bytes, bytes with noughts up to a multiple of 4.
-/
import Derived.Test.YtnopcnbeklbfoaaDZero
namespace Go.Proofs.Ytnopcnbeklbfoaa
open Go.RowKit
set_option linter.unusedVariables false
set_option linter.unusedSimpArgs false

theorem four_byte (v : Int) (h0 : 0 ≤ v) (h1 : v ≤ 4294967295) : ∀ z ∈ four v, 0 ≤ z ∧ z < 256 := by
  intro z hz
  simp only [four, List.mem_cons, List.not_mem_nil, or_false] at hz
  omega
theorem and_mask (v : Nat) (hv : v ≤ 4294967295) : bits .and .u64 (v : Int) 4294967295 = v := by
  have h := u64_and_nat v 4294967295 (by omega) (by omega)
  have e : v &&& 4294967295 = v := by
    have := Nat.and_two_pow_sub_one_eq_mod v 32
    rw [show (2 ^ 32 - 1 : Nat) = 4294967295 from by decide, show (2 ^ 32 : Nat) = 4294967296 from by decide] at this
    rw [this]; omega
  rw [e] at h
  exact h

set_option maxHeartbeats 400000 in
theorem doccell_any (v : Nat) (w : World) (hv : v ≤ 4294967295) :
    Calls Try.prog 28 #[.int .i64 v] w fun e w' => ∃ g, e = .returned (.slice (some ⟨g, 0, none⟩) 4 4) ∧ Shows w' w'.heap.size (some ⟨g, 0, none⟩) 4 (four v) ∧ Below w.heap.size w w' := by
  have e := and_mask v hv
  go_enter Try.func28, Try.ntmps28
  go_wp2_with fail
  refine (bytes_four (v : Int) _ (by omega) (by omega)).mono ?_
  rintro e w' ⟨g, rfl, hs, hb⟩
  have HS := Lib.hid (And.intro hs hb)
  clear hs hb
  go_wp2
  go_ret
  exact ⟨g, rfl, HS.out.1, HS.out.2⟩

/-- How many noughts are missing up to a multiple of 4. -/
def padN (n : Nat) : Nat := (4 - n % 4) % 4
/-- Bytes, and noughts up to a multiple of 4. -/
def padL (zs : List Int) : List Int := zs ++ List.replicate (padN zs.length) 0
theorem padL_length (zs : List Int) : (padL zs).length = zs.length + padN zs.length := by simp [padL]
theorem padN_lt (n : Nat) : padN n < 4 := by unfold padN; omega
theorem padL_byte {zs : List Int} (h : ∀ z ∈ zs, 0 ≤ z ∧ z < 256) : ∀ z ∈ padL zs, 0 ≤ z ∧ z < 256 := by
  intro z hz
  rcases List.mem_append.1 hz with h' | h'
  · exact h z h'
  · rw [List.mem_replicate] at h'; omega
theorem bytes_more {zs : List Int} (h : ∀ z ∈ zs, 0 ≤ z ∧ z < 256) (j : Nat) : ∀ z ∈ zs ++ List.replicate j 0, 0 ≤ z ∧ z < 256 := by
  intro z hz
  rcases List.mem_append.1 hz with h' | h'
  · exact h z h'
  · rw [List.mem_replicate] at h'; omega

/-- A new block of bytes is shown. -/
theorem shows_lit (w : World) (zs : List Int) (n : Nat) (cs : Array Value) (hn : zs.length = n) (hz : ∀ z ∈ zs, 0 ≤ z ∧ z < 256) (hcs : cs = (u8s zs).toArray) (t : TypeId) :
    Shows (w.alloc (.cells cs t)) (w.heap.size + 1) (some ⟨w.heap.size, 0, none⟩) n zs := by
  subst hcs
  refine ⟨hn, hz, fun h0 => ⟨w.heap.size, 0, rfl, by omega, fun i hi => ?_⟩⟩
  rw [Nat.zero_add, cell_of_row (w.alloc (.cells (u8s zs).toArray t)) w.heap.size i _ t (0, 0) (heap_alloc_new w _)]
  have hi' : i < zs.length := by omega
  simp [List.getD, List.getElem?_eq_getElem hi']

def lenOfV : Value → Nat
  | .slice _ k _ => k
  | _ => 0
/-- How many noughts are missing. -/
def missing (v : Value) : Nat := padN (lenOfV v)

set_option maxHeartbeats 1000000 in
theorem padded_any (A : Option Addr) (n c : Nat) (zs : List Int) (w : World) (hs : Shows w w.heap.size A n zs) (hn : n ≤ 70368744177664) :
    Calls Try.prog 43 #[.slice A n c] w fun e w' => ∃ A' m c', e = .returned (.slice A' m c') ∧ Shows w' w'.heap.size A' m (padL zs) ∧ Below w.heap.size w w' := by
  obtain ⟨i0, hi0, hz0, hz1, hz2⟩ := info_parts info_u8
  have HI : Hid (Try.prog.info? 5 = some i0 ∧ i0.zero = some (.int .u8 0) ∧ i0.size = 1 ∧ i0.bytes = 1) := ⟨hi0, hz0, hz1, hz2⟩
  have HB0 := (Below.refl w.heap.size w).alloc (Nat.le_refl _) (.cells #[] 5)
  obtain ⟨v1, w1, hrun, hown1, hgr1, _⟩ := run_append_shown (w.alloc (.cells #[] 5)) i0 hi0 hz0 hz1 hz2 w.heap.size (.slice (some ⟨w.heap.size, 0, none⟩) 0 0) 0 [] (World.ownsRow_made w #[] 0 (Nat.le_refl _) (Nat.zero_le _) rfl) w.heap.size A n c zs (hs.below HB0) (by omega) (by simp) 26
  have hb1 := HB0.grown hgr1 (by simp) (fun q hq => by simp [Value.ownBlock] at hq; omega)
  have HZ := Lib.hid (And.intro hs.1 hs.2.1)
  have HO := Lib.hid hown1
  have HB := Lib.hid hb1
  clear hi0 hz0 hz1 hz2 hs hown1 hb1 hgr1 HB0
  go_enter Try.func43, Try.ntmps43
  go_wp2_with (at_builtin; refine Lib.wpList_append_run_sl _ rfl _ _ _ rfl _ _ rfl rfl hrun ?_)
  go_loopw [3] (fun v wr => ∃ j, j ≤ padN n ∧ wr.ownsRow w.heap.size 5 1 v (n + j) (u8s (zs ++ List.replicate j 0)) ∧ Below w.heap.size w wr) (fun v _ => missing v)
  case atStart => exact ⟨0, Nat.zero_le _, by simpa using HO.out, HB.out⟩
  case round =>
    obtain ⟨j, hj, hown, hbel⟩ := hrel
    obtain ⟨N, hN⟩ : ∃ N, n + j = N := ⟨_, rfl⟩
    have hb : N ≤ 70368744177674 := by have := padN_lt n; omega
    have HJ := Lib.hid (And.intro hj hN)
    rw [hN] at hown
    obtain ⟨A1, c1, rfl, hsh, _, _⟩ := owned_shows hown (bytes_more HZ.out.2 j)
    have HO1 := Lib.hid hown
    have HB1 := Lib.hid hbel
    have HS1 := Lib.hid hsh
    clear hown hbel hsh hj hrun hN
    by_cases h4 : N % 4 = 0
    · have h4' : ((N : Int) % 4 != 0) = false := by rw [bne_eq_false_iff_eq]; omega
      have HE : Hid (zs ++ List.replicate j 0 = padL zs) := by
        have hje : j = padN n := by have := HJ.out; unfold padN at this ⊢; omega
        show _ = _
        rw [hje, padL, HZ.out.1]
      clear h4
      go_wp2
      go_ret
      exact ⟨_, _, _, rfl, by rw [← HE.out]; exact HS1.out, HB1.out⟩
    · have h4' : ((N : Int) % 4 != 0) = true := by rw [bne_iff_ne]; omega
      have hje : j + 1 ≤ padN n ∧ n + (j + 1) = N + 1 := by have := HJ.out; unfold padN at this ⊢; omega
      have HJE := Lib.hid hje
      obtain ⟨i1, i2, i3, i4⟩ := HI.out
      have hbx := HB1.out.alloc HB1.out.size (.cells #[.int .u8 0] 5)
      obtain ⟨v2, w2, hrun, hown2, hgr2, _⟩ := run_append_shown (wr.alloc (.cells #[.int .u8 0] 5)) i0 i1 i2 i3 i4 w.heap.size (.slice A1 N c1) N _ (HO1.out.alloc _) _ _ 1 1 [0] (shows_lit wr [0] 1 _ rfl (by simp) rfl 5) (by omega) hbx.size 26
      have HO2 := Lib.hid hown2
      have HB2 := Lib.hid (hbx.grown hgr2 hbx.size (fun q hq => (HO1.out.lt q hq).1))
      obtain ⟨A2, c2, rfl⟩ : ∃ A2 c2, v2 = .slice A2 (N + 1) c2 := by
        rcases hown2.2 with ⟨_, h⟩ | ⟨g, cap, cur, h, _⟩
        · omega
        · exact ⟨_, _, h⟩
      have HM := Lib.hid (show missing (.slice A2 (N + 1) c2) < missing (.slice A1 N c1) from by simp only [missing, lenOfV, padN]; omega)
      clear i1 i2 i3 i4 hbx hown2 hgr2 hje h4
      go_wp2_with (at_builtin; refine Lib.wpList_append_run_sl _ rfl _ _ _ rfl _ _ rfl rfl hrun ?_)
      go_roundw
      case rel => exact ⟨j + 1, HJE.out.1, by rw [HJE.out.2, List.replicate_succ', ← List.append_assoc, u8s, List.map_append]; exact HO2.out, HB2.out⟩
      case measure => exact HM.out
end Go.Proofs.Ytnopcnbeklbfoaa
