/-
  Places: whether two are the same, and two lists of them: the document's answer.
-/
import Derived.Test.YtckdddbiffoolaaDoorQRow
import Derived.Test.YtckdddbiffoolaaDoorReg
import Derived.Deep.DrawnRows
namespace Go.Proofs.YtckdddbiffoolaaDoor
open Go.RowKit
set_option linter.unusedVariables false
set_option linter.unusedSimpArgs false

/-- The first k are the same. -/
def Ev {α : Type} (xs ys : List α) (k : Nat) : Prop := ∀ j, j < k → xs[j]? = ys[j]?
theorem Ev.zero {α : Type} (xs ys : List α) : Ev xs ys 0 := fun j h => absurd h (Nat.not_lt_zero _)
theorem Ev.succ {α : Type} {xs ys : List α} {k : Nat} (h : Ev xs ys k) (he : xs[k]? = ys[k]?) : Ev xs ys (k + 1) := fun j hj => by
  rcases Nat.lt_succ_iff_lt_or_eq.1 hj with h' | rfl
  · exact h j h'
  · exact he
theorem Ev.all {α : Type} {xs ys : List α} {k : Nat} (h : Ev xs ys k) (hl : xs.length = ys.length) (hk : xs.length ≤ k) : xs = ys := by
  apply List.ext_getElem?
  intro i
  rcases Nat.lt_or_ge i k with hi | hi
  · exact h i hi
  · rw [List.getElem?_eq_none (by omega), List.getElem?_eq_none (by omega)]

set_option maxHeartbeats 2000000 in
theorem equalI_any (A A' : Option Addr) (n n' c c' B B' : Nat) (xs ys : List Nat) (w : World) (hx : Cel w B A n (ints xs)) (hy : Cel w B' A' n' (ints ys)) (hB : B ≤ w.heap.size) (hB' : B' ≤ w.heap.size) (hnc : n ≤ c) (hc : c ≤ 9223372036854775807) (hnc' : n' ≤ c') (hc' : c' ≤ 9223372036854775807) (r : Bool) (hr : decide (xs = ys) = r) :
    Calls Tryd.prog 10 #[.slice A n c, .slice A' n' c'] w fun e w' => e = .returned (.bool r) ∧ Below w.heap.size w w' := by
  have HX := Lib.hid (hx.more hB)
  have HY := Lib.hid (hy.more hB')
  have HR := Lib.hid hr
  have lx := hx.1
  have ly := hy.1
  rw [List.length_map] at lx ly
  have HLX := Lib.hid lx
  have HLY := Lib.hid ly
  clear hx hy hr lx ly
  by_cases hle : n = n'
  · subst hle
    have n1 : ((n : Int) != (n : Int)) = false := by simp
    go_enter Tryd.func10, Tryd.ntmps10
    go_wp2_with fail
    go_loopw [13] (fun i wr => ∃ k : Nat, k ≤ n ∧ i = .int .i64 k ∧ Ev xs ys k ∧ Below w.heap.size w wr) (fun i _ => n - (intOf i).toNat)
    case atStart => exact ⟨0, Nat.zero_le _, rfl, Ev.zero _ _, Below.refl _ _⟩
    case round =>
      obtain ⟨k, hk, rfl, hev, hb⟩ := hrel
      have HE := Lib.hid hev
      have HB := Lib.hid hb
      by_cases hlt : k < n
      · obtain ⟨b, o, e, _, hcx⟩ := (HX.out.below hb).2 (by omega)
        obtain rfl : A = _ := e
        obtain ⟨b', o', e', _, hcy⟩ := (HY.out.below hb).2 (by omega)
        obtain rfl : A' = _ := e'
        have hkx : k < xs.length := by rw [HLX.out]; exact hlt
        have hky : k < ys.length := by rw [HLY.out]; exact hlt
        have c0 := hcx k hlt
        have d0 := hcy k hlt
        rw [List.getElem?_map, List.getElem?_eq_getElem hkx] at c0
        rw [List.getElem?_map, List.getElem?_eq_getElem hky] at d0
        obtain ⟨x, hxx⟩ : ∃ x, xs[k] = x := ⟨_, rfl⟩
        obtain ⟨y, hyy⟩ : ∃ y, ys[k] = y := ⟨_, rfl⟩
        rw [hxx] at c0
        rw [hyy] at d0
        replace c0 : _ = some (Value.int .i64 (x : Int)) := c0
        replace d0 : _ = some (Value.int .i64 (y : Int)) := d0
        have HXX := Lib.hid hxx
        have HYY := Lib.hid hyy
        clear hcx hcy hev hb hxx hyy
        by_cases hxy : x = y
        · subst hxy
          have q1 : ((x : Int) != (x : Int)) = false := by simp
          have HN : Hid (xs[k]? = ys[k]?) := by
            show _ = _
            rw [List.getElem?_eq_getElem (by rw [HLX.out]; exact hlt), List.getElem?_eq_getElem (by rw [HLY.out]; exact hlt), HXX.out, HYY.out]
          go_wp2_with fail
          go_region
          go_wp2
          go_roundw
          case rel => exact ⟨k + 1, by omega, by go_num, HE.out.succ HN.out, HB.out.drew⟩
          case measure => simp [intOf]; omega
        · have q1 : ((x : Int) != (y : Int)) = true := by rw [bne_iff_ne]; omega
          obtain rfl : r = false := by
            rw [← HR.out]
            refine decide_eq_false fun e => hxy ?_
            have h1 := HXX.out
            have h2 := HYY.out
            subst e
            exact h1.symm.trans h2
          clear hxy
          go_wp2_with fail
          go_region
          go_wp2
          go_ret
          exact ⟨rfl, HB.out.drew⟩
      · obtain rfl : r = true := by
          rw [← HR.out]
          exact decide_eq_true (HE.out.all (HLX.out.trans HLY.out.symm) (by rw [HLX.out]; omega))
        clear hev hb
        go_wp2
        go_ret
        exact ⟨rfl, HB.out⟩
  · obtain rfl : r = false := by
      rw [← HR.out]
      exact decide_eq_false fun e => hle (by rw [← HLX.out, ← HLY.out, e])
    have n1 : ((n : Int) != (n' : Int)) = true := by rw [bne_iff_ne]; omega
    clear hle
    go_enter Tryd.func10, Tryd.ntmps10
    go_wp2
    go_ret
    exact ⟨rfl, Below.refl _ _⟩

/-- A slice shows these places. -/
def PlShow (w : World) (B : Nat) (A : Option Addr) (n : Nat) (ps : List (List Nat)) : Prop :=
  ∃ vs, Cel w B A n vs ∧ Two (PlV w 0 B none) vs ps
theorem PlShow.on {w w' : World} {A : Option Addr} {n : Nat} {ps : List (List Nat)} (h : PlShow w w.heap.size A n ps) (hb : Below w.heap.size w w') : PlShow w' w'.heap.size A n ps := by
  obtain ⟨vs, h1, h2⟩ := h
  exact ⟨vs, h1.on hb, h2.mono fun v p hv => hv.keep hb.size (fun a ha _ => hb.cell ha) (fun _ _ h => h)⟩
theorem PlRow.show {w : World} {lo : Nat} {v : Value} {ps : List (List Nat)} (h : PlRow w lo v ps) : ∃ A c, v = .slice A ps.length c ∧ PlShow w w.heap.size A ps.length ps ∧ ps.length ≤ c ∧ c ≤ 9223372036854775807 := by
  obtain ⟨vs, h1, h2⟩ := h.row
  obtain ⟨A, c, e, hc, h3, h4, _⟩ := owned_cel h1
  refine ⟨A, c, e, ⟨vs, hc, h2.mono fun v p hv => ?_⟩, h3, h4⟩
  obtain ⟨A, c, e, hc, h1, h2, h3⟩ := hv
  exact ⟨A, c, e, hc, h1, h2, fun _ _ _ _ => ⟨Nat.zero_le _, by simp⟩⟩

end Go.Proofs.YtckdddbiffoolaaDoor
