/-
  Places: whether two are the same, and two lists of them: the document's answer.
-/
import Derived.Test.YtckdddbiffoolaaQRow
import Derived.Test.YtckdddbiffoolaaReg
import Derived.Deep.DrawnRows
namespace Go.Proofs.Ytckdddbiffoolaa
open Go.RowKit
set_option linter.unusedVariables false
set_option linter.unusedSimpArgs false

/-- The first k are the same. -/
def Ev {α : Type} (xs ys : List α) (k : Nat) : Prop := ∀ j, j < k → xs[j]? = ys[j]?
theorem Ev.zero {α : Type} (xs ys : List α) : Ev xs ys 0 := fun j h => absurd h (Nat.not_lt_zero _)
theorem Ev.succ {α : Type} {xs ys : List α} {k : Nat} (h : Ev xs ys k) (he : xs[k]? = ys[k]?) : Ev xs ys (k + 1) := fun j hj => by
  rcases Nat.lt_succ_iff_lt_or_eq.1 hj with h' | rfl
  · exact h j h'
  · exact he
theorem Ev.all {α : Type} {xs ys : List α} {k : Nat} (h : Ev xs ys k) (hl : xs.length = ys.length) (hk : xs.length ≤ k) : xs = ys := by
  apply List.ext_getElem?
  intro i
  rcases Nat.lt_or_ge i k with hi | hi
  · exact h i hi
  · rw [List.getElem?_eq_none (by omega), List.getElem?_eq_none (by omega)]

set_option maxHeartbeats 2000000 in
theorem equalI_any (A A' : Option Addr) (n n' c c' B B' : Nat) (xs ys : List Nat) (w : World) (hx : Cel w B A n (ints xs)) (hy : Cel w B' A' n' (ints ys)) (hB : B ≤ w.heap.size) (hB' : B' ≤ w.heap.size) (hnc : n ≤ c) (hc : c ≤ 9223372036854775807) (hnc' : n' ≤ c') (hc' : c' ≤ 9223372036854775807) (r : Bool) (hr : decide (xs = ys) = r) :
    Calls Try.prog 11 #[.slice A n c, .slice A' n' c'] w fun e w' => e = .returned (.bool r) ∧ Below w.heap.size w w' := by
  have HX := Lib.hid (hx.more hB)
  have HY := Lib.hid (hy.more hB')
  have HR := Lib.hid hr
  have lx := hx.1
  have ly := hy.1
  rw [List.length_map] at lx ly
  have HLX := Lib.hid lx
  have HLY := Lib.hid ly
  clear hx hy hr lx ly
  by_cases hle : n = n'
  · subst hle
    have n1 : ((n : Int) != (n : Int)) = false := by simp
    go_enter Try.func11, Try.ntmps11
    go_wp2_with fail
    go_loopw [13] (fun i wr => ∃ k : Nat, k ≤ n ∧ i = .int .i64 k ∧ Ev xs ys k ∧ Below w.heap.size w wr) (fun i _ => n - (intOf i).toNat)
    case atStart => exact ⟨0, Nat.zero_le _, rfl, Ev.zero _ _, Below.refl _ _⟩
    case round =>
      obtain ⟨k, hk, rfl, hev, hb⟩ := hrel
      have HE := Lib.hid hev
      have HB := Lib.hid hb
      by_cases hlt : k < n
      · obtain ⟨b, o, e, _, hcx⟩ := (HX.out.below hb).2 (by omega)
        obtain rfl : A = _ := e
        obtain ⟨b', o', e', _, hcy⟩ := (HY.out.below hb).2 (by omega)
        obtain rfl : A' = _ := e'
        have hkx : k < xs.length := by rw [HLX.out]; exact hlt
        have hky : k < ys.length := by rw [HLY.out]; exact hlt
        have c0 := hcx k hlt
        have d0 := hcy k hlt
        rw [List.getElem?_map, List.getElem?_eq_getElem hkx] at c0
        rw [List.getElem?_map, List.getElem?_eq_getElem hky] at d0
        obtain ⟨x, hxx⟩ : ∃ x, xs[k] = x := ⟨_, rfl⟩
        obtain ⟨y, hyy⟩ : ∃ y, ys[k] = y := ⟨_, rfl⟩
        rw [hxx] at c0
        rw [hyy] at d0
        replace c0 : _ = some (Value.int .i64 (x : Int)) := c0
        replace d0 : _ = some (Value.int .i64 (y : Int)) := d0
        have HXX := Lib.hid hxx
        have HYY := Lib.hid hyy
        clear hcx hcy hev hb hxx hyy
        by_cases hxy : x = y
        · subst hxy
          have q1 : ((x : Int) != (x : Int)) = false := by simp
          have HN : Hid (xs[k]? = ys[k]?) := by
            show _ = _
            rw [List.getElem?_eq_getElem (by rw [HLX.out]; exact hlt), List.getElem?_eq_getElem (by rw [HLY.out]; exact hlt), HXX.out, HYY.out]
          go_wp2_with fail
          go_region
          go_wp2
          go_roundw
          case rel => exact ⟨k + 1, by omega, by go_num, HE.out.succ HN.out, HB.out.drew⟩
          case measure => simp [intOf]; omega
        · have q1 : ((x : Int) != (y : Int)) = true := by rw [bne_iff_ne]; omega
          obtain rfl : r = false := by
            rw [← HR.out]
            refine decide_eq_false fun e => hxy ?_
            have h1 := HXX.out
            have h2 := HYY.out
            subst e
            exact h1.symm.trans h2
          clear hxy
          go_wp2_with fail
          go_region
          go_wp2
          go_ret
          exact ⟨rfl, HB.out.drew⟩
      · obtain rfl : r = true := by
          rw [← HR.out]
          exact decide_eq_true (HE.out.all (HLX.out.trans HLY.out.symm) (by rw [HLX.out]; omega))
        clear hev hb
        go_wp2
        go_ret
        exact ⟨rfl, HB.out⟩
  · obtain rfl : r = false := by
      rw [← HR.out]
      exact decide_eq_false fun e => hle (by rw [← HLX.out, ← HLY.out, e])
    have n1 : ((n : Int) != (n' : Int)) = true := by rw [bne_iff_ne]; omega
    clear hle
    go_enter Try.func11, Try.ntmps11
    go_wp2
    go_ret
    exact ⟨rfl, Below.refl _ _⟩

/-- A slice shows these places. -/
def PlShow (w : World) (B : Nat) (A : Option Addr) (n : Nat) (ps : List (List Nat)) : Prop :=
  ∃ vs, Cel w B A n vs ∧ Two (PlV w 0 B none) vs ps
theorem PlShow.on {w w' : World} {A : Option Addr} {n : Nat} {ps : List (List Nat)} (h : PlShow w w.heap.size A n ps) (hb : Below w.heap.size w w') : PlShow w' w'.heap.size A n ps := by
  obtain ⟨vs, h1, h2⟩ := h
  exact ⟨vs, h1.on hb, h2.mono fun v p hv => hv.keep hb.size (fun a ha _ => hb.cell ha) (fun _ _ h => h)⟩
theorem PlRow.show {w : World} {lo : Nat} {v : Value} {ps : List (List Nat)} (h : PlRow w lo v ps) : ∃ A c, v = .slice A ps.length c ∧ PlShow w w.heap.size A ps.length ps ∧ ps.length ≤ c ∧ c ≤ 9223372036854775807 := by
  obtain ⟨vs, h1, h2⟩ := h.row
  obtain ⟨A, c, e, hc, h3, h4, _⟩ := owned_cel h1
  refine ⟨A, c, e, ⟨vs, hc, h2.mono fun v p hv => ?_⟩, h3, h4⟩
  obtain ⟨A, c, e, hc, h1, h2, h3⟩ := hv
  exact ⟨A, c, e, hc, h1, h2, fun _ _ _ _ => ⟨Nat.zero_le _, by simp⟩⟩

set_option maxHeartbeats 2000000 in
theorem places_any (A A' : Option Addr) (n n' c c' : Nat) (ps qs : List (List Nat)) (w : World) (hx : PlShow w w.heap.size A n ps) (hy : PlShow w w.heap.size A' n' qs) (hnc : n ≤ c) (hc : c ≤ 9223372036854775807) (hnc' : n' ≤ c') (hc' : c' ≤ 9223372036854775807) (r : Bool) (hr : decide (ps = qs) = r) :
    Calls Try.prog 6 #[.slice A n c, .slice A' n' c'] w fun e w' => e = .returned (.bool r) ∧ Below w.heap.size w w' := by
  obtain ⟨vs, hx1, hx2⟩ := hx
  obtain ⟨us, hy1, hy2⟩ := hy
  have lx := hx2.len.symm.trans hx1.1
  have ly := hy2.len.symm.trans hy1.1
  have HX := Lib.hid hx1
  have HY := Lib.hid hy1
  have HX2 := Lib.hid hx2
  have HY2 := Lib.hid hy2
  have HR := Lib.hid hr
  have HLX := Lib.hid lx
  have HLY := Lib.hid ly
  clear hx1 hx2 hy1 hy2 hr lx ly
  by_cases hle : n = n'
  · subst hle
    have n1 : ((n : Int) != (n : Int)) = false := by simp
    go_enter Try.func6, Try.ntmps6
    go_wp2_with fail
    go_loopw [13] (fun i wr => ∃ k : Nat, k ≤ n ∧ i = .int .i64 k ∧ Ev ps qs k ∧ Below w.heap.size w wr) (fun i _ => n - (intOf i).toNat)
    case atStart => exact ⟨0, Nat.zero_le _, rfl, Ev.zero _ _, Below.refl _ _⟩
    case round =>
      obtain ⟨k, hk, rfl, hev, hb⟩ := hrel
      have HE := Lib.hid hev
      have HB := Lib.hid hb
      by_cases hlt : k < n
      · obtain ⟨b, o, e, _, hcx⟩ := (HX.out.below hb).2 (by omega)
        obtain rfl : A = _ := e
        obtain ⟨b', o', e', _, hcy⟩ := (HY.out.below hb).2 (by omega)
        obtain rfl : A' = _ := e'
        have hkx : k < ps.length := by rw [HLX.out]; exact hlt
        have hky : k < qs.length := by rw [HLY.out]; exact hlt
        have hkv : k < vs.length := by rw [HX2.out.len]; exact hkx
        have hku : k < us.length := by rw [HY2.out.len]; exact hky
        have c0 := hcx k hlt
        have d0 := hcy k hlt
        rw [List.getElem?_eq_getElem hkv] at c0
        rw [List.getElem?_eq_getElem hku] at d0
        obtain ⟨B1, m1, e1, hp1, hm1, hm1', _⟩ := (HX2.out.get k hkv hkx).keep (Nat.le_refl _) (w' := wr) (own' := none) (fun a ha _ => hb.cell ha) (fun _ _ h => h)
        obtain ⟨B2, m2, e2, hp2, hm2, hm2', _⟩ := (HY2.out.get k hku hky).keep (Nat.le_refl _) (w' := wr) (own' := none) (fun a ha _ => hb.cell ha) (fun _ _ h => h)
        rw [e1] at c0
        rw [e2] at d0
        obtain ⟨q, hq⟩ : ∃ q, decide (ps[k] = qs[k]) = q := ⟨_, rfl⟩
        have C := Lib.hid (equalI_any B1 B2 _ _ m1 m2 _ _ ps[k] qs[k] wr.drew (hp1.below (Below.drew (Below.refl _ wr))) (hp2.below (Below.drew (Below.refl _ wr))) hb.size hb.size hm1 hm1' hm2 hm2' q hq)
        have HQ := Lib.hid hq
        have HPX := Lib.hid (And.intro hkx hky)
        clear hcx hcy hev hb hkv hku hp1 hp2 e1 e2 hq
        generalize ps[k].length = l1 at *
        generalize qs[k].length = l2 at *
        go_wp2_with fail
        refine wp_region_held_drew (S := fun W => W.cell? ⟨b, o + k, none⟩ = some (Value.slice B1 l1 m1) ∧ W.cell? ⟨b', o' + k, none⟩ = some (Value.slice B2 l2 m2)) (by kernel_rfl) ⟨c0, d0⟩ (fun hHeld => ?_)
        refine held_take 0 rfl (by kernel_rfl) (by kernel_rfl) (by kernel_rfl) (fun _ _ _ h => h) (by rfl) hHeld (v := ?_) (fun w hSw => ?_) (fun _ => ?_)
        rotate_left
        · ((try dsimp only at hSw); go_simp; (try with_reducible rfl))
        simp only [Act.put, List.setIfInBounds_toArray, List.set_cons_zero, List.set_cons_succ]
        refine held_take 1 rfl (by kernel_rfl) (by kernel_rfl) (by kernel_rfl) (fun _ _ _ h => h) (by rfl) hHeld (v := ?_) (fun w hSw => ?_) (fun _ => ?_)
        rotate_left
        · ((try dsimp only at hSw); go_simp; (try with_reducible rfl))
        simp only [Act.put, List.setIfInBounds_toArray, List.set_cons_zero, List.set_cons_succ]
        refine held_take 2 rfl (by kernel_rfl) (by kernel_rfl) (by kernel_rfl) (fun _ _ _ h => h) (by rfl) hHeld (v := ?_) (fun w hSw => ?_) (fun _ => ?_)
        rotate_left
        · ((try dsimp only at hSw); go_simp; (try with_reducible rfl))
        simp only [Act.put, List.setIfInBounds_toArray, List.set_cons_zero, List.set_cons_succ]
        refine held_take 3 rfl (by kernel_rfl) (by kernel_rfl) (by kernel_rfl) (fun _ _ _ h => h) (by rfl) hHeld (v := ?_) (fun w hSw => ?_) (fun _ => ?_)
        rotate_left
        · ((try dsimp only at hSw); go_simp; (try with_reducible rfl))
        simp only [Act.put, List.setIfInBounds_toArray, List.set_cons_zero, List.set_cons_succ]
        refine held_take 4 rfl (by kernel_rfl) (by kernel_rfl) (by kernel_rfl) (fun _ _ _ h => h) (by rfl) hHeld (v := ?_) (fun w hSw => ?_) (fun _ => ?_)
        rotate_left
        · ((try dsimp only at hSw); go_simp; (try with_reducible rfl))
        simp only [Act.put, List.setIfInBounds_toArray, List.set_cons_zero, List.set_cons_succ]
        refine held_take 5 rfl (by kernel_rfl) (by kernel_rfl) (by kernel_rfl) (fun _ _ _ h => h) (by rfl) hHeld (v := ?_) (fun w hSw => ?_) (fun _ => ?_)
        rotate_left
        · ((try dsimp only at hSw); go_simp; (try with_reducible rfl))
        simp only [Act.put, List.setIfInBounds_toArray, List.set_cons_zero, List.set_cons_succ]
        refine held_take 6 rfl (by kernel_rfl) (by kernel_rfl) (by kernel_rfl) (fun _ _ _ h => h) (by rfl) hHeld (v := ?_) (fun w hSw => ?_) (fun _ => ?_)
        rotate_left
        · ((try dsimp only at hSw); go_simp; (try with_reducible rfl))
        simp only [Act.put, List.setIfInBounds_toArray, List.set_cons_zero, List.set_cons_succ]
        refine held_take 7 rfl (by kernel_rfl) (by kernel_rfl) (by kernel_rfl) (fun _ _ _ h => h) (by rfl) hHeld (v := ?_) (fun w hSw => ?_) (fun _ => ?_)
        rotate_left
        · ((try dsimp only at hSw); go_simp; (try with_reducible rfl))
        simp only [Act.put, List.setIfInBounds_toArray, List.set_cons_zero, List.set_cons_succ]
        refine held_call 8 (by kernel_rfl) rfl (by rfl) (fun K hK => ?_)
        go_simp
        refine C.out.mono ?_
        rintro e w4 ⟨rfl, hb4⟩
        have ko : ∀ {a : Addr} {v : Value}, wr.cell? a = some v → w4.cell? a = some v := fun {a v} h => (hb4.cell (p := a) (World.block_lt_of_cell? wr _ h)).trans h
        dsimp only
        refine hK.out _ _ ⟨ko c0, ko d0⟩ (fun hHeld => ?_)
        clear hK K
        refine held_take 9 rfl (by kernel_rfl) (by kernel_rfl) (by kernel_rfl) (fun _ _ _ h => h) (by rfl) hHeld (v := ?_) (fun w hSw => ?_) (fun _ => ?_)
        rotate_left
        · ((try dsimp only at hSw); go_simp; (try with_reducible rfl))
        simp only [Act.put, List.setIfInBounds_toArray, List.set_cons_zero, List.set_cons_succ]
        refine wpAnyH_done (by kernel_rfl) ?_ _
        have HB3 := Lib.hid (HB.out.trans (Below.trans (Below.drew (Below.refl _ wr)) (hb4.mono (by have := HB.out.size; simpa using this))))
        clear hHeld c0 d0 ko hb4
        cases q
        · obtain rfl : r = false := by
            rw [← HR.out]
            refine decide_eq_false fun e => ?_
            have h1 := of_decide_eq_false HQ.out
            exact h1 (by congr 1)
          go_wp2
          go_ret
          exact ⟨rfl, HB3.out⟩
        · have HN : Hid (ps[k]? = qs[k]?) := by
            show _ = _
            rw [List.getElem?_eq_getElem HPX.out.1, List.getElem?_eq_getElem HPX.out.2, of_decide_eq_true HQ.out]
          go_wp2
          go_roundw
          case rel => exact ⟨k + 1, by omega, by go_num, HE.out.succ HN.out, HB3.out⟩
          case measure => simp [intOf]; omega
      · obtain rfl : r = true := by
          rw [← HR.out]
          exact decide_eq_true (HE.out.all (HLX.out.trans HLY.out.symm) (by rw [HLX.out]; omega))
        clear hev hb
        go_wp2
        go_ret
        exact ⟨rfl, HB.out⟩
  · obtain rfl : r = false := by
      rw [← HR.out]
      exact decide_eq_false fun e => hle (by rw [← HLX.out, ← HLY.out, e])
    have n1 : ((n : Int) != (n' : Int)) = true := by rw [bne_iff_ne]; omega
    clear hle
    go_enter Try.func6, Try.ntmps6
    go_wp2
    go_ret
    exact ⟨rfl, Below.refl _ _⟩
end Go.Proofs.Ytckdddbiffoolaa
