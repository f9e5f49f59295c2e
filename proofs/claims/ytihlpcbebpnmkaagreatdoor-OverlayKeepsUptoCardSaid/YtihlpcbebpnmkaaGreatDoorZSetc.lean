/-
  Layer 11: the program's setCell.
-/
import Derived.Test.YtihlpcbebpnmkaaGreatDoorZFind
namespace Go.Proofs.YtihlpcbebpnmkaaGreatDoor
open Go.RowKit
set_option linter.unusedVariables false
set_option linter.unusedSimpArgs false
attribute [local go_sem ↓] Go.wp_at_zero Go.wp_at_succ

theorem join_le (l : List ByteArray) (m : Nat) (h0 : 0 < m) (hm : m ≤ l.length) (sz : Nat) (h : Lib.lens (l.map (·.data.toList)) + (l.length - 1) ≤ sz) : (Lib.join ((l.take m).map (·.data.toList)) [58]).length ≤ sz := by
  obtain ⟨x, r, e⟩ : ∃ x r, l.take m = x :: r := by
    cases hl : l.take m with
    | nil =>
      have := congrArg List.length hl
      rw [List.length_take, List.length_nil] at this
      omega
    | cons x r => exact ⟨x, r, rfl⟩
  have hlen : r.length + 1 = m := by
    have := congrArg List.length e
    rw [List.length_take, List.length_cons] at this
    omega
  have h2 := Lib.lens_take_le (l.map (·.data.toList)) m
  rw [← List.map_take, e] at h2
  rw [e, List.map_cons, Lib.join_length]
  rw [List.map_cons] at h2
  simp only [List.length_map, List.length_cons, List.length_nil]
  omega
theorem size_str11 (w : World) : (Go.sizeOf 9).run Tryz.prog w = .ok 1 w := by kernel_rfl
set_option maxRecDepth 20000 in
set_option maxHeartbeats 8000000 in
theorem setCell_any (D : Nat → Prop) (P : Value → Prop) (TV TK : Nat → Prop) (a b : Option Nat) (s : ByteArray) (v : Int) (w : World) (hs : SpotAt D P TV TK w) (ha : ∀ g, a = some g → TV g) (hb : ∀ g, b = some g → TK g) (hz : s.size ≤ 268435456) (hv : 0 ≤ v ∧ v ≤ 4294967295) (he : ErrLaid w) :
    Calls Tryz.prog 65 #[.agg #[.map a, .map b], .string s, .int .u32 v] w fun e w' => (∃ r : Bool, e = .returned (.bool r)) ∧ Wrote D w w' := by
  have HS := Lib.hid hs
  have HV := Lib.hid hv
  have HE := Lib.hid he
  have HAA := Lib.hid (And.intro ha hb)
  obtain ⟨l, l1, l2, l3, l5, l4⟩ := split_any 58 s hz
  have CSP := Lib.hid l4
  have HLS : Hid (∀ x ∈ l, x.size ≤ 268435456) := Lib.hid (fun x hx => Nat.le_trans (l3 x hx) hz)
  have HSUM := Lib.hid l5
  have HSZ := Lib.hid hz
  obtain ⟨N, hN⟩ : ∃ N, l.length = N := ⟨_, rfl⟩
  have HN := Lib.hid hN
  rw [hN] at CSP l1 l2
  have hN2 : N ≤ 268435457 := by omega
  have HB0 := Lib.hid ((Below.refl w.heap.size w).alloc (Nat.le_refl _) (.cells #[.map a, .map b] 87))
  clear hs hv he ha hb hz l3 l4 l5 hN l2
  obtain ⟨gs, hgs⟩ : ∃ gs, (w.alloc (.cells #[.map a, .map b] 87)).heap.size = gs := ⟨_, rfl⟩
  have hgs2 : gs = w.heap.size + 1 := by rw [← hgs]; simp
  obtain ⟨V2, hV2⟩ : ∃ V2, (w.alloc (.cells #[.map a, .map b] 87)).alloc (.cells (l.map Value.string).toArray 9) = V2 := ⟨_, rfl⟩
  have HX2 : Hid (V2.heap[w.heap.size]? = some (.cells #[.map a, .map b] 87 (0, 0)) ∧ V2.heap[gs]? = some (.cells (l.map Value.string).toArray 9 (0, 0))) := Lib.hid (by rw [← hV2, hgs2]; exact ⟨heap_alloc2_old _ _ _, heap_alloc2_new _ _ _⟩)
  have HBV : Hid (Below w.heap.size w V2) := Lib.hid (by rw [← hV2]; exact HB0.out.alloc (by simp) _)
  have HS2 : Hid (V2.heap.size = w.heap.size + 2) := Lib.hid (by rw [← hV2]; simp)
  go_enter Tryz.func65, Tryz.ntmps65
  go_wp2_with fail
  refine (CSP.out _).mono ?_
  rintro e w2 ⟨rfl, rfl⟩
  rw [hV2, hgs]
  clear hV2 hgs
  by_cases h3 : N < 3
  · have k1 : (N : Int) < 3 := by omega
    have k2 : decide ((N : Int) < 3) = true := decide_eq_true k1
    go_wp2
    go_ret
    exact ⟨⟨_, rfl⟩, Wrote.of_below D HBV.out⟩
  · have k1 : ¬ ((N : Int) < 3) := by omega
    have k2 : decide ((N : Int) < 3) = false := decide_eq_false k1
    obtain ⟨m, rfl⟩ : ∃ m, N = m + 2 := ⟨N - 2, by omega⟩
    have i1 : m + 1 < l.length := by rw [HN.out]; omega
    have i2 : m < l.length := by rw [HN.out]; omega
    have HX1 := Lib.hid (HLS.out _ (List.getElem_mem i1))
    have HCELL : Hid (∀ (V : World), V.heap[gs]? = V2.heap[gs]? → V.cell? ⟨gs, m + 1, none⟩ = some (.string (l[m + 1]'i1)) ∧ V.cell? ⟨gs, m, none⟩ = some (.string (l[m]'i2)) ∧ ∀ (j : Nat) x, (l.take m)[j]? = some x → V.cell? ⟨gs, 0 + j, none⟩ = some (.string x)) := Lib.hid (fun V e => by
      have e2 := e.trans HX2.out.2
      refine ⟨?_, ?_, fun j x hx => ?_⟩
      · rw [Lib.cell_of_heap e2]; simp [List.getElem?_eq_getElem i1]
      · rw [Lib.cell_of_heap e2]; simp [List.getElem?_eq_getElem i2]
      · rw [Lib.cell_of_heap e2]
        have hj : j < m := by
          have := (List.getElem?_eq_some_iff.1 hx).1
          rw [List.length_take] at this
          omega
        rw [List.getElem?_take_of_lt hj] at hx
        simp [hx])
    have HM : Hid ((l.take m).length = m) := Lib.hid (by rw [List.length_take]; omega)
    have hjl := join_le l m (by omega) (by omega) s.size HSUM.out
    have CJ := Lib.hid (fun (V : World) (e : V.heap[gs]? = V2.heap[gs]?) (hlt : gs < V.heap.size) => Go.Proofs.Tryz.strings_Join gs 0 (m + 2) (l.take m) ⟨#[58]⟩ V (HCELL.out V e).2.2 hlt (by rw [HM.out]; omega) (by rw [HM.out]; omega) (by have := HSZ.out; exact Nat.le_trans hjl (by omega)))
    obtain ⟨FT, hFT⟩ : ∃ FT : ByteArray, FT = ⟨(Lib.join ((l.take m).map (·.data.toList)) [58]).toArray⟩ := ⟨_, rfl⟩
    have HFZ : Hid (FT.size ≤ 268435456) := Lib.hid (by
      rw [hFT]
      show (Lib.join ((l.take m).map (·.data.toList)) [58]).toArray.size ≤ _
      rw [List.size_toArray]
      exact Nat.le_trans hjl HSZ.out)
    replace CJ : Hid (∀ V : World, V.heap[gs]? = V2.heap[gs]? → gs < V.heap.size → Calls Tryz.prog 91 #[.slice (some ⟨gs, 0, none⟩) m (m + 2), .string ⟨#[58]⟩] V fun e w' => e = .returned (.string FT) ∧ Below V.heap.size V w') := Lib.hid (fun V e h => by
      have := CJ.out V e h
      rw [HM.out] at this
      rw [hFT]
      exact this)
    have HSC : Hid (∀ V : World, V.heap[gs]? = V2.heap[gs]? → V.cell? ⟨gs, m + 1, none⟩ = some (.string (l[m + 1]'i1)) ∧ V.cell? ⟨gs, m, none⟩ = some (.string (l[m]'i2))) := Lib.hid (fun V e => ⟨(HCELL.out V e).1, (HCELL.out V e).2.1⟩)
    have HX2N := Lib.hid (HLS.out _ (List.getElem_mem i2))
    generalize (l[m + 1]'i1) = x1 at *
    generalize (l[m]'i2) = x2 at *
    clear hjl hFT HCELL HLS i1 i2
    have e1 : IntKind.i64.wrap (((m + 2 : Nat) : Int) - 1) = ((m + 1 : Nat) : Int) := by rw [IntWalk.i64_in _ (by omega)]; omega
    have e2 : IntKind.i64.wrap (((m + 2 : Nat) : Int) - 2) = (m : Int) := by rw [IntWalk.i64_in _ (by omega)]; omega
    obtain ⟨N, hNN⟩ : ∃ N, m + 2 = N := ⟨_, rfl⟩
    rw [hNN] at e1 e2 k1 k2 CJ l1 hN2 ⊢
    obtain ⟨m1, hm1⟩ : ∃ m1, m + 1 = m1 := ⟨_, rfl⟩
    rw [hm1] at e1 HSC
    have hlt1 : m1 < N := by omega
    have HG2 := Lib.hid hgs2
    clear hgs2 h3
    have hlt2 : m < N := by omega
    have HNN := Lib.hid hNN
    clear hNN hm1
    have hmN : m ≤ N := by omega
    have sl := fun W => run_upto Tryz.underlying57 size_str11 (some ⟨gs, 0, none⟩) N N (m : Int) m rfl hmN W
    go_wp2_with fail
    refine wp_region_held_drew (S := fun V => V.cell? ⟨gs, m1, none⟩ = some (.string x1) ∧ V.cell? ⟨gs, m, none⟩ = some (.string x2)) (by kernel_rfl) (HSC.out V2 rfl) (fun hHeld => ?_)
    refine held_take 0 rfl (by kernel_rfl) (by kernel_rfl) (by kernel_rfl) (fun _ _ _ h => h) (by rfl) hHeld (v := ?_) (fun w hSw => ?_) (fun _ => ?_)
    rotate_left
    · ((try dsimp only at hSw); go_simp; (try with_reducible rfl))
    simp only [Act.put, List.setIfInBounds_toArray, List.set_cons_zero, List.set_cons_succ]
    refine held_take 1 rfl (by kernel_rfl) (by kernel_rfl) (by kernel_rfl) (fun _ _ _ h => h) (by rfl) hHeld (v := ?_) (fun w hSw => ?_) (fun _ => ?_)
    rotate_left
    · ((try dsimp only at hSw); go_simp; (try with_reducible rfl))
    simp only [Act.put, List.setIfInBounds_toArray, List.set_cons_zero, List.set_cons_succ]
    refine held_take 2 rfl (by kernel_rfl) (by kernel_rfl) (by kernel_rfl) (fun _ _ _ h => h) (by rfl) hHeld (v := ?_) (fun w hSw => ?_) (fun _ => ?_)
    rotate_left
    · ((try dsimp only at hSw); go_simp; (try with_reducible rfl))
    simp only [Act.put, List.setIfInBounds_toArray, List.set_cons_zero, List.set_cons_succ]
    refine held_take 3 rfl (by kernel_rfl) (by kernel_rfl) (by kernel_rfl) (fun _ _ _ h => h) (by rfl) hHeld (v := ?_) (fun w hSw => ?_) (fun _ => ?_)
    rotate_left
    · ((try dsimp only at hSw); go_simp; (try with_reducible rfl))
    simp only [Act.put, List.setIfInBounds_toArray, List.set_cons_zero, List.set_cons_succ]
    refine held_take 4 rfl (by kernel_rfl) (by kernel_rfl) (by kernel_rfl) (fun _ _ _ h => h) (by rfl) hHeld (v := ?_) (fun w hSw => ?_) (fun _ => ?_)
    rotate_left
    · ((try dsimp only at hSw); go_simp; (try with_reducible rfl))
    simp only [Act.put, List.setIfInBounds_toArray, List.set_cons_zero, List.set_cons_succ]
    refine held_take 5 rfl (by kernel_rfl) (by kernel_rfl) (by kernel_rfl) (fun _ _ _ h => h) (by rfl) hHeld (v := ?_) (fun w hSw => ?_) (fun _ => ?_)
    rotate_left
    · ((try dsimp only at hSw); go_simp; (try with_reducible rfl))
    simp only [Act.put, List.setIfInBounds_toArray, List.set_cons_zero, List.set_cons_succ]
    refine held_take 6 rfl (by kernel_rfl) (by kernel_rfl) (by kernel_rfl) (fun _ _ _ h => h) (by rfl) hHeld (v := ?_) (fun w hSw => ?_) (fun _ => ?_)
    rotate_left
    · ((try dsimp only at hSw); go_simp; (try with_reducible rfl))
    simp only [Act.put, List.setIfInBounds_toArray, List.set_cons_zero, List.set_cons_succ]
    refine held_take 7 rfl (by kernel_rfl) (by kernel_rfl) (by kernel_rfl) (fun _ _ _ h => h) (by rfl) hHeld (v := ?_) (fun w hSw => ?_) (fun _ => ?_)
    rotate_left
    · ((try dsimp only at hSw); go_simp; (try with_reducible rfl))
    simp only [Act.put, List.setIfInBounds_toArray, List.set_cons_zero, List.set_cons_succ]
    refine held_take 8 rfl (by kernel_rfl) (by kernel_rfl) (by kernel_rfl) (fun _ _ _ h => h) (by rfl) hHeld (v := ?_) (fun w hSw => ?_) (fun _ => ?_)
    rotate_left
    · ((try dsimp only at hSw); go_simp; (try with_reducible rfl))
    simp only [Act.put, List.setIfInBounds_toArray, List.set_cons_zero, List.set_cons_succ]
    refine held_take 9 rfl (by kernel_rfl) (by kernel_rfl) (by kernel_rfl) (fun _ _ _ h => h) (by rfl) hHeld (v := ?_) (fun w hSw => ?_) (fun _ => ?_)
    rotate_left
    · ((try dsimp only at hSw); go_simp; (try with_reducible rfl))
    simp only [Act.put, List.setIfInBounds_toArray, List.set_cons_zero, List.set_cons_succ]
    refine held_take 10 rfl (by kernel_rfl) (by kernel_rfl) (by kernel_rfl) (fun _ _ _ h => h) (by rfl) hHeld (v := ?_) (fun w hSw => ?_) (fun _ => ?_)
    rotate_left
    · ((try dsimp only at hSw); go_simp; (try with_reducible rfl))
    simp only [Act.put, List.setIfInBounds_toArray, List.set_cons_zero, List.set_cons_succ]
    refine held_take 11 rfl (by kernel_rfl) (by kernel_rfl) (by kernel_rfl) (fun _ _ _ h => h) (by rfl) hHeld (v := ?_) (fun w hSw => ?_) (fun _ => ?_)
    rotate_left
    · ((try dsimp only at hSw); go_simp; (try with_reducible rfl))
    simp only [Act.put, List.setIfInBounds_toArray, List.set_cons_zero, List.set_cons_succ]
    refine held_take 12 rfl (by kernel_rfl) (by kernel_rfl) (by kernel_rfl) (fun _ _ _ h => h) (by rfl) hHeld (v := ?_) (fun w hSw => ?_) (fun _ => ?_)
    rotate_left
    · ((try dsimp only at hSw); go_simp; (try with_reducible rfl))
    simp only [Act.put, List.setIfInBounds_toArray, List.set_cons_zero, List.set_cons_succ]
    refine held_take 13 rfl (by kernel_rfl) (by kernel_rfl) (by kernel_rfl) (fun _ _ _ h => h) (by rfl) hHeld (v := ?_) (fun w hSw => ?_) (fun _ => ?_)
    rotate_left
    · ((try dsimp only at hSw); go_simp; (try with_reducible rfl))
    simp only [Act.put, List.setIfInBounds_toArray, List.set_cons_zero, List.set_cons_succ]
    refine held_take 14 rfl (by kernel_rfl) (by kernel_rfl) (by kernel_rfl) (fun _ _ _ h => h) (by rfl) hHeld (v := ?_) (fun w hSw => ?_) (fun _ => ?_)
    rotate_left
    · ((try dsimp only at hSw); go_simp; (try with_reducible rfl))
    simp only [Act.put, List.setIfInBounds_toArray, List.set_cons_zero, List.set_cons_succ]
    refine held_take 15 rfl (by kernel_rfl) (by kernel_rfl) (by kernel_rfl) (fun _ _ _ h => h) (by rfl) hHeld (v := ?_) (fun w hSw => ?_) (fun _ => ?_)
    rotate_left
    · ((try dsimp only at hSw); go_simp; (try with_reducible rfl))
    simp only [Act.put, List.setIfInBounds_toArray, List.set_cons_zero, List.set_cons_succ]
    refine held_take 16 rfl (by kernel_rfl) (by kernel_rfl) (by kernel_rfl) (fun _ _ _ h => h) (by rfl) hHeld (v := ?_) (fun w hSw => ?_) (fun _ => ?_)
    rotate_left
    · ((try dsimp only at hSw); go_simp; (try with_reducible rfl))
    simp only [Act.put, List.setIfInBounds_toArray, List.set_cons_zero, List.set_cons_succ]
    refine held_call 17 (by kernel_rfl) rfl (by rfl) (fun K hK => ?_)
    go_simp
    refine (CJ.out V2.drew rfl (by have h1 := HS2.out; have h2 := HG2.out; show gs < V2.heap.size; omega)).mono ?_
    rintro e w3 ⟨rfl, hb3⟩
    have hb3' : Below V2.heap.size V2 w3 := (Below.refl _ V2).drew.trans hb3
    have HB3 : Hid (Below w.heap.size w w3) := Lib.hid (HBV.out.trans (hb3'.mono HBV.out.size))
    have HSC3 := Lib.hid (HSC.out w3 (hb3'.block gs (by have h1 := HS2.out; have h2 := HG2.out; omega)))
    have HX3 := Lib.hid ((hb3'.block w.heap.size (by have h1 := HS2.out; omega)).trans HX2.out.1)
    have HS3 : Hid (w.heap.size + 2 ≤ w3.heap.size) := Lib.hid (by have h1 := HS2.out; have h2 := hb3'.size; omega)
    clear hb3 hb3'
    dsimp only
    refine hK.out _ _ HSC3.out (fun hHeld => ?_)
    clear hK K
    refine held_take 18 rfl (by kernel_rfl) (by kernel_rfl) (by kernel_rfl) (fun _ _ _ h => h) (by rfl) hHeld (v := ?_) (fun w hSw => ?_) (fun _ => ?_)
    rotate_left
    · ((try dsimp only at hSw); go_simp; (try with_reducible rfl))
    simp only [Act.put, List.setIfInBounds_toArray, List.set_cons_zero, List.set_cons_succ]
    refine held_take 19 rfl (by kernel_rfl) (by kernel_rfl) (by kernel_rfl) (fun _ _ _ h => h) (by rfl) hHeld (v := ?_) (fun w hSw => ?_) (fun _ => ?_)
    rotate_left
    · ((try dsimp only at hSw); go_simp; (try with_reducible rfl))
    simp only [Act.put, List.setIfInBounds_toArray, List.set_cons_zero, List.set_cons_succ]
    refine held_take 20 rfl (by kernel_rfl) (by kernel_rfl) (by kernel_rfl) (fun _ _ _ h => h) (by rfl) hHeld (v := ?_) (fun w hSw => ?_) (fun _ => ?_)
    rotate_left
    · ((try dsimp only at hSw); go_simp; (try with_reducible rfl))
    simp only [Act.put, List.setIfInBounds_toArray, List.set_cons_zero, List.set_cons_succ]
    refine wpAnyH_done (by kernel_rfl) ?_ _
    clear hHeld
    have CN := Lib.hid (number_any x1 w3 HX1.out (HE.out.on HE.out.1 HB3.out HB3.out.size))
    have HSA := Lib.hid HS.out.sp
    clear e1 e2 sl hmN hlt1 hlt2 k1 k2 l1 hN2 CJ
    go_wp2_with fail
    refine CN.out.mono ?_
    rintro e w4 ⟨⟨q, r, rfl, hq⟩, hb4⟩
    have HQ := Lib.hid hq
    have HB4 := Lib.hid (HB3.out.trans (hb4.mono HB3.out.size))
    have HX4 := Lib.hid ((hb4.block w.heap.size (by have := HS3.out; omega)).trans HX3.out)
    have HS4 : Hid (w.heap.size + 2 ≤ w4.heap.size) := Lib.hid (by have h1 := HS3.out; have h2 := hb4.size; omega)
    clear hb4 CN hq
    cases r
    · go_wp2
      go_ret
      exact ⟨⟨_, rfl⟩, Wrote.of_below D HB4.out⟩
    · have CF := Lib.hid (find11_any P TV TK a b FT w4 (HSA.out.below HB4.out) HAA.out.1 HAA.out.2 HFZ.out)
      obtain ⟨b0, b1, _, _⟩ := spot_box HX4.out
      go_wp2_with fail
      clear b0 b1
      refine CF.out.mono ?_
      rintro e w5 ⟨⟨fv, r5, rfl, hfv⟩, hb5⟩
      obtain ⟨fa, fb, rfl, hfa, hfb⟩ := hfv
      have HB5 := Lib.hid (HB4.out.trans (hb5.mono HB4.out.size))
      obtain ⟨W6, hW6⟩ : ∃ W6, w5.alloc (.cells #[.map fa, .map fb] 87) = W6 := ⟨_, rfl⟩
      have HB6 : Hid (Below w.heap.size w W6) := Lib.hid (by rw [← hW6]; exact HB5.out.alloc HB5.out.size _)
      have HX6 : Hid (W6.heap[w5.heap.size]? = some (.cells #[.map fa, .map fb] 87 (0, 0))) := Lib.hid (by rw [← hW6]; exact heap_alloc_new _ _)
      have HS6 := Lib.hid (HS.out.on HB6.out)
      obtain ⟨lv, hlook, hlv⟩ := look_values HS6.out.sp HS6.out.nil hfa (s := x2) (by have := HX2N.out; omega)
      obtain ⟨A7, n7, c7, rfl, hsl⟩ : ∃ A n c, lv = .slice A n c ∧ SlB W6 D (.slice A n c) := by
        have h := HS6.out.good _ hlv
        obtain ⟨A, n, c, e, r⟩ := h
        exact ⟨A, n, c, e, A, n, c, rfl, r⟩
      have CS := Lib.hid (set_any D A7 n7 c7 q v W6 hsl HQ.out HV.out)
      obtain ⟨y0, y1, _, _⟩ := spot_box HX6.out
      clear hb5 hfa hfb hlv hsl CF
      cases r5
      · go_wp2
        go_ret
        exact ⟨⟨_, rfl⟩, Wrote.of_below D (by first | exact HB6.out | (rw [hW6]; exact HB6.out))⟩
      · go_wp2_with fail
        try rw [hW6]
        refine CS.out.mono ?_
        rintro e w7 ⟨⟨r7, rfl⟩, hw7⟩
        have HW7 := Lib.hid ((Wrote.of_below D HB6.out).trans hw7)
        clear hw7 CS hlook y0 y1 hW6
        go_wp2
        go_ret
        exact ⟨⟨_, rfl⟩, HW7.out⟩
end Go.Proofs.YtihlpcbebpnmkaaGreatDoor
