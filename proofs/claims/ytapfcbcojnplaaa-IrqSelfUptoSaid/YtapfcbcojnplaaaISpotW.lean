/-
  Layer 14: the program's below, at, Controller.
-/
import Derived.Test.YtapfcbcojnplaaaISpot
import Derived.Test.YtapfcbcojnplaaaBase5
namespace Go.Proofs.Ytapfcbcojnplaaa
open Go.RowKit
set_option linter.unusedVariables false
set_option linter.unusedSimpArgs false

/-- The cells of a spot. -/
theorem spot_cells {w : World} {b : Nat} {v0 v1 v2 v3 v4 : Value} (h : w.heap[b]? = some (.cells #[v0, v1, v2, v3, v4] 74 (0, 0))) : w.cell? ⟨b, 0, none⟩ = some v0 ∧ w.cell? ⟨b, 1, none⟩ = some v1 ∧ w.cell? ⟨b, 2, none⟩ = some v2 ∧ w.cell? ⟨b, 3, none⟩ = some v3 ∧ w.cell? ⟨b, 4, none⟩ = some v4 := by
  refine ⟨?_, ?_, ?_, ?_, ?_⟩ <;> rw [Lib.cell_of_heap h] <;> rfl

set_option maxRecDepth 20000 in
set_option maxHeartbeats 2000000 in
/-- s.below(i) -/
theorem sbelow_any (R : Nd) (D : Nat → Prop) (b : Nat) (z : List Nat) (x : Nd) (i : Nat) (w : World) (hs : Spot w R D b z x) (hD : D w.heap.size) (hin : R.In w w.heap.size) (hi : i < x.kids.length) :
    Calls Try.prog 24 #[.pointer (some ⟨b, 0, none⟩), .int .i64 i] w fun e w' => e = .returned (.pointer (some ⟨w.heap.size, 0, none⟩)) ∧ Spot w' R D w.heap.size (z ++ [i]) x.kids[i] ∧ Below w.heap.size w w' := by
  have hx := hs.inn hin
  obtain ⟨pa, pi, hb⟩ := hs.heap
  obtain ⟨kb, ko, ek, _, d0, d1, d2⟩ := hx.kcell hi
  have hkl := hx.klen
  have HF : Hid (∀ W : World, Below w.heap.size w W → W.heap[w.heap.size]? = some (.cells #[.string x.kids[i].name, x.kids[i].pv, x.kids[i].kv, .pointer (some ⟨b, 0, none⟩), .int .i64 i] 74 (0, 0)) → Spot W R D w.heap.size (z ++ [i]) x.kids[i]) := Lib.hid (fun W h1 h2 => .kid (hs.on h1) (List.getElem?_eq_getElem hi) hD h2)
  clear hs hin hx hD
  obtain ⟨xn, xpa, xpc, xps, xka, xkc, xks⟩ := x
  replace hb : w.heap[b]? = some (.cells #[.string xn, .slice xpa xps.length xpc, .slice xka xks.length xkc, .pointer pa, .int .i64 pi] 74 (0, 0)) := hb
  replace hi : i < xks.length := hi
  replace d0 : w.cell? ⟨kb, ko + i * 3, none⟩ = some (.string xks[i].name) := d0
  replace d1 : w.cell? ⟨kb, ko + i * 3 + 1, none⟩ = some xks[i].pv := d1
  replace d2 : w.cell? ⟨kb, ko + i * 3 + 2, none⟩ = some xks[i].kv := d2
  replace hkl : xks.length ≤ xkc ∧ xkc ≤ 9223372036854775807 := hkl
  obtain rfl : xka = _ := ek
  obtain ⟨s0, s1, s2, s3, s4⟩ := spot_cells hb
  simp only [Nd.kids] at HF ⊢
  generalize hk : xks[i] = k at *
  clear hk hb
  obtain ⟨yn, ypa, ypc, yps, yka, ykc, yks⟩ := k
  simp only [Nd.pv, Nd.kv, Nd.name, Nd.pa, Nd.pc, Nd.props, Nd.ka, Nd.kc, Nd.kids] at d0 d1 d2 HF
  generalize xks.length = xkl at *
  have HFIN := Lib.hid (HF.out (w.alloc (.cells #[.string yn, .slice ypa yps.length ypc, .slice yka yks.length ykc, .pointer (some ⟨b, 0, none⟩), .int .i64 i] 74)) ((Below.refl _ _).alloc (Nat.le_refl _) _) (heap_alloc_new _ _))
  clear HF
  go_enter Try.func24, Try.ntmps24
  go_wp2_with fail
  go_ret
  exact ⟨rfl, HFIN.out, (Below.refl _ _).alloc (Nat.le_refl _) _⟩

theorem one_one {n : Nd} {s : ByteArray} (h : (oneV n s).1 = 1) : (oneV n s).2.1 = true ∧ (oneV n s).2.2 = 0 := by
  unfold oneV at *
  cases hf : n.props.find? (fun p => decide (p.name = s)) with
  | none => rw [hf] at h; simp at h
  | some p =>
    rw [hf] at h
    simp only at h ⊢
    by_cases h4 : p.zs.length = 4
    · rw [if_pos h4]; exact ⟨rfl, rfl⟩
    · rw [if_neg h4] at h; simp at h
theorem ctrlB_two (n : Nd) : ctrlB n = (decide (0 ≤ idxOf (n.props.map PV.name) icName) && decide ((oneV n icellsName).1 = 1)) := by
  unfold ctrlB
  by_cases h : (oneV n icellsName).1 = 1
  · obtain ⟨h1, h2⟩ := one_one h
    rw [h1, h2]
    simp
  · simp [h]
set_option maxRecDepth 20000 in
set_option maxHeartbeats 2000000 in
/-- The program's Controller. -/
theorem ctrl_any (n : Nd) (w : World) (hin : n.In w w.heap.size) : Calls Try.prog 25 #[n.val] w fun e w' => e = .returned (.bool (ctrlB n)) ∧ Below w.heap.size w w' := by
  have C1 := Lib.hid (fun W (hW : Below w.heap.size w W) => findc_any n icName W (hin.on hW) _ rfl)
  have C2 := Lib.hid (fun W (hW : Below w.heap.size w W) => oneOK n icellsName W (hin.on hW) (by decide))
  obtain ⟨B, hB⟩ : ∃ B, ctrlB n = B := ⟨_, rfl⟩
  have HBV : Hid (B = _) := Lib.hid (hB.symm.trans (ctrlB_two n))
  rw [hB]
  generalize idxOf (n.props.map PV.name) icName = r at *
  generalize oneV n icellsName = O at *
  obtain ⟨v, ok, er⟩ := O
  simp only [oneVal] at C2 HBV
  clear hB hin
  obtain ⟨nm, pa, pc, ps, ka, kc, ks⟩ := n
  simp only [Nd.val, Nd.pv, Nd.kv, Nd.name, Nd.pa, Nd.pc, Nd.props, Nd.ka, Nd.kc, Nd.kids, icName, icellsName] at C1 C2 ⊢
  obtain ⟨V, hV⟩ : ∃ V, w.alloc (.cells #[.string nm, .slice pa ps.length pc, .slice ka ks.length kc] 27) = V := ⟨_, rfl⟩
  have bV : Below w.heap.size w V := by rw [← hV]; exact (Below.refl _ _).alloc (Nat.le_refl _) _
  have hg : V.heap[w.heap.size]? = some (.cells #[.string nm, .slice pa ps.length pc, .slice ka ks.length kc] 27 (0, 0)) := by rw [← hV]; exact heap_alloc_new _ _
  have hVs : V.heap.size = w.heap.size + 1 := by rw [← hV]; simp
  have HX := Lib.hid (fun (W : World) (h : Below V.heap.size V W) => (show W.cell? ⟨w.heap.size, 0, none⟩ = some (.string nm) ∧ W.cell? ⟨w.heap.size, 1, none⟩ = some (.slice pa ps.length pc) ∧ W.cell? ⟨w.heap.size, 2, none⟩ = some (.slice ka ks.length kc) from by
    have e := (h.block w.heap.size (by omega)).trans hg
    refine ⟨?_, ?_, ?_⟩ <;> rw [Lib.cell_of_heap e] <;> rfl))
  have HBV0 := Lib.hid bV
  obtain ⟨x0, x1, x2⟩ := HX.out V (Below.refl _ _)
  clear bV hg hVs
  go_enter Try.func25, Try.ntmps25
  go_wp2_with fail
  clear hV
  refine (C1.out _ HBV0.out).mono ?_
  rintro e w1 ⟨A1, c1, zs1, rfl, _, _, hb⟩
  have HB1 := Lib.hid (HBV0.out.trans (hb.mono HBV0.out.size))
  clear x0 x1 x2
  obtain ⟨x0, x1, x2⟩ := HX.out w1 hb
  clear hb
  go_wp2_with fail
  refine (C2.out _ HB1.out).mono ?_
  rintro e w2 ⟨rfl, hb⟩
  have HB2 := Lib.hid (HB1.out.trans (hb.mono HB1.out.size))
  clear hb x0 x1 x2 HX C1 C2
  by_cases h0 : 0 ≤ r
  · have q0 : decide ((0 : Int) ≤ r) = true := decide_eq_true h0
    by_cases hv : v = 1
    · subst hv
      obtain rfl : B = true := by rw [HBV.out, q0]; rfl
      clear h0
      go_wp2
      go_ret
      exact ⟨rfl, HB2.out⟩
    · have q1 : (v == 1) = false := by rw [beq_eq_false_iff_ne]; exact hv
      obtain rfl : B = false := by rw [HBV.out, q0, decide_eq_false hv]; rfl
      clear h0 hv
      go_wp2
      go_ret
      exact ⟨rfl, HB2.out⟩
  · have q0 : decide ((0 : Int) ≤ r) = false := decide_eq_false h0
    obtain rfl : B = false := by rw [HBV.out, q0]; rfl
    clear h0
    go_wp2
    go_ret
    exact ⟨rfl, HB2.out⟩
end Go.Proofs.Ytapfcbcojnplaaa
