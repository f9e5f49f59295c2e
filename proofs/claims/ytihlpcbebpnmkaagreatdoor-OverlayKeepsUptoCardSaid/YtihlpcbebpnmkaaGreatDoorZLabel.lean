/-
  Layer 11: the program's labelCell: some cell, and whether there is one.
-/
import Derived.Test.YtihlpcbebpnmkaaGreatDoorZAt
import Derived.Test.YtihlpcbebpnmkaaGreatDoorBase10
import Derived.Test.YtihlpcbebpnmkaaGreatDoorBase11
namespace Go.Proofs.YtihlpcbebpnmkaaGreatDoor
open Go.RowKit
set_option linter.unusedVariables false
set_option linter.unusedSimpArgs false
set_option maxRecDepth 20000
attribute [local go_sem ↓] Go.wp_at_zero Go.wp_at_succ

set_option maxHeartbeats 8000000 in
theorem labelCell_any (t : Tr) (s : ByteArray) (w : World) (hin : t.In w w.heap.size) (hh : heftN t.root ≤ 134217728) :
    Calls Tryz.prog 63 #[t.val, .string s] w fun e w' => (∃ (v : Int) (b : Bool), e = .returned (.tuple #[.int .u32 v, .bool b]) ∧ 0 ≤ v ∧ v ≤ 4294967295) ∧ Below w.heap.size w w' := by
  have HI := Lib.hid hin.root
  have HIT := Lib.hid hin
  have CK := Lib.hid (fun (W : World) (h : t.root.In W W.heap.size) => kid_any t.root ⟨#[95, 95, 115, 121, 109, 98, 111, 108, 115, 95, 95]⟩ W h _ rfl)
  have CG := Lib.hid (fun (S : ByteArray) (W : World) (h : t.In W W.heap.size) => find_gen t S W h hh)
  have HKI := Lib.hid (kidIdx11 (t.root.kids.map Nd.name) ⟨#[95, 95, 115, 121, 109, 98, 111, 108, 115, 95, 95]⟩)
  have HHK : Hid (∀ k ∈ t.root.kids, heftN k ≤ 134217728) := Lib.hid (fun k hk => Nat.le_trans (heft_kid hk) hh)
  have hkl := hin.root.klen
  obtain ⟨ix, hix⟩ : ∃ ix, idxOf (t.root.kids.map Nd.name) ⟨#[95, 95, 115, 121, 109, 98, 111, 108, 115, 95, 95]⟩ = ix := ⟨_, rfl⟩
  rw [hix] at CK HKI
  obtain ⟨R, hR⟩ : ∃ R, t.root = R := ⟨_, rfl⟩
  have HRE := Lib.hid hR
  replace CG : Hid (∀ (S : ByteArray) (W : World), t.In W W.heap.size → Calls Tryz.prog 49 #[t.val, .string S] W fun e w' => PlaceOut R w' e ∧ Below W.heap.size W w') := by rw [← hR]; exact CG
  clear hin hh hix hR
  obtain ⟨boot, ra, rc, rs, ⟨nm, pa, pc, ps, ka, kc, ks⟩⟩ := t
  simp only [Tr.val, Tr.rv, Nd.val, Nd.pv, Nd.kv, Nd.name, Nd.pa, Nd.pc, Nd.props, Nd.ka, Nd.kc, Nd.kids, List.length_map] at CK CG HKI HHK hkl ⊢
  obtain ⟨hk1, hk2⟩ := hkl
  obtain ⟨W0, hW0⟩ : ∃ W0, w.alloc (.cells #[Value.int .u32 boot, .slice ra rs.length rc, .string nm, .slice pa ps.length pc, .slice ka ks.length kc] 29) = W0 := ⟨_, rfl⟩
  have HB0 : Hid (Below w.heap.size w W0) := Lib.hid (by rw [← hW0]; exact (Below.refl _ _).alloc (Nat.le_refl _) _)
  have HX0 : Hid (W0.heap[w.heap.size]? = some (.cells #[Value.int .u32 boot, .slice ra rs.length rc, .string nm, .slice pa ps.length pc, .slice ka ks.length kc] 29 (0, 0))) := Lib.hid (by rw [← hW0]; exact heap_alloc_new _ _)
  have HS0 : Hid (W0.heap.size = w.heap.size + 1) := Lib.hid (by rw [← hW0]; simp)
  obtain ⟨b0, b1, b2, b3, b4⟩ := tree_box HX0.out
  go_enter Tryz.func63, Tryz.ntmps63
  go_wp2_with fail
  try rw [hW0]
  clear hW0 b0 b1 b2 b3 b4
  refine (CK.out W0 (HI.out.on HB0.out)).mono ?_
  rintro e w1 ⟨rfl, hb1⟩
  have HB1 := Lib.hid (HB0.out.trans (hb1.mono HB0.out.size))
  have HX1 := Lib.hid ((hb1.block w.heap.size (by have := HS0.out; omega)).trans HX0.out)
  have HS1 : Hid (w.heap.size < w1.heap.size) := Lib.hid (by have h1 := HS0.out; have h2 := hb1.size; omega)
  clear hb1 CK HX0 HB0 HS0
  by_cases hx : ix < 0
  · have j2 : decide (ix < 0) = true := decide_eq_true hx
    go_wp2
    go_ret2
    exact ⟨⟨_, _, rfl, by omega, by omega⟩, HB1.out⟩
  · have j2 : decide (ix < 0) = false := decide_eq_false hx
    obtain ⟨i, rfl⟩ : ∃ i : Nat, ix = (i : Int) := ⟨ix.toNat, by omega⟩
    have hik : i < ks.length := by have := HKI.out; omega
    have hi1 := HI.out.on HB1.out
    obtain ⟨kb, ko, e, _, e0, e1, e2⟩ := hi1.kcell (i := i) hik
    obtain rfl : ka = _ := e
    have hkin : (ks[i]'hik).In w1 w1.heap.size := hi1.kid (List.getElem_mem hik)
    have CF := Lib.hid (findw_any (ks[i]'hik) s w1 hkin (HHK.out _ (List.getElem_mem hik)))
    replace e0 : _ = some (Value.string (ks[i]'hik).name) := e0
    replace e1 : _ = some (ks[i]'hik).pv := e1
    replace e2 : _ = some (ks[i]'hik).kv := e2
    generalize (ks[i]'hik) = X at *
    obtain ⟨xn, xpa, xpc, xps, xka, xkc, xks⟩ := X
    simp only [Nd.val, Nd.pv, Nd.kv, Nd.name, Nd.pa, Nd.pc, Nd.props, Nd.ka, Nd.kc, Nd.kids] at e0 e1 e2 CF
    obtain ⟨b0, b1, b2, b3, b4⟩ := tree_box HX1.out
    clear hkin hi1 b0 b1 b2 b3
    go_wp2_with fail
    clear e0 e1 e2 b4
    refine CF.out.mono ?_
    rintro e w2 ⟨⟨A, zl, c, zs, b, rfl, hsh, hc1, hc2, hzl⟩, hb2⟩
    have HB2 := Lib.hid (HB1.out.trans (hb2.mono HB1.out.size))
    have HX2 := Lib.hid ((hb2.block w.heap.size HS1.out).trans HX1.out)
    have HS2 : Hid (w.heap.size < w2.heap.size) := Lib.hid (by have h1 := HS1.out; have h2 := hb2.size; omega)
    have CT := Lib.hid (proptext_any A zl c zs w2 hsh hzl hc1 hc2)
    obtain ⟨tx, htx⟩ : ∃ tx, textS zs = tx := ⟨_, rfl⟩
    obtain ⟨te, hte⟩ : ∃ te, textE zs = te := ⟨_, rfl⟩
    rw [htx, hte] at CT
    clear hsh hc1 hc2 hb2 htx hte CF HX1 HS1 HB1
    go_wp2_with fail
    refine CT.out.mono ?_
    rintro e w3 ⟨rfl, hb3⟩
    have HB3 := Lib.hid (HB2.out.trans (hb3.mono HB2.out.size))
    have HX3 := Lib.hid ((hb3.block w.heap.size HS2.out).trans HX2.out)
    have HS3 : Hid (w.heap.size < w3.heap.size) := Lib.hid (by have h1 := HS2.out; have h2 := hb3.size; omega)
    clear hb3 CT HX2 HS2 HB2
    by_cases ht : te = 0
    · subst ht
      obtain ⟨b0, b1, b2, b3, b4⟩ := tree_box HX3.out
      go_wp2_with fail
      clear b0 b1 b2 b3 b4
      refine (CG.out tx w3 (HIT.out.on HB3.out)).mono ?_
      rintro e w4 ⟨⟨A4, l4, c4, er, rfl, hpl⟩, hb4⟩
      have HB4 := Lib.hid (HB3.out.trans (hb4.mono HB3.out.size))
      have HX4 := Lib.hid ((hb4.block w.heap.size HS3.out).trans HX3.out)
      have HS4 : Hid (w.heap.size < w4.heap.size) := Lib.hid (by have h1 := HS3.out; have h2 := hb4.size; omega)
      clear hb4 HX3 HS3 HB3 CG
      by_cases he : er = 0
      · subst he
        obtain ⟨P, ⟨y, hy⟩, hPl, hcel, hl1, hl2⟩ := hpl rfl
        have hRin : R.In w4 w4.heap.size := by rw [← HRE.out]; exact HI.out.on HB4.out
        have hNC : NodeCells w4 w.heap.size 2 R := by
          obtain ⟨_, _, b2, b3, b4⟩ := tree_box HX4.out
          rw [← HRE.out]
          exact ⟨b2, b3, b4⟩
        have CN := Lib.hid (nodeAtP_any R w.heap.size 2 P A4 l4 c4 w4 hRin hNC HS4.out hcel hl1 hl2 hy)
        obtain ⟨⟨c0, c1, c2⟩, _⟩ := adr_cells P hRin hNC HS4.out hy
        have hyin := nodeAt_in11 P hRin hy
        have CO := Lib.hid (oneOK y ⟨#[112, 104, 97, 110, 100, 108, 101]⟩ w4 hyin (by decide))
        have HOV := Lib.hid (oneV_range hyin ⟨#[112, 104, 97, 110, 100, 108, 101]⟩)
        obtain ⟨ov, hov⟩ : ∃ ov, oneV y ⟨#[112, 104, 97, 110, 100, 108, 101]⟩ = ov := ⟨_, rfl⟩
        rw [hov] at CO HOV
        unfold adrP at CN
        generalize adr R w.heap.size 2 P = ab at *
        obtain ⟨ab, ao⟩ := ab
        dsimp only at c0 c1 c2 CN
        clear hRin hNC hyin hov hpl hcel hy
        obtain ⟨yn, ypa, ypc, yps, yka, ykc, yks⟩ := y
        obtain ⟨o1, o2, o3⟩ := ov
        simp only [Nd.val, Nd.pv, Nd.kv, Nd.name, Nd.pa, Nd.pc, Nd.props, Nd.ka, Nd.kc, Nd.kids, oneVal] at c0 c1 c2 CO
        go_wp2_with fail
        refine CN.out.mono ?_
        rintro e w5 ⟨rfl, rfl⟩
        go_wp2_with fail
        clear c0 c1 c2
        refine CO.out.mono ?_
        rintro e w6 ⟨rfl, hb6⟩
        have HB6 := Lib.hid (HB4.out.trans (hb6.mono HB4.out.size))
        clear hb6
        go_wp2
        go_ret2
        exact ⟨⟨_, _, rfl, HOV.out.1, HOV.out.2⟩, HB6.out⟩
      · have j1 : (er != 0) = true := by rw [bne_iff_ne]; exact he
        clear hpl
        go_wp2
        go_ret2
        exact ⟨⟨_, _, rfl, by omega, by omega⟩, HB4.out⟩
    · have j1 : (te != 0) = true := by rw [bne_iff_ne]; exact ht
      go_wp2
      go_ret2
      exact ⟨⟨_, _, rfl, by omega, by omega⟩, HB3.out⟩
end Go.Proofs.YtihlpcbebpnmkaaGreatDoor
