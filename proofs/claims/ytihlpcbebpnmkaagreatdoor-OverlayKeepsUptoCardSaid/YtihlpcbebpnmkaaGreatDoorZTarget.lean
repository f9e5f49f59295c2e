/-
  Layer 11: the program's targetOf: a place that is there, or an error; check, ready.
-/
import Derived.Test.YtihlpcbebpnmkaaGreatDoorZAt
import Derived.Test.YtihlpcbebpnmkaaGreatDoorBase10
import Derived.Test.YtihlpcbebpnmkaaGreatDoorBase11
import Derived.Test.YtihlpcbebpnmkaaGreatDoorRFindH
namespace Go.Proofs.YtihlpcbebpnmkaaGreatDoor
open Go.RowKit
set_option linter.unusedVariables false
set_option linter.unusedSimpArgs false
set_option maxRecDepth 20000
attribute [local go_sem ↓] Go.wp_at_zero Go.wp_at_succ

theorem hfind_gen (t : Tr) (h : Int) (w : World) (hin : t.In w w.heap.size) (hh : heftN t.root ≤ 134217728) (h0 : 0 ≤ h) (h1 : h ≤ 4294967295) :
    Calls Tryz.prog 46 #[t.val, .int .u32 h] w fun e w' => PlaceOut t.root w' e ∧ Below w.heap.size w w' := by
  refine (hfindOK t h w hin hh h0 h1).mono ?_
  rintro e w' ⟨hv, hb⟩
  refine ⟨?_, hb⟩
  unfold FindV at hv
  by_cases he : (refsOf t.root).2 ≠ 0
  · rw [if_pos he] at hv
    obtain ⟨A, c, rfl, _⟩ := hv
    exact ⟨A, 0, c, _, rfl, fun e => absurd e he⟩
  · rw [if_neg he] at hv
    have hm := refsFrom_mem t.root (placesN t.root []) [] (fun y hy => by cases hy)
    rcases ho : handleOf t.root h with _ | p
    · rw [ho] at hv
      obtain ⟨A, c, rfl, _⟩ := hv
      exact ⟨A, 0, c, 11, rfl, fun e => absurd e (by decide)⟩
    · rw [ho] at hv
      obtain ⟨A, c, rfl, h1, h2, h3⟩ := hv
      unfold handleOf at ho
      obtain ⟨x, hx, rfl⟩ := Option.map_eq_some_iff.1 ho
      have hmem := List.mem_of_find?_eq_some hx
      obtain ⟨nd, hnd, _⟩ := hm x hmem
      exact ⟨A, x.2.length, c, 0, rfl, fun _ => ⟨x.2, ⟨nd, hnd⟩, rfl, h1, h2, h3⟩⟩

set_option maxHeartbeats 8000000 in
theorem targetOf_any (t : Tr) (f : Nd) (w : World) (hin : t.In w w.heap.size) (hf : f.In w w.heap.size) (hh : heftN t.root ≤ 134217728) (hhf : heftN f ≤ 134217728) :
    Calls Tryz.prog 28 #[t.val, f.val] w fun e w' => PlaceOut t.root w' e ∧ Below w.heap.size w w' := by
  have HI := Lib.hid hin
  have HF := Lib.hid hf
  have HOV := Lib.hid (oneV_range hf ⟨#[116, 97, 114, 103, 101, 116]⟩)
  have CO := Lib.hid (fun (W : World) (h : f.In W W.heap.size) => oneOK f ⟨#[116, 97, 114, 103, 101, 116]⟩ W h (by decide))
  have CF := Lib.hid (fun (W : World) (h : f.In W W.heap.size) => findw_any f ⟨#[116, 97, 114, 103, 101, 116, 45, 112, 97, 116, 104]⟩ W h hhf)
  have CG := Lib.hid (fun (S : ByteArray) (W : World) (h : t.In W W.heap.size) => find_gen t S W h hh)
  have CH := Lib.hid (fun (x : Int) (h0 : 0 ≤ x) (h1 : x ≤ 4294967295) (W : World) (h : t.In W W.heap.size) => hfind_gen t x W h hh h0 h1)
  obtain ⟨ov, hov⟩ : ∃ ov, oneV f ⟨#[116, 97, 114, 103, 101, 116]⟩ = ov := ⟨_, rfl⟩
  rw [hov] at CO HOV
  obtain ⟨R, hR⟩ : ∃ R, t.root = R := ⟨_, rfl⟩
  replace CG : Hid (∀ (S : ByteArray) (W : World), t.In W W.heap.size → Calls Tryz.prog 49 #[t.val, .string S] W fun e w' => PlaceOut R w' e ∧ Below W.heap.size W w') := by rw [← hR]; exact CG
  replace CH : Hid (∀ (x : Int) (_ : 0 ≤ x) (_ : x ≤ 4294967295) (W : World), t.In W W.heap.size → Calls Tryz.prog 46 #[t.val, .int .u32 x] W fun e w' => PlaceOut R w' e ∧ Below W.heap.size W w') := by rw [← hR]; exact CH
  rw [hR]
  clear hin hf hh hhf hov hR
  obtain ⟨boot, ra, rc, rs, ⟨nm, pa, pc, ps, ka, kc, ks⟩⟩ := t
  obtain ⟨fn, fpa, fpc, fps, fka, fkc, fks⟩ := f
  obtain ⟨o1, o2, o3⟩ := ov
  simp only [Tr.val, Tr.rv, Nd.val, Nd.pv, Nd.kv, Nd.name, Nd.pa, Nd.pc, Nd.props, Nd.ka, Nd.kc, Nd.kids, oneVal] at CO CF CG CH HOV ⊢
  obtain ⟨W0, hW0⟩ : ∃ W0, ((w.alloc (.cells #[Value.int .u32 boot, .slice ra rs.length rc, .string nm, .slice pa ps.length pc, .slice ka ks.length kc] 29)).alloc (.cells #[.string fn, .slice fpa fps.length fpc, .slice fka fks.length fkc] 27)) = W0 := ⟨_, rfl⟩
  have HB0 : Hid (Below w.heap.size w W0) := Lib.hid (by rw [← hW0]; exact ((Below.refl w.heap.size w).alloc (Nat.le_refl _) _).alloc (by simp) _)
  have HX0 : Hid (W0.heap[w.heap.size]? = some (.cells #[Value.int .u32 boot, .slice ra rs.length rc, .string nm, .slice pa ps.length pc, .slice ka ks.length kc] 29 (0, 0)) ∧ W0.heap[w.heap.size + 1]? = some (.cells #[.string fn, .slice fpa fps.length fpc, .slice fka fks.length fkc] 27 (0, 0))) := Lib.hid (by rw [← hW0]; exact ⟨heap_alloc2_old _ _ _, heap_alloc2_new _ _ _⟩)
  have HS0 : Hid (W0.heap.size = w.heap.size + 2) := Lib.hid (by rw [← hW0]; simp)
  have KB : Hid (∀ V : World, Below W0.heap.size W0 V → V.heap[w.heap.size]? = some (.cells #[Value.int .u32 boot, .slice ra rs.length rc, .string nm, .slice pa ps.length pc, .slice ka ks.length kc] 29 (0, 0)) ∧ V.heap[w.heap.size + 1]? = some (.cells #[.string fn, .slice fpa fps.length fpc, .slice fka fks.length fkc] 27 (0, 0)) ∧ Below w.heap.size w V ∧ W0.heap.size ≤ V.heap.size) := Lib.hid (fun V h =>
    ⟨(h.block _ (by have := HS0.out; omega)).trans HX0.out.1, (h.block _ (by have := HS0.out; omega)).trans HX0.out.2, HB0.out.trans (h.mono HB0.out.size), h.size⟩)
  have y0 : W0.cell? ⟨w.heap.size + 1, 0, none⟩ = some (.string fn) := by rw [Lib.cell_of_heap HX0.out.2]; rfl
  have y1 : W0.cell? ⟨w.heap.size + 1, 1, none⟩ = some (.slice fpa fps.length fpc) := by rw [Lib.cell_of_heap HX0.out.2]; rfl
  have y2 : W0.cell? ⟨w.heap.size + 1, 2, none⟩ = some (.slice fka fks.length fkc) := by rw [Lib.cell_of_heap HX0.out.2]; rfl
  go_enter Tryz.func28, Tryz.ntmps28
  go_wp2_with fail
  try rw [hW0]
  clear hW0 y0 y1 y2
  refine (CO.out W0 (HF.out.on HB0.out)).mono ?_
  rintro e w1 ⟨rfl, hb1⟩
  have HB1 := Lib.hid hb1
  clear hb1
  by_cases h3 : o3 = 0
  · subst h3
    cases o2
    · obtain ⟨k1, k2, k3, k4⟩ := KB.out w1 HB1.out
      have y0 : w1.cell? ⟨w.heap.size + 1, 0, none⟩ = some (.string fn) := by rw [Lib.cell_of_heap k2]; rfl
      have y1 : w1.cell? ⟨w.heap.size + 1, 1, none⟩ = some (.slice fpa fps.length fpc) := by rw [Lib.cell_of_heap k2]; rfl
      have y2 : w1.cell? ⟨w.heap.size + 1, 2, none⟩ = some (.slice fka fks.length fkc) := by rw [Lib.cell_of_heap k2]; rfl
      have C2 := Lib.hid (CF.out w1 (HF.out.on k3))
      clear k1 k2 k3 k4
      go_wp2_with fail
      clear y0 y1 y2
      refine C2.out.mono ?_
      rintro e w2 ⟨⟨A, zl, c, zs, b, rfl, hsh, hc1, hc2, hzl⟩, hb2⟩
      have HB2 := Lib.hid (HB1.out.trans (hb2.mono HB1.out.size))
      have CT := Lib.hid (proptext_any A zl c zs w2 hsh hzl hc1 hc2)
      obtain ⟨tx, htx⟩ : ∃ tx, textS zs = tx := ⟨_, rfl⟩
      obtain ⟨te, hte⟩ : ∃ te, textE zs = te := ⟨_, rfl⟩
      rw [htx, hte] at CT
      clear hsh hc1 hc2 hb2 htx hte C2 HB1
      go_wp2_with fail
      refine CT.out.mono ?_
      rintro e w3 ⟨rfl, hb3⟩
      have HB3 := Lib.hid (HB2.out.trans (hb3.mono HB2.out.size))
      clear hb3 CT HB2
      by_cases ht : te = 0
      · subst ht
        obtain ⟨k1, k2, k3, k4⟩ := KB.out w3 HB3.out
        obtain ⟨b0, b1, b2, b3, b4⟩ := tree_box k1
        have C4 := Lib.hid (CG.out tx w3 (HI.out.on k3))
        clear k1 k2 k3 k4
        go_wp2_with fail
        clear b0 b1 b2 b3 b4
        refine C4.out.mono ?_
        rintro e w4 ⟨⟨A4, l4, c4, er, rfl, hpl⟩, hb4⟩
        have HB4 := Lib.hid (HB3.out.trans (hb4.mono HB3.out.size))
        have HPL := Lib.hid hpl
        clear hb4 hpl C4 HB3
        go_wp2
        go_ret2
        exact ⟨⟨A4, l4, c4, er, rfl, HPL.out⟩, (KB.out _ HB4.out).2.2.1⟩
      · have j1 : (te != 0) = true := by rw [bne_iff_ne]; exact ht
        go_wp2
        go_ret2
        exact ⟨placeOut_no _ _ ht, (KB.out _ HB3.out).2.2.1⟩
    · obtain ⟨k1, k2, k3, k4⟩ := KB.out w1 HB1.out
      obtain ⟨b0, b1, b2, b3, b4⟩ := tree_box k1
      have C4 := Lib.hid (CH.out o1 HOV.out.1 HOV.out.2 w1 (HI.out.on k3))
      clear k1 k2 k3 k4
      go_wp2_with fail
      clear b0 b1 b2 b3 b4
      refine C4.out.mono ?_
      rintro e w4 ⟨⟨A4, l4, c4, er, rfl, hpl⟩, hb4⟩
      have HB4 := Lib.hid (HB1.out.trans (hb4.mono HB1.out.size))
      have HPL := Lib.hid hpl
      clear hb4 hpl C4 HB1
      go_wp2
      go_ret2
      exact ⟨⟨A4, l4, c4, er, rfl, HPL.out⟩, (KB.out _ HB4.out).2.2.1⟩
  · have j1 : (o3 != 0) = true := by rw [bne_iff_ne]; exact h3
    go_wp2
    go_ret2
    exact ⟨placeOut_no _ _ h3, (KB.out _ HB1.out).2.2.1⟩
end Go.Proofs.YtihlpcbebpnmkaaGreatDoor
