/-
  Layer 6, PathAll: the places of all nodes of any tree are told in order: out of what the program's All answers.
-/
import Derived.Test.YtckdddbiffoolaaQAll
import Derived.Test.YtckdddbiffoolaaTCheck
namespace Go.Proofs.Ytckdddbiffoolaa
open Go.RowKit
set_option linter.unusedVariables false
set_option linter.unusedSimpArgs false

/-- What the program's All answers. -/
def AllOK : Prop := ∀ (t : Tr) (w : World), t.In w w.heap.size → heftN t.root ≤ 134217728 → Calls Try.prog 7 #[t.val] w fun e w' => (∃ v, e = .returned v ∧ PlRow w' w.heap.size v (placesN t.root [])) ∧ Below w.heap.size w w'
def Awake6 : Prop := ∀ w : World, Calls Try.prog 4 #[] w fun e w' => e = .returned (.bool true) ∧ Below w.heap.size w w'

/-- The five cells of a tree in a new block. -/
theorem box6_cells (w : World) (v0 v1 v2 v3 v4 : Value) (W : World) (h : Below (w.heap.size + 1) (w.alloc (.cells #[v0, v1, v2, v3, v4] 29)) W) :
    W.cell? ⟨w.heap.size, 0, none⟩ = some v0 ∧ W.cell? ⟨w.heap.size, 1, none⟩ = some v1 ∧ W.cell? ⟨w.heap.size, 2, none⟩ = some v2 ∧ W.cell? ⟨w.heap.size, 3, none⟩ = some v3 ∧ W.cell? ⟨w.heap.size, 4, none⟩ = some v4 :=
  ⟨(h.cell (Nat.lt_succ_self _)).trans (World.cell?_alloc_new _ _ _ _), (h.cell (Nat.lt_succ_self _)).trans (World.cell?_alloc_new _ _ _ _), (h.cell (Nat.lt_succ_self _)).trans (World.cell?_alloc_new _ _ _ _), (h.cell (Nat.lt_succ_self _)).trans (World.cell?_alloc_new _ _ _ _), (h.cell (Nat.lt_succ_self _)).trans (World.cell?_alloc_new _ _ _ _)⟩

set_option maxRecDepth 20000 in
set_option maxHeartbeats 8000000 in
theorem pathAll_true (hA : AllOK) (hK : Awake6) (t : Tr) (w : World) (hin : t.In w w.heap.size) (hheft : heftN t.root ≤ 134217728) :
    Calls Try.prog 3 #[t.val] w fun e w' => e = .returned (.bool true) ∧ Below w.heap.size w w' := by
  have C0 := Lib.hid (fun w h => few_any t w h)
  have C1 := Lib.hid (fun w h => hA t w h hheft)
  have C2 := Lib.hid (fun w (h : t.root.In w w.heap.size) => refall_any t.root [] none 0 0 w h rfl (Cel.nil _ _ _) (Nat.le_refl _) (by omega) (by omega))
  have CP := Lib.hid (fun (A1 A2 : Option Addr) (c1 c2 : Nat) (W : World) h1 h2 k1 k2 k3 k4 => places_any A1 A2 (placesN t.root []).length (placesN t.root []).length c1 c2 (placesN t.root []) (placesN t.root []) W h1 h2 k1 k2 k3 k4 true (decide_eq_true rfl))
  have HK := Lib.hid hK
  have HI := Lib.hid hin
  have HL : Hid ((placesN t.root []).length ≤ 134217728) := Lib.hid (Nat.le_trans (places_len t.root []).1 hheft)
  obtain ⟨PS, hPS⟩ : ∃ PS, placesN t.root [] = PS := ⟨_, rfl⟩
  rw [hPS] at C1 C2 CP
  clear hA hK hin hheft hPS HL
  obtain ⟨boot, ra, rc, rs, ⟨nm, pa, pc, ps, ka, kc, ks⟩⟩ := t
  simp only [Tr.val, Tr.rv, Nd.val, Nd.pv, Nd.kv, Nd.name, Nd.pa, Nd.pc, Nd.props, Nd.ka, Nd.kc, Nd.kids] at C0 C1 C2 ⊢
  have HB := Lib.hid ((Below.refl w.heap.size w).alloc (Nat.le_refl _) (.cells #[.int .u32 boot, .slice ra rs.length rc, .string nm, .slice pa ps.length pc, .slice ka ks.length kc] 29))
  have BX := Lib.hid (box6_cells w (.int .u32 boot) (.slice ra rs.length rc) (.string nm) (.slice pa ps.length pc) (.slice ka ks.length kc))
  go_enter Try.func3, Try.ntmps3
  go_wp2_with fail
  refine (HK.out _).mono ?_
  rintro e w1 ⟨rfl, hb⟩
  have HB1 := Lib.hid (HB.out.trans (hb.mono HB.out.size))
  have HX1 := Lib.hid (hb.mono (B' := w.heap.size + 1) (by simp))
  obtain ⟨b0, b1, b2, b3, b4⟩ := BX.out _ HX1.out
  clear hb
  go_wp2_with fail
  refine (C0.out _ (HI.out.on HB1.out)).mono ?_
  rintro e w2 ⟨⟨r, rfl⟩, hb⟩
  have HB2 := Lib.hid (HB1.out.trans (hb.mono HB1.out.size))
  have HX2 := Lib.hid (HX1.out.trans (hb.mono (by have := HX1.out.size; simpa using this)))
  clear hb b0 b1 b2 b3 b4
  cases r
  · go_wp2_with fail
    refine (HK.out _).mono ?_
    rintro e w3 ⟨rfl, hb⟩
    have HB3 := Lib.hid (HB2.out.trans (hb.mono HB2.out.size))
    clear hb
    go_wp2
    go_ret
    exact ⟨rfl, HB3.out⟩
  · have HS : Hid (∀ W, Below w2.heap.size w2 W → (W.cell? ⟨w.heap.size, 0, none⟩ = some (.int .u32 boot) ∧ W.cell? ⟨w.heap.size, 1, none⟩ = some (.slice ra rs.length rc) ∧ W.cell? ⟨w.heap.size, 2, none⟩ = some (.string nm) ∧ W.cell? ⟨w.heap.size, 3, none⟩ = some (.slice pa ps.length pc) ∧ W.cell? ⟨w.heap.size, 4, none⟩ = some (.slice ka ks.length kc))) := Lib.hid (fun W hW =>
      BX.out W (HX2.out.trans (hW.mono (by have := HX2.out.size; simpa using this))))
    have hd := (Below.refl w2.heap.size w2).drew
    have HD := Lib.hid hd
    clear hd
    go_wp2_with fail
    refine wp_region_held_drew (S := fun W => W.cell? ⟨w.heap.size, 0, none⟩ = some (.int .u32 boot) ∧ W.cell? ⟨w.heap.size, 1, none⟩ = some (.slice ra rs.length rc) ∧ W.cell? ⟨w.heap.size, 2, none⟩ = some (.string nm) ∧ W.cell? ⟨w.heap.size, 3, none⟩ = some (.slice pa ps.length pc) ∧ W.cell? ⟨w.heap.size, 4, none⟩ = some (.slice ka ks.length kc)) (by kernel_rfl) (HS.out _ HD.out) (fun hHeld => ?_)
    refine held_take 0 rfl (by kernel_rfl) (by kernel_rfl) (by kernel_rfl) (fun _ _ _ h => h) (by rfl) hHeld (v := ?_) (fun w hSw => ?_) (fun _ => ?_)
    rotate_left
    · ((try dsimp only at hSw); go_simp; (try with_reducible rfl))
    simp only [Act.put, List.setIfInBounds_toArray, List.set_cons_zero, List.set_cons_succ]
    refine held_take 2 rfl (by kernel_rfl) (by kernel_rfl) (by kernel_rfl) (fun _ _ _ h => h) (by rfl) hHeld (v := ?_) (fun w hSw => ?_) (fun _ => ?_)
    rotate_left
    · ((try dsimp only at hSw); go_simp; (try with_reducible rfl))
    simp only [Act.put, List.setIfInBounds_toArray, List.set_cons_zero, List.set_cons_succ]
    refine held_take 3 rfl (by kernel_rfl) (by kernel_rfl) (by kernel_rfl) (fun _ _ _ h => h) (by rfl) hHeld (v := ?_) (fun w hSw => ?_) (fun _ => ?_)
    rotate_left
    · ((try dsimp only at hSw); go_simp; (try with_reducible rfl))
    simp only [Act.put, List.setIfInBounds_toArray, List.set_cons_zero, List.set_cons_succ]
    refine held_call 1 (by kernel_rfl) rfl (by rfl) (fun K hK => ?_)
    go_simp
    refine (C1.out _ (HI.out.on (HB2.out.trans (HD.out.mono HB2.out.size)))).mono ?_
    rintro e w3 ⟨⟨v3, rfl, hr3⟩, hb3⟩
    have HD3 := Lib.hid (HD.out.trans (hb3.mono HD.out.size))
    have HR3 := Lib.hid hr3
    clear hb3 hr3
    dsimp only
    refine hK.out _ _ (HS.out _ HD3.out) (fun hHeld => ?_)
    clear hK K
    refine held_call 4 (by kernel_rfl) rfl (by rfl) (fun K hK => ?_)
    go_simp
    refine (C2.out _ (HI.out.on (HB2.out.trans (HD3.out.mono HB2.out.size))).root).mono ?_
    rintro e w4 ⟨⟨v4, rfl, hr4⟩, hb4⟩
    have HD4 := Lib.hid (HD3.out.trans (hb4.mono HD3.out.size))
    obtain ⟨A3, c3, e3, s3, l3, m3⟩ := (HR3.out.on hb4).show
    obtain ⟨A4, c4, e4, s4, l4, m4⟩ := hr4.show
    subst e3 e4
    have CP4 := Lib.hid (CP.out A3 A4 c3 c4 w4 s3 s4 l3 m3 l4 m4)
    clear hb4 hr4 s3 s4
    dsimp only
    refine hK.out _ _ (HS.out _ HD4.out) (fun hHeld => ?_)
    clear hK K
    refine held_call 5 (by kernel_rfl) rfl (by rfl) (fun K hK => ?_)
    go_simp
    refine CP4.out.mono ?_
    rintro e w5 ⟨rfl, hb5⟩
    have HD5 := Lib.hid (HD4.out.trans (hb5.mono HD4.out.size))
    clear hb5
    dsimp only
    refine hK.out _ _ (HS.out _ HD5.out) (fun hHeld => ?_)
    clear hK K
    refine held_take 6 rfl (by kernel_rfl) (by kernel_rfl) (by kernel_rfl) (fun _ _ _ h => h) (by rfl) hHeld (v := ?_) (fun w hSw => ?_) (fun _ => ?_)
    rotate_left
    · ((try dsimp only at hSw); go_simp; (try with_reducible rfl))
    simp only [Act.put, List.setIfInBounds_toArray, List.set_cons_zero, List.set_cons_succ]
    refine wpAnyH_done (by kernel_rfl) ?_ _
    clear hHeld
    have HBZ := Lib.hid (HB2.out.trans (HD5.out.mono HB2.out.size))
    go_wp2
    go_ret
    exact ⟨rfl, HBZ.out⟩
end Go.Proofs.Ytckdddbiffoolaa
