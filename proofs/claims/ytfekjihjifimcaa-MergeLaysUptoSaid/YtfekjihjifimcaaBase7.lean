/-
  Base, part 7: what the proofs of this claim lean on.
-/
import Derived.Test.YtfekjihjifimcaaBase4
import Derived.Test.YtfekjihjifimcaaBase5
import Derived.Test.YtfekjihjifimcaaBase6

/-! Layer 10: the laws MergeLays, MergeTwice, MergeHas, out of what the program's Merge answers (written by mklmerge.py). -/
namespace Go.Proofs.Ytfekjihjifimcaa
open Go.RowKit
set_option linter.unusedVariables false
set_option linter.unusedSimpArgs false

def Awake10 : Prop := ∀ w : World, Calls Try.prog 6 #[] w fun e w' => e = .returned (.bool true) ∧ Below w.heap.size w w'
def MergeOK : Prop := ∀ (b a : Nd) (w : World), a.In w w.heap.size → b.In w w.heap.size → heftN a + heftN b ≤ 1073741824 →
  Calls Try.prog 9 #[a.val, b.val] w fun e w' => (∃ n : Nd, e = .returned n.val ∧ n.In w' w'.heap.size ∧ pureN n = mergeN (pureN b) (pureN a)) ∧ Below w.heap.size w w'
theorem refmergeR (b a : Nd) (w : World) (ha : a.In w w.heap.size) (hb : b.In w w.heap.size) (h : heftN a + heftN b ≤ 1099511627776) :
    Calls Try.prog 10 #[a.val, b.val] w fun e w' => (∃ n : Nd, e = .returned n.val ∧ n.In w' w'.heap.size ∧ pureN n = mergeN (pureN b) (pureN a)) ∧ Below w.heap.size w w' :=
  (refmerge_any b a (fun _ => True) w ha hb (Nd.At.all a) (Nd.At.all b) h).mono fun e w' ⟨⟨n, h1, h2, _, h3⟩, h4⟩ => ⟨⟨n, h1, h2, h3⟩, h4⟩

theorem ndZ_in (w : World) (B : Nat) : (Nd.mk ⟨#[]⟩ none 0 [] none 0 []).In w B :=
  .mk _ ⟨by decide, by simp [Nd.props], by simp [Nd.kids]⟩ (by simp [Nd.props, Nd.pc]) (by simp [Nd.pc]) (by simp [Nd.kids, Nd.kc]) (by simp [Nd.kc]) (fun h => absurd h (by simp [Nd.props])) (fun p h => by simp [Nd.props] at h) (fun h => absurd h (by simp [Nd.kids])) (fun p h => by simp [Nd.kids] at h)
theorem ndZ_heft : heftN (Nd.mk ⟨#[]⟩ none 0 [] none 0 []) = 16 := by simp [heftN, heftL]; rfl
theorem ndZ_pure : pureN (Nd.mk ⟨#[]⟩ none 0 [] none 0 []) = .mk ⟨#[]⟩ [] [] := by rw [pureN_mk]; rfl
set_option maxRecDepth 20000 in
set_option maxHeartbeats 4000000 in
theorem few10_any (n : Nd) (w : World) (hin : n.In w w.heap.size) : Calls Try.prog 7 #[n.val] w fun e w' => (∃ r : Bool, e = .returned (.bool r)) ∧ Below w.heap.size w w' := by
  have C0 := Lib.hid (fun W (h : n.In W W.heap.size) => few_any ⟨0, none, 0, [], n⟩ W ⟨⟨by show (0 : Int) ≤ 0; decide, by show (0 : Int) ≤ _; decide⟩, ⟨by simp, by simp, by simp⟩, fun h => absurd h (by simp), fun r h => by simp at h, h⟩)
  have HI := Lib.hid (fun o => hin.on ((Below.refl w.heap.size w).alloc (Nat.le_refl _) o))
  clear hin
  obtain ⟨nm, pa, pc, ps, ka, kc, ks⟩ := n
  simp only [Tr.val, Tr.rv, Nd.val, Nd.pv, Nd.kv, Nd.name, Nd.pa, Nd.pc, Nd.props, Nd.ka, Nd.kc, Nd.kids, List.length_nil] at C0 ⊢
  have HB := Lib.hid (fun o => (Below.refl w.heap.size w).alloc (Nat.le_refl _) o)
  go_enter Try.func7, Try.ntmps7
  go_wp2_with fail
  refine (C0.out _ (HI.out _)).mono ?_
  rintro e w1 ⟨⟨r, rfl⟩, hb⟩
  have HB1 := Lib.hid ((HB.out _).trans (hb.mono (HB.out _).size))
  clear hb
  go_wp2
  go_ret
  exact ⟨⟨_, rfl⟩, HB1.out⟩


set_option maxRecDepth 100000 in
set_option maxHeartbeats 16000000 in
theorem mergeLays_true (hK : Awake10) (hM : MergeOK) (a b : Nd) (w : World) (hina : a.In w w.heap.size) (hinb : b.In w w.heap.size) (hheft : heftN a + heftN b ≤ 268435456) :
    Calls Try.prog 3 #[a.val, b.val] w fun e w' => e = .returned (.bool true) ∧ Below w.heap.size w w' := by
  have HK := Lib.hid hK
  have HMM := Lib.hid hM
  have HHE := Lib.hid hheft
  have HM := Lib.hid (fun W (h1 : a.In W W.heap.size) (h2 : b.In W W.heap.size) => hM b a W h1 h2 (by omega))
  have HFA := Lib.hid (fun W (h : a.In W W.heap.size) => few10_any a W h)
  have HFB := Lib.hid (fun W (h : b.In W W.heap.size) => few10_any b W h)
  have HIA := Lib.hid hina
  have HIB := Lib.hid hinb
  have HR := Lib.hid (fun W (h1 : a.In W W.heap.size) (h2 : b.In W W.heap.size) => refmergeR b a W h1 h2 (by omega))
  clear hK hM hina hinb
  obtain ⟨nm, pa, pc, ps, ka, kc, ks⟩ := a
  obtain ⟨bn, bpa, bpc, bps, bka, bkc, bks⟩ := b
  simp only [Nd.val, Nd.pv, Nd.kv, Nd.name, Nd.pa, Nd.pc, Nd.props, Nd.ka, Nd.kc, Nd.kids] at HM HFA HFB HR ⊢
  have HB0 := Lib.hid (((Below.refl w.heap.size w).alloc (Nat.le_refl _) (.cells #[.string nm, .slice pa ps.length pc, .slice ka ks.length kc] 25)).alloc (by simp) (.cells #[.string bn, .slice bpa bps.length bpc, .slice bka bks.length bkc] 25))
  have hx : ∀ W, Below (w.heap.size + 1 + 1) ((w.alloc (.cells #[.string nm, .slice pa ps.length pc, .slice ka ks.length kc] 25)).alloc (.cells #[.string bn, .slice bpa bps.length bpc, .slice bka bks.length bkc] 25)) W → (W.cell? ⟨w.heap.size, 0, none⟩ = some (.string nm) ∧ W.cell? ⟨w.heap.size, 1, none⟩ = some (.slice pa ps.length pc) ∧ W.cell? ⟨w.heap.size, 2, none⟩ = some (.slice ka ks.length kc)) ∧ (W.cell? ⟨w.heap.size + 1, 0, none⟩ = some (.string bn) ∧ W.cell? ⟨w.heap.size + 1, 1, none⟩ = some (.slice bpa bps.length bpc) ∧ W.cell? ⟨w.heap.size + 1, 2, none⟩ = some (.slice bka bks.length bkc)) := fun W h => by
    have e1 : (w.alloc (.cells #[.string nm, .slice pa ps.length pc, .slice ka ks.length kc] 25)).heap.size = w.heap.size + 1 := by simp
    have k0 : W.heap[w.heap.size]? = some (.cells #[.string nm, .slice pa ps.length pc, .slice ka ks.length kc] 25 (0, 0)) := (h.block _ (by omega)).trans ((heap_alloc_old _ _ (by simp)).trans (heap_alloc_new w _))
    have k1 : W.heap[w.heap.size + 1]? = some (.cells #[.string bn, .slice bpa bps.length bpc, .slice bka bks.length bkc] 25 (0, 0)) := (h.block _ (by omega)).trans (by rw [← e1]; exact heap_alloc_new _ _)
    refine ⟨⟨?_, ?_, ?_⟩, ?_, ?_, ?_⟩ <;> first | (rw [cell_of_row W _ _ _ _ (0, 0) k0]; rfl) | (rw [cell_of_row W _ _ _ _ (0, 0) k1]; rfl)
  have BX := Lib.hid hx
  have hs0 : w.heap.size + 1 + 1 ≤ ((w.alloc (.cells #[.string nm, .slice pa ps.length pc, .slice ka ks.length kc] 25)).alloc (.cells #[.string bn, .slice bpa bps.length bpc, .slice bka bks.length bkc] 25)).heap.size := by simp
  have HS0 := Lib.hid hs0
  have HW0 := Lib.hid (Below.refl (w.heap.size + 1 + 1) ((w.alloc (.cells #[.string nm, .slice pa ps.length pc, .slice ka ks.length kc] 25)).alloc (.cells #[.string bn, .slice bpa bps.length bpc, .slice bka bks.length bkc] 25)))
  clear hx hs0
  go_enter Try.func3, Try.ntmps3
  go_wp2_with fail
  generalize hWZ : ((w.alloc (.cells #[.string nm, .slice pa ps.length pc, .slice ka ks.length kc] 25)).alloc (.cells #[.string bn, .slice bpa bps.length bpc, .slice bka bks.length bkc] 25)) = WZ at *
  clear hWZ
  have INA := Lib.hid (fun W (h : Below (w.heap.size + 1 + 1) WZ W) => Nd.In.more (show w.heap.size ≤ W.heap.size by have := h.size; have := HS0.out; omega) (Nd.In.under HIA.out (HB0.out.trans (h.mono (by omega)))))
  have INB := Lib.hid (fun W (h : Below (w.heap.size + 1 + 1) WZ W) => Nd.In.more (show w.heap.size ≤ W.heap.size by have := h.size; have := HS0.out; omega) (Nd.In.under HIB.out (HB0.out.trans (h.mono (by omega)))))
  have OUT := Lib.hid (fun W (h : Below (w.heap.size + 1 + 1) WZ W) => HB0.out.trans (h.mono (by omega)))
  have GO := Lib.hid (fun W V (h : Below (w.heap.size + 1 + 1) WZ W) (hb : Below W.heap.size W V) => h.trans (hb.mono (show w.heap.size + 1 + 1 ≤ W.heap.size by have := h.size; have := HS0.out; omega)))
  refine (HK.out _).mono ?_
  rintro e w1 ⟨rfl, hb⟩
  have HB1 := Lib.hid (GO.out _ _ HW0.out hb)
  clear hb
  obtain ⟨⟨x0, x1, x2⟩, ⟨y0, y1, y2⟩⟩ := BX.out _ HB1.out
  go_wp2_with fail
  refine (HFA.out _ (INA.out _ HB1.out)).mono ?_
  rintro e w2 ⟨⟨r, rfl⟩, hb⟩
  have HB2 := Lib.hid (GO.out _ _ HB1.out hb)
  clear hb x0 x1 x2 y0 y1 y2
  obtain ⟨⟨x0, x1, x2⟩, ⟨y0, y1, y2⟩⟩ := BX.out _ HB2.out
  cases r
  · have HBX := HB2
    go_wp2_with fail
    refine (HK.out _).mono ?_
    rintro e w9 ⟨rfl, hb⟩
    have HB9 := Lib.hid (GO.out _ _ HBX.out hb)
    clear hb
    go_wp2
    go_ret
    exact ⟨rfl, OUT.out _ HB9.out⟩
  · skip
    go_wp2_with fail
    refine (HFB.out _ (INB.out _ HB2.out)).mono ?_
    rintro e w3 ⟨⟨r, rfl⟩, hb⟩
    have HB3 := Lib.hid (GO.out _ _ HB2.out hb)
    clear hb x0 x1 x2 y0 y1 y2
    obtain ⟨⟨x0, x1, x2⟩, ⟨y0, y1, y2⟩⟩ := BX.out _ HB3.out
    cases r
    · have HBX := HB3
      go_wp2_with fail
      refine (HK.out _).mono ?_
      rintro e w9 ⟨rfl, hb⟩
      have HB9 := Lib.hid (GO.out _ _ HBX.out hb)
      clear hb
      go_wp2
      go_ret
      exact ⟨rfl, OUT.out _ HB9.out⟩
    · skip
      go_wp2_with fail
      have HD := Lib.hid (HB3.out.drew)
      clear x0 x1 x2 y0 y1 y2
      refine wp_region_held_drew (S := fun W => (W.cell? ⟨w.heap.size, 0, none⟩ = some (.string nm) ∧ W.cell? ⟨w.heap.size, 1, none⟩ = some (.slice pa ps.length pc) ∧ W.cell? ⟨w.heap.size, 2, none⟩ = some (.slice ka ks.length kc)) ∧ (W.cell? ⟨w.heap.size + 1, 0, none⟩ = some (.string bn) ∧ W.cell? ⟨w.heap.size + 1, 1, none⟩ = some (.slice bpa bps.length bpc) ∧ W.cell? ⟨w.heap.size + 1, 2, none⟩ = some (.slice bka bks.length bkc))) (by kernel_rfl) (BX.out _ HD.out) (fun hHeld => ?_)
      refine held_take 0 rfl (by kernel_rfl) (by kernel_rfl) (by kernel_rfl) (fun _ _ _ h => h) (by rfl) hHeld (v := ?_) (fun w hSw => ?_) (fun _ => ?_)
      rotate_left
      · ((try dsimp only at hSw); go_simp; (try with_reducible rfl))
      simp only [Act.put, List.setIfInBounds_toArray, List.set_cons_zero, List.set_cons_succ]
      refine held_take 1 rfl (by kernel_rfl) (by kernel_rfl) (by kernel_rfl) (fun _ _ _ h => h) (by rfl) hHeld (v := ?_) (fun w hSw => ?_) (fun _ => ?_)
      rotate_left
      · ((try dsimp only at hSw); go_simp; (try with_reducible rfl))
      simp only [Act.put, List.setIfInBounds_toArray, List.set_cons_zero, List.set_cons_succ]
      refine held_take 3 rfl (by kernel_rfl) (by kernel_rfl) (by kernel_rfl) (fun _ _ _ h => h) (by rfl) hHeld (v := ?_) (fun w hSw => ?_) (fun _ => ?_)
      rotate_left
      · ((try dsimp only at hSw); go_simp; (try with_reducible rfl))
      simp only [Act.put, List.setIfInBounds_toArray, List.set_cons_zero, List.set_cons_succ]
      refine held_take 4 rfl (by kernel_rfl) (by kernel_rfl) (by kernel_rfl) (fun _ _ _ h => h) (by rfl) hHeld (v := ?_) (fun w hSw => ?_) (fun _ => ?_)
      rotate_left
      · ((try dsimp only at hSw); go_simp; (try with_reducible rfl))
      simp only [Act.put, List.setIfInBounds_toArray, List.set_cons_zero, List.set_cons_succ]
      refine held_call 2 (by kernel_rfl) rfl (by rfl) (fun K hK => ?_)
      go_simp
      refine (HM.out _ (INA.out _ HD.out) (INB.out _ HD.out)).mono ?_
      rintro e w5 ⟨⟨x, rfl, hxin, hxp⟩, hb⟩
      have HB5 := Lib.hid (GO.out _ _ HD.out hb)
      clear hb
      dsimp only
      refine hK.out _ _ (BX.out _ HB5.out) (fun hHeld => ?_)
      clear hK K
      refine held_call 5 (by kernel_rfl) rfl (by rfl) (fun K hK => ?_)
      go_simp
      refine (HR.out _ (INA.out _ HB5.out) (INB.out _ HB5.out)).mono ?_
      rintro e w6 ⟨⟨y, rfl, hyin, hyp⟩, hb⟩
      have HB6 := Lib.hid (GO.out _ _ HB5.out hb)
      have hxin6 := hxin.on hb
      clear hb
      dsimp only
      refine hK.out _ _ (BX.out _ HB6.out) (fun hHeld => ?_)
      clear hK K
      refine held_call 6 (by kernel_rfl) rfl (by rfl) (fun K hK => ?_)
      go_simp
      refine (refsame_any x y _ hxin6 hyin true (same_pure x y (hxp.trans hyp.symm))).mono ?_
      rintro e w7 ⟨rfl, hb⟩
      have HB7 := Lib.hid (GO.out _ _ HB6.out hb)
      clear hb
      dsimp only
      refine hK.out _ _ (BX.out _ HB7.out) (fun hHeld => ?_)
      clear hK K
      refine held_take 7 rfl (by kernel_rfl) (by kernel_rfl) (by kernel_rfl) (fun _ _ _ h => h) (by rfl) hHeld (v := ?_) (fun w hSw => ?_) (fun _ => ?_)
      rotate_left
      · ((try dsimp only at hSw); go_simp; (try with_reducible rfl))
      simp only [Act.put, List.setIfInBounds_toArray, List.set_cons_zero, List.set_cons_succ]
      refine wpAnyH_done (by kernel_rfl) ?_ _
      clear hHeld
      go_wp2
      go_ret
      exact ⟨rfl, OUT.out _ HB7.out⟩

set_option maxRecDepth 100000 in
set_option maxHeartbeats 16000000 in
theorem mergeTwice_true (hK : Awake10) (hM : MergeOK) (a b : Nd) (w : World) (hina : a.In w w.heap.size) (hinb : b.In w w.heap.size) (hheft : heftN a + heftN b ≤ 268435456) :
    Calls Try.prog 4 #[a.val, b.val] w fun e w' => e = .returned (.bool true) ∧ Below w.heap.size w w' := by
  have HK := Lib.hid hK
  have HMM := Lib.hid hM
  have HHE := Lib.hid hheft
  have HM := Lib.hid (fun W (h1 : a.In W W.heap.size) (h2 : b.In W W.heap.size) => hM b a W h1 h2 (by omega))
  have HFA := Lib.hid (fun W (h : a.In W W.heap.size) => few10_any a W h)
  have HFB := Lib.hid (fun W (h : b.In W W.heap.size) => few10_any b W h)
  have HIA := Lib.hid hina
  have HIB := Lib.hid hinb
  have HUA := Lib.hid (fun W (h : a.In W W.heap.size) => unique_any a W h)
  have HUB := Lib.hid (fun W (h : b.In W W.heap.size) => unique_any b W h)
  clear hK hM hina hinb
  obtain ⟨nm, pa, pc, ps, ka, kc, ks⟩ := a
  obtain ⟨bn, bpa, bpc, bps, bka, bkc, bks⟩ := b
  simp only [Nd.val, Nd.pv, Nd.kv, Nd.name, Nd.pa, Nd.pc, Nd.props, Nd.ka, Nd.kc, Nd.kids] at HM HFA HFB HUA HUB ⊢
  have HB0 := Lib.hid (((Below.refl w.heap.size w).alloc (Nat.le_refl _) (.cells #[.string nm, .slice pa ps.length pc, .slice ka ks.length kc] 25)).alloc (by simp) (.cells #[.string bn, .slice bpa bps.length bpc, .slice bka bks.length bkc] 25))
  have hx : ∀ W, Below (w.heap.size + 1 + 1) ((w.alloc (.cells #[.string nm, .slice pa ps.length pc, .slice ka ks.length kc] 25)).alloc (.cells #[.string bn, .slice bpa bps.length bpc, .slice bka bks.length bkc] 25)) W → (W.cell? ⟨w.heap.size, 0, none⟩ = some (.string nm) ∧ W.cell? ⟨w.heap.size, 1, none⟩ = some (.slice pa ps.length pc) ∧ W.cell? ⟨w.heap.size, 2, none⟩ = some (.slice ka ks.length kc)) ∧ (W.cell? ⟨w.heap.size + 1, 0, none⟩ = some (.string bn) ∧ W.cell? ⟨w.heap.size + 1, 1, none⟩ = some (.slice bpa bps.length bpc) ∧ W.cell? ⟨w.heap.size + 1, 2, none⟩ = some (.slice bka bks.length bkc)) := fun W h => by
    have e1 : (w.alloc (.cells #[.string nm, .slice pa ps.length pc, .slice ka ks.length kc] 25)).heap.size = w.heap.size + 1 := by simp
    have k0 : W.heap[w.heap.size]? = some (.cells #[.string nm, .slice pa ps.length pc, .slice ka ks.length kc] 25 (0, 0)) := (h.block _ (by omega)).trans ((heap_alloc_old _ _ (by simp)).trans (heap_alloc_new w _))
    have k1 : W.heap[w.heap.size + 1]? = some (.cells #[.string bn, .slice bpa bps.length bpc, .slice bka bks.length bkc] 25 (0, 0)) := (h.block _ (by omega)).trans (by rw [← e1]; exact heap_alloc_new _ _)
    refine ⟨⟨?_, ?_, ?_⟩, ?_, ?_, ?_⟩ <;> first | (rw [cell_of_row W _ _ _ _ (0, 0) k0]; rfl) | (rw [cell_of_row W _ _ _ _ (0, 0) k1]; rfl)
  have BX := Lib.hid hx
  have hs0 : w.heap.size + 1 + 1 ≤ ((w.alloc (.cells #[.string nm, .slice pa ps.length pc, .slice ka ks.length kc] 25)).alloc (.cells #[.string bn, .slice bpa bps.length bpc, .slice bka bks.length bkc] 25)).heap.size := by simp
  have HS0 := Lib.hid hs0
  have HW0 := Lib.hid (Below.refl (w.heap.size + 1 + 1) ((w.alloc (.cells #[.string nm, .slice pa ps.length pc, .slice ka ks.length kc] 25)).alloc (.cells #[.string bn, .slice bpa bps.length bpc, .slice bka bks.length bkc] 25)))
  clear hx hs0
  go_enter Try.func4, Try.ntmps4
  go_wp2_with fail
  generalize hWZ : ((w.alloc (.cells #[.string nm, .slice pa ps.length pc, .slice ka ks.length kc] 25)).alloc (.cells #[.string bn, .slice bpa bps.length bpc, .slice bka bks.length bkc] 25)) = WZ at *
  clear hWZ
  have INA := Lib.hid (fun W (h : Below (w.heap.size + 1 + 1) WZ W) => Nd.In.more (show w.heap.size ≤ W.heap.size by have := h.size; have := HS0.out; omega) (Nd.In.under HIA.out (HB0.out.trans (h.mono (by omega)))))
  have INB := Lib.hid (fun W (h : Below (w.heap.size + 1 + 1) WZ W) => Nd.In.more (show w.heap.size ≤ W.heap.size by have := h.size; have := HS0.out; omega) (Nd.In.under HIB.out (HB0.out.trans (h.mono (by omega)))))
  have OUT := Lib.hid (fun W (h : Below (w.heap.size + 1 + 1) WZ W) => HB0.out.trans (h.mono (by omega)))
  have GO := Lib.hid (fun W V (h : Below (w.heap.size + 1 + 1) WZ W) (hb : Below W.heap.size W V) => h.trans (hb.mono (show w.heap.size + 1 + 1 ≤ W.heap.size by have := h.size; have := HS0.out; omega)))
  refine (HK.out _).mono ?_
  rintro e w1 ⟨rfl, hb⟩
  have HB1 := Lib.hid (GO.out _ _ HW0.out hb)
  clear hb
  obtain ⟨⟨x0, x1, x2⟩, ⟨y0, y1, y2⟩⟩ := BX.out _ HB1.out
  go_wp2_with fail
  refine (HFA.out _ (INA.out _ HB1.out)).mono ?_
  rintro e w2 ⟨⟨r, rfl⟩, hb⟩
  have HB2 := Lib.hid (GO.out _ _ HB1.out hb)
  clear hb x0 x1 x2 y0 y1 y2
  obtain ⟨⟨x0, x1, x2⟩, ⟨y0, y1, y2⟩⟩ := BX.out _ HB2.out
  cases r
  · have HBX := HB2
    go_wp2_with fail
    refine (HK.out _).mono ?_
    rintro e w9 ⟨rfl, hb⟩
    have HB9 := Lib.hid (GO.out _ _ HBX.out hb)
    clear hb
    go_wp2
    go_ret
    exact ⟨rfl, OUT.out _ HB9.out⟩
  · skip
    go_wp2_with fail
    refine (HFB.out _ (INB.out _ HB2.out)).mono ?_
    rintro e w3 ⟨⟨r, rfl⟩, hb⟩
    have HB3 := Lib.hid (GO.out _ _ HB2.out hb)
    clear hb x0 x1 x2 y0 y1 y2
    obtain ⟨⟨x0, x1, x2⟩, ⟨y0, y1, y2⟩⟩ := BX.out _ HB3.out
    cases r
    · have HBX := HB3
      go_wp2_with fail
      refine (HK.out _).mono ?_
      rintro e w9 ⟨rfl, hb⟩
      have HB9 := Lib.hid (GO.out _ _ HBX.out hb)
      clear hb
      go_wp2
      go_ret
      exact ⟨rfl, OUT.out _ HB9.out⟩
    · skip
      go_wp2_with fail
      refine (HUA.out _ (INA.out _ HB3.out)).mono ?_
      rintro e w4 ⟨⟨r, rfl, hu⟩, hb⟩
      have HB4 := Lib.hid (GO.out _ _ HB3.out hb)
      clear hb x0 x1 x2 y0 y1 y2
      obtain ⟨⟨x0, x1, x2⟩, ⟨y0, y1, y2⟩⟩ := BX.out _ HB4.out
      cases r
      · have HBX := HB4
        go_wp2_with fail
        refine (HK.out _).mono ?_
        rintro e w9 ⟨rfl, hb⟩
        have HB9 := Lib.hid (GO.out _ _ HBX.out hb)
        clear hb
        go_wp2
        go_ret
        exact ⟨rfl, OUT.out _ HB9.out⟩
      · have HUA2 := Lib.hid (hu.1 rfl)
        clear hu
        go_wp2_with fail
        refine (HUB.out _ (INB.out _ HB4.out)).mono ?_
        rintro e w5 ⟨⟨r, rfl, hu⟩, hb⟩
        have HB5 := Lib.hid (GO.out _ _ HB4.out hb)
        clear hb x0 x1 x2 y0 y1 y2
        obtain ⟨⟨x0, x1, x2⟩, ⟨y0, y1, y2⟩⟩ := BX.out _ HB5.out
        cases r
        · have HBX := HB5
          go_wp2_with fail
          refine (HK.out _).mono ?_
          rintro e w9 ⟨rfl, hb⟩
          have HB9 := Lib.hid (GO.out _ _ HBX.out hb)
          clear hb
          go_wp2
          go_ret
          exact ⟨rfl, OUT.out _ HB9.out⟩
        · have HUB2 := Lib.hid (hu.1 rfl)
          clear hu
          go_wp2_with fail
          refine (HM.out _ (INA.out _ HB5.out) (INB.out _ HB5.out)).mono ?_
          rintro e w6 ⟨⟨x, rfl, hxin, hxp⟩, hb⟩
          have HB6 := Lib.hid (GO.out _ _ HB5.out hb)
          clear hb x0 x1 x2 y0 y1 y2
          have HXP := Lib.hid hxp
          have HXIN := Lib.hid (fun V (hV : Below w6.heap.size w6 V) => hxin.on hV)
          have HXH : Hid (heftN x ≤ 268435456) := Lib.hid (by
            rw [heft_hp, hxp]
            have h1 := hp_merge (pureN (.mk bn bpa bpc bps bka bkc bks)) (pureN (.mk nm pa pc ps ka kc ks))
            have h2 := HHE.out
            rw [heft_hp, heft_hp] at h2
            omega)
          have HXI := Lib.hid hxin
          clear hxp hxin
          obtain ⟨xn, xpa, xpc, xps, xka, xkc, xks⟩ := x
          simp only [Nd.val, Nd.pv, Nd.kv, Nd.name, Nd.pa, Nd.pc, Nd.props, Nd.ka, Nd.kc, Nd.kids]
          have hgo : w.heap.size + 1 + 1 ≤ w6.heap.size := by have := HB6.out.size; have := HS0.out; omega
          have HB7 := Lib.hid (HB6.out.alloc hgo (.cells #[.string xn, .slice xpa xps.length xpc, .slice xka xks.length xkc] 25))
          have HGO7 : Hid (∀ V, Below (w6.heap.size + 1) (w6.alloc (.cells #[.string xn, .slice xpa xps.length xpc, .slice xka xks.length xkc] 25)) V → Below (w.heap.size + 1 + 1) WZ V ∧ (V.cell? ⟨w6.heap.size, 0, none⟩ = some (.string xn) ∧ V.cell? ⟨w6.heap.size, 1, none⟩ = some (.slice xpa xps.length xpc) ∧ V.cell? ⟨w6.heap.size, 2, none⟩ = some (.slice xka xks.length xkc)) ∧ (Nd.mk xn xpa xpc xps xka xkc xks).In V V.heap.size) := Lib.hid (fun V h => ⟨HB7.out.trans (h.mono (by omega)),
            ⟨(h.cell (Nat.lt_succ_self _)).trans (World.cell?_alloc_new _ _ _ _), (h.cell (Nat.lt_succ_self _)).trans (World.cell?_alloc_new _ _ _ _), (h.cell (Nat.lt_succ_self _)).trans (World.cell?_alloc_new _ _ _ _)⟩,
            HXIN.out V (((Below.refl _ _).alloc (Nat.le_refl _) _).trans (h.mono (Nat.le_succ _)))⟩)
          have HP7 := Lib.hid (Below.refl (w6.heap.size + 1) (w6.alloc (.cells #[.string xn, .slice xpa xps.length xpc, .slice xka xks.length xkc] 25)))
          have HPG := Lib.hid (fun V W (h : Below (w6.heap.size + 1) (w6.alloc (.cells #[.string xn, .slice xpa xps.length xpc, .slice xka xks.length xkc] 25)) V) (hb : Below V.heap.size V W) => h.trans (hb.mono (by have := h.size; simp at this; omega)))
          have HSX : Hid (∀ V, Below (w6.heap.size + 1) (w6.alloc (.cells #[.string xn, .slice xpa xps.length xpc, .slice xka xks.length xkc] 25)) V → ((V.cell? ⟨w.heap.size, 0, none⟩ = some (.string nm) ∧ V.cell? ⟨w.heap.size, 1, none⟩ = some (.slice pa ps.length pc) ∧ V.cell? ⟨w.heap.size, 2, none⟩ = some (.slice ka ks.length kc)) ∧ (V.cell? ⟨w.heap.size + 1, 0, none⟩ = some (.string bn) ∧ V.cell? ⟨w.heap.size + 1, 1, none⟩ = some (.slice bpa bps.length bpc) ∧ V.cell? ⟨w.heap.size + 1, 2, none⟩ = some (.slice bka bks.length bkc))) ∧ (V.cell? ⟨w6.heap.size, 0, none⟩ = some (.string xn) ∧ V.cell? ⟨w6.heap.size, 1, none⟩ = some (.slice xpa xps.length xpc) ∧ V.cell? ⟨w6.heap.size, 2, none⟩ = some (.slice xka xks.length xkc))) := Lib.hid (fun V h => ⟨BX.out V (HGO7.out V h).1, (HGO7.out V h).2.1⟩)
          have HD := Lib.hid (HPG.out _ _ HP7.out (Below.refl _ _).drew)
          go_wp2_with fail
          refine wp_region_held_drew (S := fun V => ((V.cell? ⟨w.heap.size, 0, none⟩ = some (.string nm) ∧ V.cell? ⟨w.heap.size, 1, none⟩ = some (.slice pa ps.length pc) ∧ V.cell? ⟨w.heap.size, 2, none⟩ = some (.slice ka ks.length kc)) ∧ (V.cell? ⟨w.heap.size + 1, 0, none⟩ = some (.string bn) ∧ V.cell? ⟨w.heap.size + 1, 1, none⟩ = some (.slice bpa bps.length bpc) ∧ V.cell? ⟨w.heap.size + 1, 2, none⟩ = some (.slice bka bks.length bkc))) ∧ (V.cell? ⟨w6.heap.size, 0, none⟩ = some (.string xn) ∧ V.cell? ⟨w6.heap.size, 1, none⟩ = some (.slice xpa xps.length xpc) ∧ V.cell? ⟨w6.heap.size, 2, none⟩ = some (.slice xka xks.length xkc))) (by kernel_rfl) (HSX.out _ HD.out) (fun hHeld => ?_)
          refine held_take 0 rfl (by kernel_rfl) (by kernel_rfl) (by kernel_rfl) (fun _ _ _ h => h) (by rfl) hHeld (v := ?_) (fun w hSw => ?_) (fun _ => ?_)
          rotate_left
          · ((try dsimp only at hSw); go_simp; (try with_reducible rfl))
          simp only [Act.put, List.setIfInBounds_toArray, List.set_cons_zero, List.set_cons_succ]
          refine held_take 1 rfl (by kernel_rfl) (by kernel_rfl) (by kernel_rfl) (fun _ _ _ h => h) (by rfl) hHeld (v := ?_) (fun w hSw => ?_) (fun _ => ?_)
          rotate_left
          · ((try dsimp only at hSw); go_simp; (try with_reducible rfl))
          simp only [Act.put, List.setIfInBounds_toArray, List.set_cons_zero, List.set_cons_succ]
          refine held_take 3 rfl (by kernel_rfl) (by kernel_rfl) (by kernel_rfl) (fun _ _ _ h => h) (by rfl) hHeld (v := ?_) (fun w hSw => ?_) (fun _ => ?_)
          rotate_left
          · ((try dsimp only at hSw); go_simp; (try with_reducible rfl))
          simp only [Act.put, List.setIfInBounds_toArray, List.set_cons_zero, List.set_cons_succ]
          refine held_call 2 (by kernel_rfl) rfl (by rfl) (fun K hK => ?_)
          go_simp
          refine (HMM.out (.mk bn bpa bpc bps bka bkc bks) (.mk xn xpa xpc xps xka xkc xks) _ (HGO7.out _ HD.out).2.2 (INB.out _ (HGO7.out _ HD.out).1) (by have := HXH.out; have := HHE.out; omega)).mono ?_
          rintro e w8 ⟨⟨y, rfl, hyin, hyp⟩, hb⟩
          have HD8 := Lib.hid (HPG.out _ _ HD.out hb)
          clear hb
          dsimp only
          refine hK.out _ _ (HSX.out _ HD8.out) (fun hHeld => ?_)
          clear hK K
          refine held_call 4 (by kernel_rfl) rfl (by rfl) (fun K hK => ?_)
          go_simp
          refine (refsame_any y (.mk xn xpa xpc xps xka xkc xks) _ hyin (HGO7.out _ HD8.out).2.2 true (same_pure y _ (by rw [hyp, HXP.out, merge_twice _ HUB2.out]))).mono ?_
          rintro e w9 ⟨rfl, hb⟩
          have HD9 := Lib.hid (HPG.out _ _ HD8.out hb)
          clear hb hyin hyp
          dsimp only
          refine hK.out _ _ (HSX.out _ HD9.out) (fun hHeld => ?_)
          clear hK K
          refine held_take 5 rfl (by kernel_rfl) (by kernel_rfl) (by kernel_rfl) (fun _ _ _ h => h) (by rfl) hHeld (v := ?_) (fun w hSw => ?_) (fun _ => ?_)
          rotate_left
          · ((try dsimp only at hSw); go_simp; (try with_reducible rfl))
          simp only [Act.put, List.setIfInBounds_toArray, List.set_cons_zero, List.set_cons_succ]
          refine held_take 6 rfl (by kernel_rfl) (by kernel_rfl) (by kernel_rfl) (fun _ _ _ h => h) (by rfl) hHeld (v := ?_) (fun w hSw => ?_) (fun _ => ?_)
          rotate_left
          · ((try dsimp only at hSw); go_simp; (try with_reducible rfl))
          simp only [Act.put, List.setIfInBounds_toArray, List.set_cons_zero, List.set_cons_succ]
          refine held_take 7 rfl (by kernel_rfl) (by kernel_rfl) (by kernel_rfl) (fun _ _ _ h => h) (by rfl) hHeld (v := ?_) (fun w hSw => ?_) (fun _ => ?_)
          rotate_left
          · ((try dsimp only at hSw); go_simp; (try with_reducible rfl))
          simp only [Act.put, List.setIfInBounds_toArray, List.set_cons_zero, List.set_cons_succ]
          refine held_take 9 rfl (by kernel_rfl) (by kernel_rfl) (by kernel_rfl) (fun _ _ _ h => h) (by rfl) hHeld (v := ?_) (fun w hSw => ?_) (fun _ => ?_)
          rotate_left
          · ((try dsimp only at hSw); go_simp; (try with_reducible rfl))
          simp only [Act.put, List.setIfInBounds_toArray, List.set_cons_zero, List.set_cons_succ]
          refine held_call 8 (by kernel_rfl) rfl (by rfl) (fun K hK => ?_)
          go_simp
          refine (HMM.out (.mk ⟨#[]⟩ none 0 [] none 0 []) (.mk nm pa pc ps ka kc ks) _ (INA.out _ (HGO7.out _ HD9.out).1) (ndZ_in _ _) (by have := HHE.out; rw [ndZ_heft]; omega)).mono ?_
          rintro e w10 ⟨⟨z, rfl, hzin, hzp⟩, hb⟩
          have HD10 := Lib.hid (HPG.out _ _ HD9.out hb)
          clear hb
          dsimp only
          refine hK.out _ _ (HSX.out _ HD10.out) (fun hHeld => ?_)
          clear hK K
          refine held_call 10 (by kernel_rfl) rfl (by rfl) (fun K hK => ?_)
          go_simp
          refine (refsame_any z (.mk nm pa pc ps ka kc ks) _ hzin (INA.out _ (HGO7.out _ HD10.out).1) true (same_pure z _ (by rw [hzp, ndZ_pure, merge_nil]))).mono ?_
          rintro e w11 ⟨rfl, hb⟩
          have HD11 := Lib.hid (HPG.out _ _ HD10.out hb)
          clear hb
          dsimp only
          refine hK.out _ _ (HSX.out _ HD11.out) (fun hHeld => ?_)
          clear hK K
          refine held_take 11 rfl (by kernel_rfl) (by kernel_rfl) (by kernel_rfl) (fun _ _ _ h => h) (by rfl) hHeld (v := ?_) (fun w hSw => ?_) (fun _ => ?_)
          rotate_left
          · ((try dsimp only at hSw); go_simp; (try with_reducible rfl))
          simp only [Act.put, List.setIfInBounds_toArray, List.set_cons_zero, List.set_cons_succ]
          refine held_take 12 rfl (by kernel_rfl) (by kernel_rfl) (by kernel_rfl) (fun _ _ _ h => h) (by rfl) hHeld (v := ?_) (fun w hSw => ?_) (fun _ => ?_)
          rotate_left
          · ((try dsimp only at hSw); go_simp; (try with_reducible rfl))
          simp only [Act.put, List.setIfInBounds_toArray, List.set_cons_zero, List.set_cons_succ]
          refine wpAnyH_done (by kernel_rfl) ?_ _
          clear hHeld
          go_wp2
          go_ret
          exact ⟨rfl, OUT.out _ (HGO7.out _ HD11.out).1⟩

set_option maxRecDepth 100000 in
set_option maxHeartbeats 16000000 in
theorem mergeHas_true (hK : Awake10) (hM : MergeOK) (a b : Nd) (w : World) (hina : a.In w w.heap.size) (hinb : b.In w w.heap.size) (hheft : heftN a + heftN b ≤ 268435456) :
    Calls Try.prog 5 #[a.val, b.val] w fun e w' => e = .returned (.bool true) ∧ Below w.heap.size w w' := by
  have HK := Lib.hid hK
  have HMM := Lib.hid hM
  have HHE := Lib.hid hheft
  have HM := Lib.hid (fun W (h1 : a.In W W.heap.size) (h2 : b.In W W.heap.size) => hM b a W h1 h2 (by omega))
  have HFA := Lib.hid (fun W (h : a.In W W.heap.size) => few10_any a W h)
  have HFB := Lib.hid (fun W (h : b.In W W.heap.size) => few10_any b W h)
  have HIA := Lib.hid hina
  have HIB := Lib.hid hinb
  have HUA := Lib.hid (fun W (h : a.In W W.heap.size) => unique_any a W h)
  have HUB := Lib.hid (fun W (h : b.In W W.heap.size) => unique_any b W h)
  clear hK hM hina hinb
  obtain ⟨nm, pa, pc, ps, ka, kc, ks⟩ := a
  obtain ⟨bn, bpa, bpc, bps, bka, bkc, bks⟩ := b
  simp only [Nd.val, Nd.pv, Nd.kv, Nd.name, Nd.pa, Nd.pc, Nd.props, Nd.ka, Nd.kc, Nd.kids] at HM HFA HFB HUA HUB ⊢
  have HB0 := Lib.hid (((Below.refl w.heap.size w).alloc (Nat.le_refl _) (.cells #[.string nm, .slice pa ps.length pc, .slice ka ks.length kc] 25)).alloc (by simp) (.cells #[.string bn, .slice bpa bps.length bpc, .slice bka bks.length bkc] 25))
  have hx : ∀ W, Below (w.heap.size + 1 + 1) ((w.alloc (.cells #[.string nm, .slice pa ps.length pc, .slice ka ks.length kc] 25)).alloc (.cells #[.string bn, .slice bpa bps.length bpc, .slice bka bks.length bkc] 25)) W → (W.cell? ⟨w.heap.size, 0, none⟩ = some (.string nm) ∧ W.cell? ⟨w.heap.size, 1, none⟩ = some (.slice pa ps.length pc) ∧ W.cell? ⟨w.heap.size, 2, none⟩ = some (.slice ka ks.length kc)) ∧ (W.cell? ⟨w.heap.size + 1, 0, none⟩ = some (.string bn) ∧ W.cell? ⟨w.heap.size + 1, 1, none⟩ = some (.slice bpa bps.length bpc) ∧ W.cell? ⟨w.heap.size + 1, 2, none⟩ = some (.slice bka bks.length bkc)) := fun W h => by
    have e1 : (w.alloc (.cells #[.string nm, .slice pa ps.length pc, .slice ka ks.length kc] 25)).heap.size = w.heap.size + 1 := by simp
    have k0 : W.heap[w.heap.size]? = some (.cells #[.string nm, .slice pa ps.length pc, .slice ka ks.length kc] 25 (0, 0)) := (h.block _ (by omega)).trans ((heap_alloc_old _ _ (by simp)).trans (heap_alloc_new w _))
    have k1 : W.heap[w.heap.size + 1]? = some (.cells #[.string bn, .slice bpa bps.length bpc, .slice bka bks.length bkc] 25 (0, 0)) := (h.block _ (by omega)).trans (by rw [← e1]; exact heap_alloc_new _ _)
    refine ⟨⟨?_, ?_, ?_⟩, ?_, ?_, ?_⟩ <;> first | (rw [cell_of_row W _ _ _ _ (0, 0) k0]; rfl) | (rw [cell_of_row W _ _ _ _ (0, 0) k1]; rfl)
  have BX := Lib.hid hx
  have hs0 : w.heap.size + 1 + 1 ≤ ((w.alloc (.cells #[.string nm, .slice pa ps.length pc, .slice ka ks.length kc] 25)).alloc (.cells #[.string bn, .slice bpa bps.length bpc, .slice bka bks.length bkc] 25)).heap.size := by simp
  have HS0 := Lib.hid hs0
  have HW0 := Lib.hid (Below.refl (w.heap.size + 1 + 1) ((w.alloc (.cells #[.string nm, .slice pa ps.length pc, .slice ka ks.length kc] 25)).alloc (.cells #[.string bn, .slice bpa bps.length bpc, .slice bka bks.length bkc] 25)))
  clear hx hs0
  go_enter Try.func5, Try.ntmps5
  go_wp2_with fail
  generalize hWZ : ((w.alloc (.cells #[.string nm, .slice pa ps.length pc, .slice ka ks.length kc] 25)).alloc (.cells #[.string bn, .slice bpa bps.length bpc, .slice bka bks.length bkc] 25)) = WZ at *
  clear hWZ
  have INA := Lib.hid (fun W (h : Below (w.heap.size + 1 + 1) WZ W) => Nd.In.more (show w.heap.size ≤ W.heap.size by have := h.size; have := HS0.out; omega) (Nd.In.under HIA.out (HB0.out.trans (h.mono (by omega)))))
  have INB := Lib.hid (fun W (h : Below (w.heap.size + 1 + 1) WZ W) => Nd.In.more (show w.heap.size ≤ W.heap.size by have := h.size; have := HS0.out; omega) (Nd.In.under HIB.out (HB0.out.trans (h.mono (by omega)))))
  have OUT := Lib.hid (fun W (h : Below (w.heap.size + 1 + 1) WZ W) => HB0.out.trans (h.mono (by omega)))
  have GO := Lib.hid (fun W V (h : Below (w.heap.size + 1 + 1) WZ W) (hb : Below W.heap.size W V) => h.trans (hb.mono (show w.heap.size + 1 + 1 ≤ W.heap.size by have := h.size; have := HS0.out; omega)))
  refine (HK.out _).mono ?_
  rintro e w1 ⟨rfl, hb⟩
  have HB1 := Lib.hid (GO.out _ _ HW0.out hb)
  clear hb
  obtain ⟨⟨x0, x1, x2⟩, ⟨y0, y1, y2⟩⟩ := BX.out _ HB1.out
  go_wp2_with fail
  refine (HFA.out _ (INA.out _ HB1.out)).mono ?_
  rintro e w2 ⟨⟨r, rfl⟩, hb⟩
  have HB2 := Lib.hid (GO.out _ _ HB1.out hb)
  clear hb x0 x1 x2 y0 y1 y2
  obtain ⟨⟨x0, x1, x2⟩, ⟨y0, y1, y2⟩⟩ := BX.out _ HB2.out
  cases r
  · have HBX := HB2
    go_wp2_with fail
    refine (HK.out _).mono ?_
    rintro e w9 ⟨rfl, hb⟩
    have HB9 := Lib.hid (GO.out _ _ HBX.out hb)
    clear hb
    go_wp2
    go_ret
    exact ⟨rfl, OUT.out _ HB9.out⟩
  · skip
    go_wp2_with fail
    refine (HFB.out _ (INB.out _ HB2.out)).mono ?_
    rintro e w3 ⟨⟨r, rfl⟩, hb⟩
    have HB3 := Lib.hid (GO.out _ _ HB2.out hb)
    clear hb x0 x1 x2 y0 y1 y2
    obtain ⟨⟨x0, x1, x2⟩, ⟨y0, y1, y2⟩⟩ := BX.out _ HB3.out
    cases r
    · have HBX := HB3
      go_wp2_with fail
      refine (HK.out _).mono ?_
      rintro e w9 ⟨rfl, hb⟩
      have HB9 := Lib.hid (GO.out _ _ HBX.out hb)
      clear hb
      go_wp2
      go_ret
      exact ⟨rfl, OUT.out _ HB9.out⟩
    · skip
      go_wp2_with fail
      refine (HUA.out _ (INA.out _ HB3.out)).mono ?_
      rintro e w4 ⟨⟨r, rfl, hu⟩, hb⟩
      have HB4 := Lib.hid (GO.out _ _ HB3.out hb)
      clear hb x0 x1 x2 y0 y1 y2
      obtain ⟨⟨x0, x1, x2⟩, ⟨y0, y1, y2⟩⟩ := BX.out _ HB4.out
      cases r
      · have HBX := HB4
        go_wp2_with fail
        refine (HK.out _).mono ?_
        rintro e w9 ⟨rfl, hb⟩
        have HB9 := Lib.hid (GO.out _ _ HBX.out hb)
        clear hb
        go_wp2
        go_ret
        exact ⟨rfl, OUT.out _ HB9.out⟩
      · have HUA2 := Lib.hid (hu.1 rfl)
        clear hu
        go_wp2_with fail
        refine (HUB.out _ (INB.out _ HB4.out)).mono ?_
        rintro e w5 ⟨⟨r, rfl, hu⟩, hb⟩
        have HB5 := Lib.hid (GO.out _ _ HB4.out hb)
        clear hb x0 x1 x2 y0 y1 y2
        obtain ⟨⟨x0, x1, x2⟩, ⟨y0, y1, y2⟩⟩ := BX.out _ HB5.out
        cases r
        · have HBX := HB5
          go_wp2_with fail
          refine (HK.out _).mono ?_
          rintro e w9 ⟨rfl, hb⟩
          have HB9 := Lib.hid (GO.out _ _ HBX.out hb)
          clear hb
          go_wp2
          go_ret
          exact ⟨rfl, OUT.out _ HB9.out⟩
        · have HUB2 := Lib.hid (hu.1 rfl)
          clear hu
          go_wp2_with fail
          refine (HM.out _ (INA.out _ HB5.out) (INB.out _ HB5.out)).mono ?_
          rintro e w6 ⟨⟨x, rfl, hxin, hxp⟩, hb⟩
          have HB6 := Lib.hid (GO.out _ _ HB5.out hb)
          clear hb x0 x1 x2 y0 y1 y2
          have HXP := Lib.hid hxp
          have HXIN := Lib.hid (fun V (hV : Below w6.heap.size w6 V) => hxin.on hV)
          have HXH : Hid (heftN x ≤ 268435456) := Lib.hid (by
            rw [heft_hp, hxp]
            have h1 := hp_merge (pureN (.mk bn bpa bpc bps bka bkc bks)) (pureN (.mk nm pa pc ps ka kc ks))
            have h2 := HHE.out
            rw [heft_hp, heft_hp] at h2
            omega)
          have HXI := Lib.hid hxin
          clear hxp hxin
          obtain ⟨xn, xpa, xpc, xps, xka, xkc, xks⟩ := x
          simp only [Nd.val, Nd.pv, Nd.kv, Nd.name, Nd.pa, Nd.pc, Nd.props, Nd.ka, Nd.kc, Nd.kids]
          have hgo : w.heap.size + 1 + 1 ≤ w6.heap.size := by have := HB6.out.size; have := HS0.out; omega
          have HB7 := Lib.hid (HB6.out.alloc hgo (.cells #[.string xn, .slice xpa xps.length xpc, .slice xka xks.length xkc] 25))
          have HGO7 : Hid (∀ V, Below (w6.heap.size + 1) (w6.alloc (.cells #[.string xn, .slice xpa xps.length xpc, .slice xka xks.length xkc] 25)) V → Below (w.heap.size + 1 + 1) WZ V ∧ (V.cell? ⟨w6.heap.size, 0, none⟩ = some (.string xn) ∧ V.cell? ⟨w6.heap.size, 1, none⟩ = some (.slice xpa xps.length xpc) ∧ V.cell? ⟨w6.heap.size, 2, none⟩ = some (.slice xka xks.length xkc)) ∧ (Nd.mk xn xpa xpc xps xka xkc xks).In V V.heap.size) := Lib.hid (fun V h => ⟨HB7.out.trans (h.mono (by omega)),
            ⟨(h.cell (Nat.lt_succ_self _)).trans (World.cell?_alloc_new _ _ _ _), (h.cell (Nat.lt_succ_self _)).trans (World.cell?_alloc_new _ _ _ _), (h.cell (Nat.lt_succ_self _)).trans (World.cell?_alloc_new _ _ _ _)⟩,
            HXIN.out V (((Below.refl _ _).alloc (Nat.le_refl _) _).trans (h.mono (Nat.le_succ _)))⟩)
          have HMER := HXP.out
          rw [pureN_mk, pureN_mk, pureN_mk, mergeN, PN.mk.injEq] at HMER
          replace HMER : xn = nm ∧ xps.map PV.pure = (bps.map PV.pure).foldl putP (ps.map PV.pure) ∧ xks.map pureN = mergeL (bks.map pureN) (ks.map pureN) := HMER
          obtain ⟨hnm, hmp, hmk⟩ := HMER
          have HUX : Hid (UniqN (pureN (.mk xn xpa xpc xps xka xkc xks))) := Lib.hid (by rw [HXP.out]; exact merge_uniq _ HUB2.out _ HUA2.out)
          have huB := HUB2.out
          rw [pureN_mk] at huB
          obtain ⟨huB1, huB2, _⟩ := uniq_mk huB
          replace huB1 : ((bps.map PV.pure).map Prod.fst).Nodup := huB1
          replace huB2 : ((bks.map pureN).map PN.name).Nodup := huB2
          have HL1 : Hid (∀ i (h : i < ps.length), ∃ h' : i < xps.length, xps[i].name = ps[i].name) := Lib.hid (fun i h => by
            obtain ⟨t, ht⟩ := (puts_names (bps.map PV.pure) (ps.map PV.pure)).1
            rw [← hmp, pure_names, pure_names] at ht
            have hl : i < (xps.map PV.name).length := by rw [ht, List.length_append, List.length_map]; omega
            have h' : i < xps.length := by rw [List.length_map] at hl; exact hl
            refine ⟨h', ?_⟩
            have e1 : (xps.map PV.name)[i]'hl = xps[i].name := List.getElem_map _
            have e2 : (ps.map PV.name)[i]'(by rw [List.length_map]; exact h) = ps[i].name := List.getElem_map _
            rw [← e1, ← e2]
            simp only [ht]
            exact List.getElem_append_left _)
          have HL2 : Hid (∀ i (h : i < ks.length), ∃ h' : i < xks.length, xks[i].name = ks[i].name) := Lib.hid (fun i h => by
            obtain ⟨t, ht⟩ := (merges_names (bks.map pureN) (ks.map pureN)).1
            rw [← hmk, pure_knames, pure_knames] at ht
            have hl : i < (xks.map Nd.name).length := by rw [ht, List.length_append, List.length_map]; omega
            have h' : i < xks.length := by rw [List.length_map] at hl; exact hl
            refine ⟨h', ?_⟩
            have e1 : (xks.map Nd.name)[i]'hl = xks[i].name := List.getElem_map _
            have e2 : (ks.map Nd.name)[i]'(by rw [List.length_map]; exact h) = ks[i].name := List.getElem_map _
            rw [← e1, ← e2]
            simp only [ht]
            exact List.getElem_append_left _)
          have HL3 : Hid (∀ i (h : i < bps.length), ∃ (j : Nat) (h' : j < xps.length), idxOf (xps.map PV.name) bps[i].name = (j : Int) ∧ xps[j].name = bps[i].name ∧ xps[j].zs = bps[i].zs) := Lib.hid (fun i h => by
            have h1 := fst_puts (bps.map PV.pure) (ps.map PV.pure) huB1 (PV.pure bps[i]) (List.mem_map_of_mem (List.getElem_mem h))
            rw [← hmp] at h1
            obtain ⟨j, hj, h2, h3⟩ := fstP_idx _ _ _ h1
            rw [pure_names] at h2
            rw [List.length_map] at hj
            rw [List.getElem_map] at h3
            simp only [PV.pure, Prod.mk.injEq] at h3
            exact ⟨j, hj, h2, h3.1, h3.2⟩)
          have HL4 : Hid (∀ i (h : i < bks.length), 0 ≤ idxOf (xks.map Nd.name) bks[i].name) := Lib.hid (fun i h => by
            have h1 := fst_merges (bks.map pureN) (ks.map pureN) huB2 (pureN bks[i]) (List.mem_map_of_mem (List.getElem_mem h))
            rw [← hmk] at h1
            have h2 := fstK_idx _ _ _ h1
            rw [pure_knames] at h2
            have e : (pureN bks[i]).name = bks[i].name := by rw [pureN_mk]; rfl
            rw [e] at h2
            exact h2)
          clear hmp hmk huB huB1 huB2
          obtain rfl := hnm
          obtain ⟨hl1, hm1⟩ : ps.length ≤ pc ∧ pc ≤ 9223372036854775807 := HIA.out.plen
          obtain ⟨hl2, hm2⟩ : ks.length ≤ kc ∧ kc ≤ 9223372036854775807 := HIA.out.klen
          obtain ⟨hl3, hm3⟩ : bps.length ≤ bpc ∧ bpc ≤ 9223372036854775807 := HIB.out.plen
          obtain ⟨hl4, hm4⟩ : bks.length ≤ bkc ∧ bkc ≤ 9223372036854775807 := HIB.out.klen
          have HP7 := Lib.hid (Below.refl (w6.heap.size + 1) (w6.alloc (.cells #[.string xn, .slice xpa xps.length xpc, .slice xka xks.length xkc] 25)))
          have HPG := Lib.hid (fun V W (h : Below (w6.heap.size + 1) (w6.alloc (.cells #[.string xn, .slice xpa xps.length xpc, .slice xka xks.length xkc] 25)) V) (hb : Below V.heap.size V W) => h.trans (hb.mono (by have := h.size; simp at this; omega)))
          obtain ⟨u0, u1, u2⟩ := (HGO7.out _ HP7.out).2.1
          obtain ⟨⟨x0, x1, x2⟩, ⟨y0, y1, y2⟩⟩ := BX.out _ (HGO7.out _ HP7.out).1
          go_wp2_with fail
          clear u0 u1 u2 x0 x1 x2 y0 y1 y2
          go_loopw [40] (fun i wr => ∃ k : Nat, k ≤ ps.length ∧ i = .int .i64 k ∧ Below (w6.heap.size + 1) (w6.alloc (.cells #[.string xn, .slice xpa xps.length xpc, .slice xka xks.length xkc] 25)) wr) (fun i _ => ps.length - (intOf i).toNat)
          case atStart => exact ⟨0, Nat.zero_le _, rfl, HP7.out⟩
          case round =>
            obtain ⟨k, hk, rfl, hb⟩ := hrel
            have HB := Lib.hid hb
            by_cases hlt : k < ps.length
            · obtain ⟨hlx, hnn⟩ := HL1.out k hlt
              obtain ⟨b1, o1, e1, hb1, c0, _⟩ := (INA.out _ (HGO7.out _ hb).1).pcell (i := k) hlt
              obtain ⟨b2, o2, e2, hb2, d0, _⟩ := (HGO7.out _ hb).2.2.pcell (i := k) hlx
              replace c0 : _ = some (Value.string ps[k].name) := c0
              replace d0 : _ = some (Value.string xps[k].name) := d0
              rw [hnn] at d0
              generalize ps[k].name = s at c0 d0
              have HSB : Hid (∀ V, Below wr.heap.size wr V → (V.cell? ⟨w.heap.size, 1, none⟩ = some (.slice pa ps.length pc) ∧ V.cell? ⟨w6.heap.size, 1, none⟩ = some (.slice xpa xps.length xpc)) ∧ (V.cell? ⟨b1, o1 + k * 2, none⟩ = some (.string s) ∧ V.cell? ⟨b2, o2 + k * 2, none⟩ = some (.string s))) := Lib.hid (fun V hV => by
                have h7 := HGO7.out V (HPG.out _ _ HB.out hV)
                exact ⟨⟨(BX.out V h7.1).1.2.1, h7.2.1.2.1⟩, (hV.cell (p := ⟨b1, o1 + k * 2, none⟩) hb1).trans c0, (hV.cell (p := ⟨b2, o2 + k * 2, none⟩) hb2).trans d0⟩)
              obtain rfl : pa = _ := e1
              obtain rfl : xpa = _ := e2
              have HD := Lib.hid (Below.refl wr.heap.size wr).drew
              have q1 : (s.toList != s.toList) = false := by simp
              clear c0 d0 hb hb1 hb2 hnn
              go_wp2_with fail
              refine wp_region_held_drew (S := fun V => (V.cell? ⟨w.heap.size, 1, none⟩ = some (.slice (some ⟨b1, o1, none⟩) ps.length pc) ∧ V.cell? ⟨w6.heap.size, 1, none⟩ = some (.slice (some ⟨b2, o2, none⟩) xps.length xpc)) ∧ (V.cell? ⟨b1, o1 + k * 2, none⟩ = some (.string s) ∧ V.cell? ⟨b2, o2 + k * 2, none⟩ = some (.string s))) (by kernel_rfl) (HSB.out _ HD.out) (fun hHeld => ?_)
              refine held_take 0 rfl (by kernel_rfl) (by kernel_rfl) (by kernel_rfl) (fun _ _ _ h => h) (by rfl) hHeld (v := ?_) (fun w hSw => ?_) (fun _ => ?_)
              rotate_left
              · ((try dsimp only at hSw); go_simp; (try with_reducible rfl))
              simp only [Act.put, List.setIfInBounds_toArray, List.set_cons_zero, List.set_cons_succ]
              refine held_take 1 rfl (by kernel_rfl) (by kernel_rfl) (by kernel_rfl) (fun _ _ _ h => h) (by rfl) hHeld (v := ?_) (fun w hSw => ?_) (fun _ => ?_)
              rotate_left
              · ((try dsimp only at hSw); go_simp; (try with_reducible rfl))
              simp only [Act.put, List.setIfInBounds_toArray, List.set_cons_zero, List.set_cons_succ]
              refine held_take 2 rfl (by kernel_rfl) (by kernel_rfl) (by kernel_rfl) (fun _ _ _ h => h) (by rfl) hHeld (v := ?_) (fun w hSw => ?_) (fun _ => ?_)
              rotate_left
              · ((try dsimp only at hSw); go_simp; (try with_reducible rfl))
              simp only [Act.put, List.setIfInBounds_toArray, List.set_cons_zero, List.set_cons_succ]
              refine held_take 3 rfl (by kernel_rfl) (by kernel_rfl) (by kernel_rfl) (fun _ _ _ h => h) (by rfl) hHeld (v := ?_) (fun w hSw => ?_) (fun _ => ?_)
              rotate_left
              · ((try dsimp only at hSw); go_simp; (try with_reducible rfl))
              simp only [Act.put, List.setIfInBounds_toArray, List.set_cons_zero, List.set_cons_succ]
              refine held_take 4 rfl (by kernel_rfl) (by kernel_rfl) (by kernel_rfl) (fun _ _ _ h => h) (by rfl) hHeld (v := ?_) (fun w hSw => ?_) (fun _ => ?_)
              rotate_left
              · ((try dsimp only at hSw); go_simp; (try with_reducible rfl))
              simp only [Act.put, List.setIfInBounds_toArray, List.set_cons_zero, List.set_cons_succ]
              refine held_take 5 rfl (by kernel_rfl) (by kernel_rfl) (by kernel_rfl) (fun _ _ _ h => h) (by rfl) hHeld (v := ?_) (fun w hSw => ?_) (fun _ => ?_)
              rotate_left
              · ((try dsimp only at hSw); go_simp; (try with_reducible rfl))
              simp only [Act.put, List.setIfInBounds_toArray, List.set_cons_zero, List.set_cons_succ]
              refine held_take 6 rfl (by kernel_rfl) (by kernel_rfl) (by kernel_rfl) (fun _ _ _ h => h) (by rfl) hHeld (v := ?_) (fun w hSw => ?_) (fun _ => ?_)
              rotate_left
              · ((try dsimp only at hSw); go_simp; (try with_reducible rfl))
              simp only [Act.put, List.setIfInBounds_toArray, List.set_cons_zero, List.set_cons_succ]
              refine held_take 7 rfl (by kernel_rfl) (by kernel_rfl) (by kernel_rfl) (fun _ _ _ h => h) (by rfl) hHeld (v := ?_) (fun w hSw => ?_) (fun _ => ?_)
              rotate_left
              · ((try dsimp only at hSw); go_simp; (try with_reducible rfl))
              simp only [Act.put, List.setIfInBounds_toArray, List.set_cons_zero, List.set_cons_succ]
              refine held_take 8 rfl (by kernel_rfl) (by kernel_rfl) (by kernel_rfl) (fun _ _ _ h => h) (by rfl) hHeld (v := ?_) (fun w hSw => ?_) (fun _ => ?_)
              rotate_left
              · ((try dsimp only at hSw); go_simp; (try with_reducible rfl))
              simp only [Act.put, List.setIfInBounds_toArray, List.set_cons_zero, List.set_cons_succ]
              refine held_take 9 rfl (by kernel_rfl) (by kernel_rfl) (by kernel_rfl) (fun _ _ _ h => h) (by rfl) hHeld (v := ?_) (fun w hSw => ?_) (fun _ => ?_)
              rotate_left
              · ((try dsimp only at hSw); go_simp; (try with_reducible rfl))
              simp only [Act.put, List.setIfInBounds_toArray, List.set_cons_zero, List.set_cons_succ]
              refine held_take 10 rfl (by kernel_rfl) (by kernel_rfl) (by kernel_rfl) (fun _ _ _ h => h) (by rfl) hHeld (v := ?_) (fun w hSw => ?_) (fun _ => ?_)
              rotate_left
              · ((try dsimp only at hSw); go_simp; (try with_reducible rfl))
              simp only [Act.put, List.setIfInBounds_toArray, List.set_cons_zero, List.set_cons_succ]
              refine held_take 11 rfl (by kernel_rfl) (by kernel_rfl) (by kernel_rfl) (fun _ _ _ h => h) (by rfl) hHeld (v := ?_) (fun w hSw => ?_) (fun _ => ?_)
              rotate_left
              · ((try dsimp only at hSw); go_simp; (try with_reducible rfl))
              simp only [Act.put, List.setIfInBounds_toArray, List.set_cons_zero, List.set_cons_succ]
              refine held_take 12 rfl (by kernel_rfl) (by kernel_rfl) (by kernel_rfl) (fun _ _ _ h => h) (by rfl) hHeld (v := ?_) (fun w hSw => ?_) (fun _ => ?_)
              rotate_left
              · ((try dsimp only at hSw); go_simp; (try with_reducible rfl))
              simp only [Act.put, List.setIfInBounds_toArray, List.set_cons_zero, List.set_cons_succ]
              refine wpAnyH_done (by kernel_rfl) ?_ _
              clear hHeld
              go_wp2
              go_roundw
              case rel => exact ⟨k + 1, by omega, by go_num, HPG.out _ _ HB.out HD.out⟩
              case measure => simp [intOf]; omega
            · obtain ⟨⟨x0, x1, x2⟩, ⟨y0, y1, y2⟩⟩ := BX.out _ (HGO7.out _ hb).1
              obtain rfl : k = ps.length := by omega
              clear hb
              go_wp2_with fail
              clear x0 x1 x2 y0 y1 y2
              go_loopw [60] (fun i wr => ∃ k : Nat, k ≤ ks.length ∧ i = .int .i64 k ∧ Below (w6.heap.size + 1) (w6.alloc (.cells #[.string xn, .slice xpa xps.length xpc, .slice xka xks.length xkc] 25)) wr) (fun i _ => ks.length - (intOf i).toNat)
              case atStart => exact ⟨0, Nat.zero_le _, rfl, HB.out⟩
              case round =>
                clear HB
                obtain ⟨k, hk, rfl, hb⟩ := hrel
                have HB := Lib.hid hb
                by_cases hlt : k < ks.length
                · obtain ⟨hlx, hnn⟩ := HL2.out k hlt
                  obtain ⟨b1, o1, e1, hb1, c0, _⟩ := (INA.out _ (HGO7.out _ hb).1).kcell (i := k) hlt
                  obtain ⟨b2, o2, e2, hb2, d0, _⟩ := (HGO7.out _ hb).2.2.kcell (i := k) hlx
                  replace c0 : _ = some (Value.string ks[k].name) := c0
                  replace d0 : _ = some (Value.string xks[k].name) := d0
                  rw [hnn] at d0
                  generalize ks[k].name = s at c0 d0
                  have HSB : Hid (∀ V, Below wr.heap.size wr V → (V.cell? ⟨w.heap.size, 2, none⟩ = some (.slice ka ks.length kc) ∧ V.cell? ⟨w6.heap.size, 2, none⟩ = some (.slice xka xks.length xkc)) ∧ (V.cell? ⟨b1, o1 + k * 3, none⟩ = some (.string s) ∧ V.cell? ⟨b2, o2 + k * 3, none⟩ = some (.string s))) := Lib.hid (fun V hV => by
                    have h7 := HGO7.out V (HPG.out _ _ HB.out hV)
                    exact ⟨⟨(BX.out V h7.1).1.2.2, h7.2.1.2.2⟩, (hV.cell (p := ⟨b1, o1 + k * 3, none⟩) hb1).trans c0, (hV.cell (p := ⟨b2, o2 + k * 3, none⟩) hb2).trans d0⟩)
                  obtain rfl : ka = _ := e1
                  obtain rfl : xka = _ := e2
                  have HD := Lib.hid (Below.refl wr.heap.size wr).drew
                  have q1 : (s.toList != s.toList) = false := by simp
                  clear c0 d0 hb hb1 hb2 hnn
                  go_wp2_with fail
                  refine wp_region_held_drew (S := fun V => (V.cell? ⟨w.heap.size, 2, none⟩ = some (.slice (some ⟨b1, o1, none⟩) ks.length kc) ∧ V.cell? ⟨w6.heap.size, 2, none⟩ = some (.slice (some ⟨b2, o2, none⟩) xks.length xkc)) ∧ (V.cell? ⟨b1, o1 + k * 3, none⟩ = some (.string s) ∧ V.cell? ⟨b2, o2 + k * 3, none⟩ = some (.string s))) (by kernel_rfl) (HSB.out _ HD.out) (fun hHeld => ?_)
                  refine held_take 0 rfl (by kernel_rfl) (by kernel_rfl) (by kernel_rfl) (fun _ _ _ h => h) (by rfl) hHeld (v := ?_) (fun w hSw => ?_) (fun _ => ?_)
                  rotate_left
                  · ((try dsimp only at hSw); go_simp; (try with_reducible rfl))
                  simp only [Act.put, List.setIfInBounds_toArray, List.set_cons_zero, List.set_cons_succ]
                  refine held_take 1 rfl (by kernel_rfl) (by kernel_rfl) (by kernel_rfl) (fun _ _ _ h => h) (by rfl) hHeld (v := ?_) (fun w hSw => ?_) (fun _ => ?_)
                  rotate_left
                  · ((try dsimp only at hSw); go_simp; (try with_reducible rfl))
                  simp only [Act.put, List.setIfInBounds_toArray, List.set_cons_zero, List.set_cons_succ]
                  refine held_take 2 rfl (by kernel_rfl) (by kernel_rfl) (by kernel_rfl) (fun _ _ _ h => h) (by rfl) hHeld (v := ?_) (fun w hSw => ?_) (fun _ => ?_)
                  rotate_left
                  · ((try dsimp only at hSw); go_simp; (try with_reducible rfl))
                  simp only [Act.put, List.setIfInBounds_toArray, List.set_cons_zero, List.set_cons_succ]
                  refine held_take 3 rfl (by kernel_rfl) (by kernel_rfl) (by kernel_rfl) (fun _ _ _ h => h) (by rfl) hHeld (v := ?_) (fun w hSw => ?_) (fun _ => ?_)
                  rotate_left
                  · ((try dsimp only at hSw); go_simp; (try with_reducible rfl))
                  simp only [Act.put, List.setIfInBounds_toArray, List.set_cons_zero, List.set_cons_succ]
                  refine held_take 4 rfl (by kernel_rfl) (by kernel_rfl) (by kernel_rfl) (fun _ _ _ h => h) (by rfl) hHeld (v := ?_) (fun w hSw => ?_) (fun _ => ?_)
                  rotate_left
                  · ((try dsimp only at hSw); go_simp; (try with_reducible rfl))
                  simp only [Act.put, List.setIfInBounds_toArray, List.set_cons_zero, List.set_cons_succ]
                  refine held_take 5 rfl (by kernel_rfl) (by kernel_rfl) (by kernel_rfl) (fun _ _ _ h => h) (by rfl) hHeld (v := ?_) (fun w hSw => ?_) (fun _ => ?_)
                  rotate_left
                  · ((try dsimp only at hSw); go_simp; (try with_reducible rfl))
                  simp only [Act.put, List.setIfInBounds_toArray, List.set_cons_zero, List.set_cons_succ]
                  refine held_take 6 rfl (by kernel_rfl) (by kernel_rfl) (by kernel_rfl) (fun _ _ _ h => h) (by rfl) hHeld (v := ?_) (fun w hSw => ?_) (fun _ => ?_)
                  rotate_left
                  · ((try dsimp only at hSw); go_simp; (try with_reducible rfl))
                  simp only [Act.put, List.setIfInBounds_toArray, List.set_cons_zero, List.set_cons_succ]
                  refine held_take 7 rfl (by kernel_rfl) (by kernel_rfl) (by kernel_rfl) (fun _ _ _ h => h) (by rfl) hHeld (v := ?_) (fun w hSw => ?_) (fun _ => ?_)
                  rotate_left
                  · ((try dsimp only at hSw); go_simp; (try with_reducible rfl))
                  simp only [Act.put, List.setIfInBounds_toArray, List.set_cons_zero, List.set_cons_succ]
                  refine held_take 8 rfl (by kernel_rfl) (by kernel_rfl) (by kernel_rfl) (fun _ _ _ h => h) (by rfl) hHeld (v := ?_) (fun w hSw => ?_) (fun _ => ?_)
                  rotate_left
                  · ((try dsimp only at hSw); go_simp; (try with_reducible rfl))
                  simp only [Act.put, List.setIfInBounds_toArray, List.set_cons_zero, List.set_cons_succ]
                  refine held_take 9 rfl (by kernel_rfl) (by kernel_rfl) (by kernel_rfl) (fun _ _ _ h => h) (by rfl) hHeld (v := ?_) (fun w hSw => ?_) (fun _ => ?_)
                  rotate_left
                  · ((try dsimp only at hSw); go_simp; (try with_reducible rfl))
                  simp only [Act.put, List.setIfInBounds_toArray, List.set_cons_zero, List.set_cons_succ]
                  refine held_take 10 rfl (by kernel_rfl) (by kernel_rfl) (by kernel_rfl) (fun _ _ _ h => h) (by rfl) hHeld (v := ?_) (fun w hSw => ?_) (fun _ => ?_)
                  rotate_left
                  · ((try dsimp only at hSw); go_simp; (try with_reducible rfl))
                  simp only [Act.put, List.setIfInBounds_toArray, List.set_cons_zero, List.set_cons_succ]
                  refine held_take 11 rfl (by kernel_rfl) (by kernel_rfl) (by kernel_rfl) (fun _ _ _ h => h) (by rfl) hHeld (v := ?_) (fun w hSw => ?_) (fun _ => ?_)
                  rotate_left
                  · ((try dsimp only at hSw); go_simp; (try with_reducible rfl))
                  simp only [Act.put, List.setIfInBounds_toArray, List.set_cons_zero, List.set_cons_succ]
                  refine held_take 12 rfl (by kernel_rfl) (by kernel_rfl) (by kernel_rfl) (fun _ _ _ h => h) (by rfl) hHeld (v := ?_) (fun w hSw => ?_) (fun _ => ?_)
                  rotate_left
                  · ((try dsimp only at hSw); go_simp; (try with_reducible rfl))
                  simp only [Act.put, List.setIfInBounds_toArray, List.set_cons_zero, List.set_cons_succ]
                  refine wpAnyH_done (by kernel_rfl) ?_ _
                  clear hHeld
                  go_wp2
                  go_roundw
                  case rel => exact ⟨k + 1, by omega, by go_num, HPG.out _ _ HB.out HD.out⟩
                  case measure => simp [intOf]; omega
                · obtain ⟨⟨x0, x1, x2⟩, ⟨y0, y1, y2⟩⟩ := BX.out _ (HGO7.out _ hb).1
                  obtain rfl : k = ks.length := by omega
                  clear hb
                  go_wp2_with fail
                  clear x0 x1 x2 y0 y1 y2
                  go_loopw [80] (fun i wr => ∃ k : Nat, k ≤ bps.length ∧ i = .int .i64 k ∧ Below (w6.heap.size + 1) (w6.alloc (.cells #[.string xn, .slice xpa xps.length xpc, .slice xka xks.length xkc] 25)) wr) (fun i _ => bps.length - (intOf i).toNat)
                  case atStart => exact ⟨0, Nat.zero_le _, rfl, HB.out⟩
                  case round =>
                    clear HB
                    obtain ⟨k, hk, rfl, hb⟩ := hrel
                    have HB := Lib.hid hb
                    by_cases hlt : k < bps.length
                    · obtain ⟨j, hj, hix, hnn, hzz⟩ := HL3.out k hlt
                      obtain ⟨b1, o1, e1, hb1, c0, c1⟩ := (INB.out _ (HGO7.out _ hb).1).pcell (i := k) hlt
                      obtain ⟨b2, o2, e2, hb2, d0, d1⟩ := (HGO7.out _ hb).2.2.pcell (i := j) hj
                      have hpi := (INB.out _ (HGO7.out _ hb).1).prop (p := bps[k]) (List.getElem_mem hlt)
                      have hxi := (HGO7.out _ hb).2.2.prop (p := xps[j]) (List.getElem_mem hj)
                      replace c0 : _ = some (Value.string bps[k].name) := c0
                      replace c1 : _ = some (Value.slice bps[k].addr bps[k].zs.length bps[k].cap) := c1
                      replace d1 : _ = some (Value.slice xps[j].addr xps[j].zs.length xps[j].cap) := d1
                      have r1 : ∀ V, Below wr.heap.size wr V → (convert 30 9 (.slice bps[k].addr bps[k].zs.length bps[k].cap)).run Try.prog V = .ok (.string (strOfNums bps[k].zs)) V := fun V hV => run_string (hpi.2.1.below hV) _
                      have r2 : ∀ V, Below wr.heap.size wr V → (convert 30 9 (.slice xps[j].addr xps[j].zs.length xps[j].cap)).run Try.prog V = .ok (.string (strOfNums xps[j].zs)) V := fun V hV => run_string (hxi.2.1.below hV) _
                      rw [hzz] at r2 d1
                      generalize bps[k].zs.length = ql at *
                      generalize strOfNums bps[k].zs = qs at *
                      generalize bps[k].name = s at *
                      generalize bps[k].addr = qa at *
                      generalize bps[k].cap = qc at *
                      generalize xps[j].addr = xa at *
                      generalize xps[j].cap = xc at *
                      have HR1 := Lib.hid r1
                      have HR2 := Lib.hid r2
                      have HSB : Hid (∀ V, Below wr.heap.size wr V → ((V.cell? ⟨w.heap.size + 1, 1, none⟩ = some (.slice bpa bps.length bpc) ∧ V.cell? ⟨w6.heap.size, 0, none⟩ = some (.string xn) ∧ V.cell? ⟨w6.heap.size, 1, none⟩ = some (.slice xpa xps.length xpc) ∧ V.cell? ⟨w6.heap.size, 2, none⟩ = some (.slice xka xks.length xkc)) ∧ V.cell? ⟨b1, o1 + k * 2, none⟩ = some (.string s)) ∧ (V.cell? ⟨b1, o1 + k * 2 + 1, none⟩ = some (.slice qa ql qc) ∧ V.cell? ⟨b2, o2 + j * 2 + 1, none⟩ = some (.slice xa ql xc)) ∧ (convert 30 9 (.slice qa ql qc)).run Try.prog V = .ok (.string qs) V ∧ (convert 30 9 (.slice xa ql xc)).run Try.prog V = .ok (.string qs) V) := Lib.hid (fun V hV => by
                        have h7 := HGO7.out V (HPG.out _ _ HB.out hV)
                        exact ⟨⟨⟨(BX.out V h7.1).2.2.1, h7.2.1⟩, (hV.cell (p := ⟨b1, o1 + k * 2, none⟩) hb1).trans c0⟩, ⟨(hV.cell (p := ⟨b1, o1 + k * 2 + 1, none⟩) hb1).trans c1, (hV.cell (p := ⟨b2, o2 + j * 2 + 1, none⟩) hb2).trans d1⟩, HR1.out V hV, HR2.out V hV⟩)
                      have CF := Lib.hid (fun V (hV : Below wr.heap.size wr V) => reffind_any (.mk xn xpa xpc xps xka xkc xks) s V (HGO7.out V (HPG.out _ _ HB.out hV)).2.2 (j : Int) hix.symm)
                      simp only [Nd.val, Nd.pv, Nd.kv, Nd.name, Nd.pa, Nd.pc, Nd.props, Nd.ka, Nd.kc, Nd.kids] at CF
                      obtain rfl : bpa = _ := e1
                      obtain rfl : xpa = _ := e2
                      have HD := Lib.hid (Below.refl wr.heap.size wr).drew
                      have q1 : (qs.toList != qs.toList) = false := by simp
                      clear c0 c1 d0 d1 hb hb1 hb2 hnn hzz hix r1 r2 hpi hxi
                      go_wp2_with fail
                      refine wp_region_held_drew (S := fun V => (V.cell? ⟨w.heap.size + 1, 1, none⟩ = some (.slice (some ⟨b1, o1, none⟩) bps.length bpc) ∧ V.cell? ⟨w6.heap.size, 0, none⟩ = some (.string xn) ∧ V.cell? ⟨w6.heap.size, 1, none⟩ = some (.slice (some ⟨b2, o2, none⟩) xps.length xpc) ∧ V.cell? ⟨w6.heap.size, 2, none⟩ = some (.slice xka xks.length xkc)) ∧ V.cell? ⟨b1, o1 + k * 2, none⟩ = some (.string s)) (by kernel_rfl) (HSB.out _ HD.out).1 (fun hHeld => ?_)
                      refine held_take 0 rfl (by kernel_rfl) (by kernel_rfl) (by kernel_rfl) (fun _ _ _ h => h) (by rfl) hHeld (v := ?_) (fun w hSw => ?_) (fun _ => ?_)
                      rotate_left
                      · ((try dsimp only at hSw); go_simp; (try with_reducible rfl))
                      simp only [Act.put, List.setIfInBounds_toArray, List.set_cons_zero, List.set_cons_succ]
                      refine held_take 1 rfl (by kernel_rfl) (by kernel_rfl) (by kernel_rfl) (fun _ _ _ h => h) (by rfl) hHeld (v := ?_) (fun w hSw => ?_) (fun _ => ?_)
                      rotate_left
                      · ((try dsimp only at hSw); go_simp; (try with_reducible rfl))
                      simp only [Act.put, List.setIfInBounds_toArray, List.set_cons_zero, List.set_cons_succ]
                      refine held_take 2 rfl (by kernel_rfl) (by kernel_rfl) (by kernel_rfl) (fun _ _ _ h => h) (by rfl) hHeld (v := ?_) (fun w hSw => ?_) (fun _ => ?_)
                      rotate_left
                      · ((try dsimp only at hSw); go_simp; (try with_reducible rfl))
                      simp only [Act.put, List.setIfInBounds_toArray, List.set_cons_zero, List.set_cons_succ]
                      refine held_take 3 rfl (by kernel_rfl) (by kernel_rfl) (by kernel_rfl) (fun _ _ _ h => h) (by rfl) hHeld (v := ?_) (fun w hSw => ?_) (fun _ => ?_)
                      rotate_left
                      · ((try dsimp only at hSw); go_simp; (try with_reducible rfl))
                      simp only [Act.put, List.setIfInBounds_toArray, List.set_cons_zero, List.set_cons_succ]
                      refine held_take 4 rfl (by kernel_rfl) (by kernel_rfl) (by kernel_rfl) (fun _ _ _ h => h) (by rfl) hHeld (v := ?_) (fun w hSw => ?_) (fun _ => ?_)
                      rotate_left
                      · ((try dsimp only at hSw); go_simp; (try with_reducible rfl))
                      simp only [Act.put, List.setIfInBounds_toArray, List.set_cons_zero, List.set_cons_succ]
                      refine held_take 5 rfl (by kernel_rfl) (by kernel_rfl) (by kernel_rfl) (fun _ _ _ h => h) (by rfl) hHeld (v := ?_) (fun w hSw => ?_) (fun _ => ?_)
                      rotate_left
                      · ((try dsimp only at hSw); go_simp; (try with_reducible rfl))
                      simp only [Act.put, List.setIfInBounds_toArray, List.set_cons_zero, List.set_cons_succ]
                      refine held_take 6 rfl (by kernel_rfl) (by kernel_rfl) (by kernel_rfl) (fun _ _ _ h => h) (by rfl) hHeld (v := ?_) (fun w hSw => ?_) (fun _ => ?_)
                      rotate_left
                      · ((try dsimp only at hSw); go_simp; (try with_reducible rfl))
                      simp only [Act.put, List.setIfInBounds_toArray, List.set_cons_zero, List.set_cons_succ]
                      refine held_call 7 (by kernel_rfl) rfl (by rfl) (fun K hK => ?_)
                      go_simp
                      refine (CF.out _ HD.out).mono ?_
                      rintro e w8 ⟨rfl, hb8⟩
                      have HD8 := Lib.hid (HD.out.trans hb8)
                      clear hb8
                      dsimp only
                      refine hK.out _ _ (HSB.out _ HD8.out).1 (fun hHeld => ?_)
                      clear hK K
                      refine held_take 8 rfl (by kernel_rfl) (by kernel_rfl) (by kernel_rfl) (fun _ _ _ h => h) (by rfl) hHeld (v := ?_) (fun w hSw => ?_) (fun _ => ?_)
                      rotate_left
                      · ((try dsimp only at hSw); go_simp; (try with_reducible rfl))
                      simp only [Act.put, List.setIfInBounds_toArray, List.set_cons_zero, List.set_cons_succ]
                      refine wpAnyH_done (by kernel_rfl) ?_ _
                      clear hHeld
                      have HD9 := Lib.hid (HD8.out.drew)
                      clear hHeld
                      go_wp2_with fail
                      refine wp_region_held_drew (S := fun V => ((V.cell? ⟨w.heap.size + 1, 1, none⟩ = some (.slice (some ⟨b1, o1, none⟩) bps.length bpc) ∧ V.cell? ⟨w6.heap.size, 0, none⟩ = some (.string xn) ∧ V.cell? ⟨w6.heap.size, 1, none⟩ = some (.slice (some ⟨b2, o2, none⟩) xps.length xpc) ∧ V.cell? ⟨w6.heap.size, 2, none⟩ = some (.slice xka xks.length xkc)) ∧ V.cell? ⟨b1, o1 + k * 2, none⟩ = some (.string s)) ∧ (V.cell? ⟨b1, o1 + k * 2 + 1, none⟩ = some (.slice qa ql qc) ∧ V.cell? ⟨b2, o2 + j * 2 + 1, none⟩ = some (.slice xa ql xc)) ∧ (convert 30 9 (.slice qa ql qc)).run Try.prog V = .ok (.string qs) V ∧ (convert 30 9 (.slice xa ql xc)).run Try.prog V = .ok (.string qs) V) (by kernel_rfl) (HSB.out _ HD9.out) (fun hHeld => ?_)
                      refine held_take 0 rfl (by kernel_rfl) (by kernel_rfl) (by kernel_rfl) (fun _ _ _ h => h) (by rfl) hHeld (v := ?_) (fun w hSw => ?_) (fun _ => ?_)
                      rotate_left
                      · ((try dsimp only at hSw); go_simp; (try with_reducible rfl))
                      simp only [Act.put, List.setIfInBounds_toArray, List.set_cons_zero, List.set_cons_succ]
                      refine held_take 1 rfl (by kernel_rfl) (by kernel_rfl) (by kernel_rfl) (fun _ _ _ h => h) (by rfl) hHeld (v := ?_) (fun w hSw => ?_) (fun _ => ?_)
                      rotate_left
                      · ((try dsimp only at hSw); go_simp; (try with_reducible rfl))
                      simp only [Act.put, List.setIfInBounds_toArray, List.set_cons_zero, List.set_cons_succ]
                      refine held_take 2 rfl (by kernel_rfl) (by kernel_rfl) (by kernel_rfl) (fun _ _ _ h => h) (by rfl) hHeld (v := ?_) (fun w hSw => ?_) (fun _ => ?_)
                      rotate_left
                      · ((try dsimp only at hSw); go_simp; (try with_reducible rfl))
                      simp only [Act.put, List.setIfInBounds_toArray, List.set_cons_zero, List.set_cons_succ]
                      refine held_take 3 rfl (by kernel_rfl) (by kernel_rfl) (by kernel_rfl) (fun _ _ _ h => h) (by rfl) hHeld (v := ?_) (fun w hSw => ?_) (fun _ => ?_)
                      rotate_left
                      · ((try dsimp only at hSw); go_simp; (try with_reducible rfl))
                      simp only [Act.put, List.setIfInBounds_toArray, List.set_cons_zero, List.set_cons_succ]
                      refine held_take 4 rfl (by kernel_rfl) (by kernel_rfl) (by kernel_rfl) (fun _ _ _ h => h) (by rfl) hHeld (v := ?_) (fun w hSw => ?_) (fun _ => ?_)
                      rotate_left
                      · ((try dsimp only at hSw); go_simp; (try with_reducible rfl))
                      simp only [Act.put, List.setIfInBounds_toArray, List.set_cons_zero, List.set_cons_succ]
                      refine held_take 5 rfl (by kernel_rfl) (by kernel_rfl) (by kernel_rfl) (fun _ _ _ h => h) (by rfl) hHeld (v := ?_) (fun w hSw => ?_) (fun _ => ?_)
                      rotate_left
                      · ((try dsimp only at hSw); go_simp; (try with_reducible rfl))
                      simp only [Act.put, List.setIfInBounds_toArray, List.set_cons_zero, List.set_cons_succ]
                      refine held_take 6 rfl (by kernel_rfl) (by kernel_rfl) (by kernel_rfl) (fun _ _ _ h => h) (by rfl) hHeld (v := ?_) (fun w hSw => ?_) (fun _ => ?_)
                      rotate_left
                      · ((try dsimp only at hSw); go_simp; (try with_reducible rfl))
                      simp only [Act.put, List.setIfInBounds_toArray, List.set_cons_zero, List.set_cons_succ]
                      refine held_take 7 rfl (by kernel_rfl) (by kernel_rfl) (by kernel_rfl) (fun _ _ _ h => h) (by rfl) hHeld (v := ?_) (fun w hSw => ?_) (fun _ => ?_)
                      rotate_left
                      · ((try dsimp only at hSw); go_simp; (try with_reducible rfl))
                      simp only [Act.put, List.setIfInBounds_toArray, List.set_cons_zero, List.set_cons_succ]
                      refine held_take 8 rfl (by kernel_rfl) (by kernel_rfl) (by kernel_rfl) (fun _ _ _ h => h) (by rfl) hHeld (v := ?_) (fun w hSw => ?_) (fun _ => ?_)
                      rotate_left
                      · ((try dsimp only at hSw); go_simp; (try with_reducible rfl))
                      simp only [Act.put, List.setIfInBounds_toArray, List.set_cons_zero, List.set_cons_succ]
                      refine held_take 9 rfl (by kernel_rfl) (by kernel_rfl) (by kernel_rfl) (fun _ _ _ h => h) (by rfl) hHeld (v := ?_) (fun w hSw => ?_) (fun _ => ?_)
                      rotate_left
                      · ((try dsimp only at hSw); go_simp; (try with_reducible rfl))
                      simp only [Act.put, List.setIfInBounds_toArray, List.set_cons_zero, List.set_cons_succ]
                      refine held_take 10 rfl (by kernel_rfl) (by kernel_rfl) (by kernel_rfl) (fun _ _ _ h => h) (by rfl) hHeld (v := ?_) (fun w hSw => ?_) (fun _ => ?_)
                      rotate_left
                      · ((try dsimp only at hSw); go_simp; (try with_reducible rfl))
                      simp only [Act.put, List.setIfInBounds_toArray, List.set_cons_zero, List.set_cons_succ]
                      refine held_take 11 rfl (by kernel_rfl) (by kernel_rfl) (by kernel_rfl) (fun _ _ _ h => h) (by rfl) hHeld (v := ?_) (fun w hSw => ?_) (fun _ => ?_)
                      rotate_left
                      · ((try dsimp only at hSw); go_simp; (try with_reducible rfl))
                      simp only [Act.put, List.setIfInBounds_toArray, List.set_cons_zero, List.set_cons_succ]
                      refine held_take 12 rfl (by kernel_rfl) (by kernel_rfl) (by kernel_rfl) (fun _ _ _ h => h) (by rfl) hHeld (v := ?_) (fun w hSw => ?_) (fun _ => ?_)
                      rotate_left
                      · ((try dsimp only at hSw); go_simp; (try with_reducible rfl))
                      simp only [Act.put, List.setIfInBounds_toArray, List.set_cons_zero, List.set_cons_succ]
                      refine held_take 13 rfl (by kernel_rfl) (by kernel_rfl) (by kernel_rfl) (fun _ _ _ h => h) (by rfl) hHeld (v := ?_) (fun w hSw => ?_) (fun _ => ?_)
                      rotate_left
                      · ((try dsimp only at hSw); go_simp; (try with_reducible rfl))
                      simp only [Act.put, List.setIfInBounds_toArray, List.set_cons_zero, List.set_cons_succ]
                      refine held_take 14 rfl (by kernel_rfl) (by kernel_rfl) (by kernel_rfl) (fun _ _ _ h => h) (by rfl) hHeld (v := ?_) (fun w hSw => ?_) (fun _ => ?_)
                      rotate_left
                      · ((try dsimp only at hSw); go_simp; (try with_reducible rfl))
                      simp only [Act.put, List.setIfInBounds_toArray, List.set_cons_zero, List.set_cons_succ]
                      refine held_take 15 rfl (by kernel_rfl) (by kernel_rfl) (by kernel_rfl) (fun _ _ _ h => h) (by rfl) hHeld (v := ?_) (fun w hSw => ?_) (fun _ => ?_)
                      rotate_left
                      · ((try dsimp only at hSw); go_simp; (try with_reducible rfl))
                      simp only [Act.put, List.setIfInBounds_toArray, List.set_cons_zero, List.set_cons_succ]
                      refine held_take 16 rfl (by kernel_rfl) (by kernel_rfl) (by kernel_rfl) (fun _ _ _ h => h) (by rfl) hHeld (v := ?_) (fun w hSw => ?_) (fun _ => ?_)
                      rotate_left
                      · ((try dsimp only at hSw); go_simp; (try with_reducible rfl))
                      simp only [Act.put, List.setIfInBounds_toArray, List.set_cons_zero, List.set_cons_succ]
                      refine held_take 17 rfl (by kernel_rfl) (by kernel_rfl) (by kernel_rfl) (fun _ _ _ h => h) (by rfl) hHeld (v := ?_) (fun w hSw => ?_) (fun _ => ?_)
                      rotate_left
                      · ((try dsimp only at hSw); go_simp; (try with_reducible rfl))
                      simp only [Act.put, List.setIfInBounds_toArray, List.set_cons_zero, List.set_cons_succ]
                      refine held_take 18 rfl (by kernel_rfl) (by kernel_rfl) (by kernel_rfl) (fun _ _ _ h => h) (by rfl) hHeld (v := ?_) (fun w hSw => ?_) (fun _ => ?_)
                      rotate_left
                      · ((try dsimp only at hSw); go_simp; (try with_reducible rfl))
                      simp only [Act.put, List.setIfInBounds_toArray, List.set_cons_zero, List.set_cons_succ]
                      refine wpAnyH_done (by kernel_rfl) ?_ _
                      clear hHeld
                      go_wp2
                      go_roundw
                      case rel => exact ⟨k + 1, by omega, by go_num, HPG.out _ _ HB.out HD9.out⟩
                      case measure => simp [intOf]; omega
                    · obtain ⟨⟨x0, x1, x2⟩, ⟨y0, y1, y2⟩⟩ := BX.out _ (HGO7.out _ hb).1
                      obtain rfl : k = bps.length := by omega
                      clear hb
                      go_wp2_with fail
                      clear x0 x1 x2 y0 y1 y2
                      go_loopw [114] (fun i wr => ∃ k : Nat, k ≤ bks.length ∧ i = .int .i64 k ∧ Below (w6.heap.size + 1) (w6.alloc (.cells #[.string xn, .slice xpa xps.length xpc, .slice xka xks.length xkc] 25)) wr) (fun i _ => bks.length - (intOf i).toNat)
                      case atStart => exact ⟨0, Nat.zero_le _, rfl, HB.out⟩
                      case round =>
                        clear HB
                        obtain ⟨k, hk, rfl, hb⟩ := hrel
                        have HB := Lib.hid hb
                        by_cases hlt : k < bks.length
                        · have hix := HL4.out k hlt
                          obtain ⟨b1, o1, e1, hb1, c0, _⟩ := (INB.out _ (HGO7.out _ hb).1).kcell (i := k) hlt
                          replace c0 : _ = some (Value.string bks[k].name) := c0
                          generalize bks[k].name = s at c0 hix
                          obtain ⟨r, hr⟩ : ∃ r, idxOf (xks.map Nd.name) s = r := ⟨_, rfl⟩
                          rw [hr] at hix
                          have HSB : Hid (∀ V, Below wr.heap.size wr V → (V.cell? ⟨w.heap.size + 1, 2, none⟩ = some (.slice bka bks.length bkc) ∧ V.cell? ⟨w6.heap.size, 0, none⟩ = some (.string xn) ∧ V.cell? ⟨w6.heap.size, 1, none⟩ = some (.slice xpa xps.length xpc) ∧ V.cell? ⟨w6.heap.size, 2, none⟩ = some (.slice xka xks.length xkc)) ∧ V.cell? ⟨b1, o1 + k * 3, none⟩ = some (.string s)) := Lib.hid (fun V hV => by
                            have h7 := HGO7.out V (HPG.out _ _ HB.out hV)
                            exact ⟨⟨(BX.out V h7.1).2.2.2, h7.2.1⟩, (hV.cell (p := ⟨b1, o1 + k * 3, none⟩) hb1).trans c0⟩)
                          have CF := Lib.hid (fun V (hV : Below wr.heap.size wr V) => refkid_any (.mk xn xpa xpc xps xka xkc xks) s V (HGO7.out V (HPG.out _ _ HB.out hV)).2.2 r hr.symm)
                          simp only [Nd.val, Nd.pv, Nd.kv, Nd.name, Nd.pa, Nd.pc, Nd.props, Nd.ka, Nd.kc, Nd.kids] at CF
                          obtain rfl : bka = _ := e1
                          have HD := Lib.hid (Below.refl wr.heap.size wr).drew
                          have q1 : decide (r < 0) = false := decide_eq_false (by omega)
                          clear c0 hb hb1 hr
                          go_wp2_with fail
                          refine wp_region_held_drew (S := fun V => (V.cell? ⟨w.heap.size + 1, 2, none⟩ = some (.slice (some ⟨b1, o1, none⟩) bks.length bkc) ∧ V.cell? ⟨w6.heap.size, 0, none⟩ = some (.string xn) ∧ V.cell? ⟨w6.heap.size, 1, none⟩ = some (.slice xpa xps.length xpc) ∧ V.cell? ⟨w6.heap.size, 2, none⟩ = some (.slice xka xks.length xkc)) ∧ V.cell? ⟨b1, o1 + k * 3, none⟩ = some (.string s)) (by kernel_rfl) (HSB.out _ HD.out) (fun hHeld => ?_)
                          refine held_take 0 rfl (by kernel_rfl) (by kernel_rfl) (by kernel_rfl) (fun _ _ _ h => h) (by rfl) hHeld (v := ?_) (fun w hSw => ?_) (fun _ => ?_)
                          rotate_left
                          · ((try dsimp only at hSw); go_simp; (try with_reducible rfl))
                          simp only [Act.put, List.setIfInBounds_toArray, List.set_cons_zero, List.set_cons_succ]
                          refine held_take 1 rfl (by kernel_rfl) (by kernel_rfl) (by kernel_rfl) (fun _ _ _ h => h) (by rfl) hHeld (v := ?_) (fun w hSw => ?_) (fun _ => ?_)
                          rotate_left
                          · ((try dsimp only at hSw); go_simp; (try with_reducible rfl))
                          simp only [Act.put, List.setIfInBounds_toArray, List.set_cons_zero, List.set_cons_succ]
                          refine held_take 2 rfl (by kernel_rfl) (by kernel_rfl) (by kernel_rfl) (fun _ _ _ h => h) (by rfl) hHeld (v := ?_) (fun w hSw => ?_) (fun _ => ?_)
                          rotate_left
                          · ((try dsimp only at hSw); go_simp; (try with_reducible rfl))
                          simp only [Act.put, List.setIfInBounds_toArray, List.set_cons_zero, List.set_cons_succ]
                          refine held_take 3 rfl (by kernel_rfl) (by kernel_rfl) (by kernel_rfl) (fun _ _ _ h => h) (by rfl) hHeld (v := ?_) (fun w hSw => ?_) (fun _ => ?_)
                          rotate_left
                          · ((try dsimp only at hSw); go_simp; (try with_reducible rfl))
                          simp only [Act.put, List.setIfInBounds_toArray, List.set_cons_zero, List.set_cons_succ]
                          refine held_take 4 rfl (by kernel_rfl) (by kernel_rfl) (by kernel_rfl) (fun _ _ _ h => h) (by rfl) hHeld (v := ?_) (fun w hSw => ?_) (fun _ => ?_)
                          rotate_left
                          · ((try dsimp only at hSw); go_simp; (try with_reducible rfl))
                          simp only [Act.put, List.setIfInBounds_toArray, List.set_cons_zero, List.set_cons_succ]
                          refine held_take 5 rfl (by kernel_rfl) (by kernel_rfl) (by kernel_rfl) (fun _ _ _ h => h) (by rfl) hHeld (v := ?_) (fun w hSw => ?_) (fun _ => ?_)
                          rotate_left
                          · ((try dsimp only at hSw); go_simp; (try with_reducible rfl))
                          simp only [Act.put, List.setIfInBounds_toArray, List.set_cons_zero, List.set_cons_succ]
                          refine held_take 6 rfl (by kernel_rfl) (by kernel_rfl) (by kernel_rfl) (fun _ _ _ h => h) (by rfl) hHeld (v := ?_) (fun w hSw => ?_) (fun _ => ?_)
                          rotate_left
                          · ((try dsimp only at hSw); go_simp; (try with_reducible rfl))
                          simp only [Act.put, List.setIfInBounds_toArray, List.set_cons_zero, List.set_cons_succ]
                          refine held_call 7 (by kernel_rfl) rfl (by rfl) (fun K hK => ?_)
                          go_simp
                          refine (CF.out _ HD.out).mono ?_
                          rintro e w8 ⟨rfl, hb8⟩
                          have HD8 := Lib.hid (HD.out.trans hb8)
                          clear hb8
                          dsimp only
                          refine hK.out _ _ (HSB.out _ HD8.out) (fun hHeld => ?_)
                          clear hK K
                          refine held_take 8 rfl (by kernel_rfl) (by kernel_rfl) (by kernel_rfl) (fun _ _ _ h => h) (by rfl) hHeld (v := ?_) (fun w hSw => ?_) (fun _ => ?_)
                          rotate_left
                          · ((try dsimp only at hSw); go_simp; (try with_reducible rfl))
                          simp only [Act.put, List.setIfInBounds_toArray, List.set_cons_zero, List.set_cons_succ]
                          refine wpAnyH_done (by kernel_rfl) ?_ _
                          clear hHeld
                          go_wp2
                          go_roundw
                          case rel => exact ⟨k + 1, by omega, by go_num, HPG.out _ _ HB.out HD8.out⟩
                          case measure => simp [intOf]; omega
                        · obtain ⟨⟨x0, x1, x2⟩, ⟨y0, y1, y2⟩⟩ := BX.out _ (HGO7.out _ hb).1
                          obtain ⟨u0, u1, u2⟩ := (HGO7.out _ hb).2.1
                          have q1 : (xn.toList == xn.toList) = true := by simp
                          have CU := Lib.hid (unique_any (.mk xn xpa xpc xps xka xkc xks) wr (HGO7.out _ hb).2.2)
                          simp only [Nd.val, Nd.pv, Nd.kv, Nd.name, Nd.pa, Nd.pc, Nd.props, Nd.ka, Nd.kc, Nd.kids] at CU
                          obtain rfl : k = bks.length := by omega
                          clear hb
                          go_wp2_with fail
                          refine CU.out.mono ?_
                          rintro e w8 ⟨⟨u, rfl, hu⟩, hb8⟩
                          obtain rfl : u = true := hu.2 HUX.out
                          have HB8 := Lib.hid (HPG.out _ _ HB.out hb8)
                          clear hb8 hu x0 x1 x2 y0 y1 y2 u0 u1 u2
                          go_wp2
                          go_ret
                          exact ⟨rfl, OUT.out _ (HGO7.out _ HB8.out).1⟩
end Go.Proofs.Ytfekjihjifimcaa
