/-
  Base, part 4: what the proofs of this claim lean on.
-/
import Derived.Test.YtfekjihjifimcaaBase3
import Derived.Test.YtfekjihjifimcaaBase2

/-! Layer 10: the document's Merge (written by mkqmerge.py). -/
namespace Go.Proofs.Ytfekjihjifimcaa
open Go.RowKit
set_option linter.unusedVariables false
set_option linter.unusedSimpArgs false

/-- What a merge answers: a node that shows the two, the second laid over the first; and where it may lie. -/
def MergeOut (D : Nat → Prop) (a b : Nd) (w w' : World) (e : Ending) : Prop :=
  ∃ n : Nd, e = .returned n.val ∧ n.In w' w'.heap.size ∧ n.At (fun g => D g ∨ w.heap.size ≤ g) ∧ pureN n = mergeN (pureN b) (pureN a)

theorem merge_sizes {P : List PV} {K : List Nd} {N : Nat} (hP : szPs (P.map PV.pure) ≤ N) (hK : hpL (K.map pureN) ≤ N) (hN : N ≤ 1099511627776) : P.length * 40 ≤ 140737488351232 ∧ K.length * 64 ≤ 140737488351232 ∧ P.length ≤ 1099511627776 ∧ K.length ≤ 1099511627776 := by
  have h1 := szPs_len (P.map PV.pure)
  have h2 := hpL_len (K.map pureN)
  rw [List.length_map] at h1 h2
  omega

theorem szPs_take (l : List (ByteArray × List Int)) (k : Nat) : szPs (l.take k) ≤ szPs l := by
  have h := List.take_append_drop k l
  have : szPs l = szPs (l.take k) + szPs (l.drop k) := by
    unfold szPs
    rw [← List.sum_append, ← List.map_append, h]
  omega
theorem hpL_append : ∀ a b : List PN, hpL (a ++ b) = hpL a + hpL b
  | [], b => by simp [hpL]
  | x :: a, b => by rw [List.cons_append, hpL, hpL, hpL_append a b]; omega
theorem hpL_take (l : List PN) (k : Nat) : hpL (l.take k) ≤ hpL l := by
  have h := hpL_append (l.take k) (l.drop k)
  rw [List.take_append_drop] at h
  omega
section
variable {V0 w : World} {B go : Nat} {D : Nat → Prop} {nm : ByteArray} {pv kv : Value} {P : List PV} {K : List Nd}
theorem MS.find (h : MS V0 w B go D nm pv kv P K) (hn : nm.size ≤ 140737488351232) (hp : P.length * 40 ≤ 140737488351232) (hk : K.length * 64 ≤ 140737488351232) (s : ByteArray) (r : Int) (hr : r = idxOf (P.map PV.name) s) :
    Calls Try.prog 12 #[.agg #[.string nm, pv, kv], .string s] w fun e w' => e = .returned (.int .i64 r) ∧ Below w.heap.size w w' := by
  have e : (ndM nm pv kv P K).props = P := by
    obtain ⟨g, c, rfl⟩ := h.pform
    obtain ⟨g', c', rfl⟩ := h.kform
    rfl
  have := reffind_any (ndM nm pv kv P K) s w (h.node hn hp hk) r (by rw [e]; exact hr)
  rw [h.val] at this
  exact this
theorem MS.kid (h : MS V0 w B go D nm pv kv P K) (hn : nm.size ≤ 140737488351232) (hp : P.length * 40 ≤ 140737488351232) (hk : K.length * 64 ≤ 140737488351232) (s : ByteArray) (r : Int) (hr : r = idxOf (K.map Nd.name) s) :
    Calls Try.prog 13 #[.agg #[.string nm, pv, kv], .string s] w fun e w' => e = .returned (.int .i64 r) ∧ Below w.heap.size w w' := by
  have e : (ndM nm pv kv P K).kids = K := by
    obtain ⟨g, c, rfl⟩ := h.pform
    obtain ⟨g', c', rfl⟩ := h.kform
    rfl
  have := refkid_any (ndM nm pv kv P K) s w (h.node hn hp hk) r (by rw [e]; exact hr)
  rw [h.val] at this
  exact this
theorem MS.fresh (h : MS V0 w B go D nm pv kv P K) (g : Nat) (hg : FreeM D B go pv kv g ∨ w.heap.size ≤ g) : FreeM D B go pv kv g := by
  rcases hg with hg | hg
  · exact hg
  · have h1 := h.golt
    have h2 := h.size
    exact ⟨by omega, fun e => by have := (h.prow.lt g e).2; omega, fun e => by have := (h.krow.lt g e).2; omega, .inr (by omega)⟩
theorem MS.nodeAt (h : MS V0 w B go D nm pv kv P K) : (ndM nm pv kv P K).At (fun g => D g ∨ B ≤ g) := by
  obtain ⟨g, c, rfl⟩ := h.pform
  obtain ⟨g', c', rfl⟩ := h.kform
  have h1 := (h.prow.lt g rfl).1
  have h2 := (h.krow.lt g' rfl).1
  refine .mk _ (fun _ b o e => ?_) (fun p hp => PV.At.mono (h.props p hp).2 (fun g hg => hg.2.2.2)) (fun _ b o e => ?_) (fun k hk => Nd.At.mono (fun g hg => hg.2.2.2) (h.kids k hk).2)
  · have e' : (some ⟨g, 0, none⟩ : Option Addr) = some ⟨b, o, none⟩ := e
    simp only [Option.some.injEq, Addr.mk.injEq] at e'
    omega
  · have e' : (some ⟨g', 0, none⟩ : Option Addr) = some ⟨b, o, none⟩ := e
    simp only [Option.some.injEq, Addr.mk.injEq] at e'
    omega
end
theorem cutM {P Q : Prop} (h : P → Q) (k : P) : Q := h k
theorem pure_names (P : List PV) : (P.map PV.pure).map Prod.fst = P.map PV.name := by rw [List.map_map]; rfl
theorem pure_knames (K : List Nd) : (K.map pureN).map PN.name = K.map Nd.name := by
  rw [List.map_map]
  exact List.map_congr_left fun k _ => by rw [Function.comp, pureN_mk]; rfl

set_option maxRecDepth 100000 in
set_option maxHeartbeats 16000000 in
theorem refmerge_any : ∀ (b a : Nd) (D : Nat → Prop) (w : World), a.In w w.heap.size → b.In w w.heap.size → a.At D → b.At D → heftN a + heftN b ≤ 1099511627776 →
    Calls Try.prog 10 #[a.val, b.val] w fun e w' => MergeOut D a b w w' e ∧ Below w.heap.size w w' := by
  refine Nd.ind ?_
  intro b ih a D w hina hinb hata hatb hheft
  obtain ⟨bn, bpa, bpc, bps, bka, bkc, bks⟩ := b
  obtain ⟨nm, pa, pc, ps, ka, kc, ks⟩ := a
  have HA := Lib.hid hina
  have HBn := Lib.hid hinb
  have hina' := hina
  obtain ⟨hl1, hm1⟩ : ps.length ≤ pc ∧ pc ≤ 9223372036854775807 := hina.plen
  obtain ⟨hl2, hm2⟩ : ks.length ≤ kc ∧ kc ≤ 9223372036854775807 := hina.klen
  obtain ⟨hl3, hm3⟩ : bps.length ≤ bpc ∧ bpc ≤ 9223372036854775807 := hinb.plen
  obtain ⟨hl4, hm4⟩ : bks.length ≤ bkc ∧ bkc ≤ 9223372036854775807 := hinb.klen
  have hnm : nm.size ≤ 140737488351232 := hina.name_le.1
  rw [heft_hp, heft_hp] at hheft
  have hsz : 16 + nm.size + szPs (ps.map PV.pure) + hpL (ks.map pureN) + (16 + bn.size + szPs (bps.map PV.pure) + hpL (bks.map pureN)) ≤ 1099511627776 := by
    have := hheft
    simp only [pureN_mk, hpN, Nd.name, Nd.props, Nd.kids] at this
    exact this
  obtain ⟨D1, hD1⟩ : ∃ D1 : Nat → Prop, D1 = fun g => D g ∧ g < w.heap.size := ⟨_, rfl⟩
  have hpa := (Nd.At.mono (D' := D1) (fun g h => by rw [hD1]; exact h) (Nd.At.lows hina hata)).parts
  have hpb := (Nd.At.mono (D' := D1) (fun g h => by rw [hD1]; exact h) (Nd.At.lows hinb hatb)).parts
  have HD1 : Hid (∀ g, D1 g → D g ∧ g < w.heap.size) := Lib.hid (fun g h => by rw [hD1] at h; exact h)
  clear hD1
  have HSZ := Lib.hid hsz
  have IH := Lib.hid ih
  have HPA := Lib.hid hpa
  have HPB := Lib.hid hpb
  have HB0 := Lib.hid ((((Below.refl w.heap.size w).alloc (Nat.le_refl _) (.cells #[.string nm, .slice pa ps.length pc, .slice ka ks.length kc] 25)).alloc (by simp) (.cells #[.string bn, .slice bpa bps.length bpc, .slice bka bks.length bkc] 25)).alloc (by simp; omega) (.cells #[.string ⟨#[]⟩, .slice none 0 0, .slice none 0 0] 25))
  have hx : ∀ W, Below (w.heap.size + 1 + 1 + 1) (((w.alloc (.cells #[.string nm, .slice pa ps.length pc, .slice ka ks.length kc] 25)).alloc (.cells #[.string bn, .slice bpa bps.length bpc, .slice bka bks.length bkc] 25)).alloc (.cells #[.string ⟨#[]⟩, .slice none 0 0, .slice none 0 0] 25)) W → (W.cell? ⟨w.heap.size, 0, none⟩ = some (.string nm) ∧ W.cell? ⟨w.heap.size, 1, none⟩ = some (.slice pa ps.length pc) ∧ W.cell? ⟨w.heap.size, 2, none⟩ = some (.slice ka ks.length kc)) ∧ (W.cell? ⟨w.heap.size + 1, 1, none⟩ = some (.slice bpa bps.length bpc) ∧ W.cell? ⟨w.heap.size + 1, 2, none⟩ = some (.slice bka bks.length bkc)) ∧ (∀ i, W.frozen? ⟨w.heap.size + 1 + 1, i, none⟩ = false) ∧ W.cell? ⟨w.heap.size + 1 + 1, 0, none⟩ = some (.string ⟨#[]⟩) ∧ W.cell? ⟨w.heap.size + 1 + 1, 1, none⟩ = some (.slice none 0 0) ∧ W.cell? ⟨w.heap.size + 1 + 1, 2, none⟩ = some (.slice none 0 0) := fun W h => by
    have e1 : (w.alloc (.cells #[.string nm, .slice pa ps.length pc, .slice ka ks.length kc] 25)).heap.size = w.heap.size + 1 := by simp
    have e2 : ((w.alloc (.cells #[.string nm, .slice pa ps.length pc, .slice ka ks.length kc] 25)).alloc (.cells #[.string bn, .slice bpa bps.length bpc, .slice bka bks.length bkc] 25)).heap.size = w.heap.size + 1 + 1 := by simp
    have k0 : W.heap[w.heap.size]? = some (.cells #[.string nm, .slice pa ps.length pc, .slice ka ks.length kc] 25 (0, 0)) := (h.block _ (by omega)).trans (((heap_alloc_old _ _ (by simp; omega)).trans (heap_alloc_old _ _ (by simp))).trans (heap_alloc_new w _))
    have k1 : W.heap[w.heap.size + 1]? = some (.cells #[.string bn, .slice bpa bps.length bpc, .slice bka bks.length bkc] 25 (0, 0)) := (h.block _ (by omega)).trans ((heap_alloc_old _ _ (by simp)).trans (by rw [← e1]; exact heap_alloc_new _ _))
    have k2 : W.heap[w.heap.size + 1 + 1]? = some (.cells #[.string ⟨#[]⟩, .slice none 0 0, .slice none 0 0] 25 (0, 0)) := (h.block _ (by omega)).trans (by rw [← e2]; exact heap_alloc_new _ _)
    refine ⟨⟨?_, ?_, ?_⟩, ⟨?_, ?_⟩, fun i => frozen_of_row W _ i _ _ k2, ?_, ?_, ?_⟩ <;> first | (rw [cell_of_row W _ _ _ _ (0, 0) k0]; rfl) | (rw [cell_of_row W _ _ _ _ (0, 0) k1]; rfl) | (rw [cell_of_row W _ _ _ _ (0, 0) k2]; rfl)
  have BX := Lib.hid hx
  have hs0 : w.heap.size + 1 + 1 + 1 ≤ (((w.alloc (.cells #[.string nm, .slice pa ps.length pc, .slice ka ks.length kc] 25)).alloc (.cells #[.string bn, .slice bpa bps.length bpc, .slice bka bks.length bkc] 25)).alloc (.cells #[.string ⟨#[]⟩, .slice none 0 0, .slice none 0 0] 25)).heap.size := by simp
  have HS0 := Lib.hid hs0
  have HNM := Lib.hid hnm
  have HPR : Hid (∀ W, Below (w.heap.size + 1 + 1 + 1) (((w.alloc (.cells #[.string nm, .slice pa ps.length pc, .slice ka ks.length kc] 25)).alloc (.cells #[.string bn, .slice bpa bps.length bpc, .slice bka bks.length bkc] 25)).alloc (.cells #[.string ⟨#[]⟩, .slice none 0 0, .slice none 0 0] 25)) W → w.heap.size + 1 + 1 + 1 ≤ W.heap.size → PRow W W.heap.size pa ps ∧ KRow W W.heap.size ka ks) := Lib.hid (fun W hW hs => by
    have h := (HA.out.under (HB0.out.trans (hW.mono (by omega)))).more (show w.heap.size ≤ W.heap.size by omega)
    exact ⟨h.prow, h.krow⟩)
  have HLN : Hid (ps.length ≤ 1099511627776 ∧ ks.length ≤ 1099511627776) := Lib.hid (by
    have h1 := szPs_len (ps.map PV.pure)
    have h2 := hpL_len (ks.map pureN)
    rw [List.length_map] at h1 h2
    omega)
  have HPK : Hid ((∀ p ∈ ps, p.In (((w.alloc (.cells #[.string nm, .slice pa ps.length pc, .slice ka ks.length kc] 25)).alloc (.cells #[.string bn, .slice bpa bps.length bpc, .slice bka bks.length bkc] 25)).alloc (.cells #[.string ⟨#[]⟩, .slice none 0 0, .slice none 0 0] 25)) (w.heap.size + 1 + 1 + 1) ∧ p.At (fun g => D1 g ∧ g < w.heap.size + 1 + 1 + 1)) ∧ (∀ k ∈ ks, k.In (((w.alloc (.cells #[.string nm, .slice pa ps.length pc, .slice ka ks.length kc] 25)).alloc (.cells #[.string bn, .slice bpa bps.length bpc, .slice bka bks.length bkc] 25)).alloc (.cells #[.string ⟨#[]⟩, .slice none 0 0, .slice none 0 0] 25)) (w.heap.size + 1 + 1 + 1) ∧ k.At (fun g => D1 g ∧ g < w.heap.size + 1 + 1 + 1))) := Lib.hid (by
    have h := Nd.In.under HA.out HB0.out
    exact ⟨fun p hp => ⟨(h.prop hp).more (by omega), PV.At.mono (hpa.2.1 p hp) (fun g hg => ⟨hg, by have := (HD1.out g hg).2; omega⟩)⟩, fun k hk => ⟨(h.kid hk).more (by omega), Nd.At.mono (fun g hg => ⟨hg, by have := (HD1.out g hg).2; omega⟩) (hpa.2.2.2 k hk)⟩⟩)
  clear hina hinb hata hatb hpa hpb hheft hsz ih hx hs0 hina' hnm
  show Calls _ _ #[.agg #[.string nm, .slice pa ps.length pc, .slice ka ks.length kc], .agg #[.string bn, .slice bpa bps.length bpc, .slice bka bks.length bkc]] _ _
  go_enter Try.func10, Try.ntmps10
  go_wp2_with fail
  refine code_cut (R := fun a' W => ∃ go pv kv u10 u11 u12 u13 u14 u15 u16 u17 u18 u19 u20, a' = { tmps := #[.agg #[.string nm, .slice pa ps.length pc, .slice ka ks.length kc], .agg #[.string bn, .slice bpa bps.length bpc, .slice bka bks.length bkc], .pointer (some ⟨w.heap.size, 0, none⟩), .pointer (some ⟨w.heap.size + 1, 0, none⟩), .pointer (some ⟨w.heap.size + 1 + 1, 0, none⟩), .pointer (some ⟨go, 0, none⟩), undef, undef, undef, undef, u10, u11, u12, u13, u14, u15, u16, u17, u18, u19, u20, undef, undef, undef, undef, undef, undef, undef, undef, undef, undef, undef, undef, undef, undef, undef, undef, undef, undef, undef, undef, undef, undef, undef, undef, undef, undef, undef, undef, undef, undef, undef, undef, undef, undef, undef, undef, undef, undef, undef, undef, undef, undef, undef, undef, undef, undef, undef, undef, undef, undef, undef, undef, undef, undef, undef, undef, undef, undef, undef, undef, undef, undef, undef, undef, undef, undef, undef, undef, undef, undef, undef, undef, undef, undef, undef, undef, undef, undef, undef], defers := [] } ∧ MS (((w.alloc (.cells #[.string nm, .slice pa ps.length pc, .slice ka ks.length kc] 25)).alloc (.cells #[.string bn, .slice bpa bps.length bpc, .slice bka bks.length bkc] 25)).alloc (.cells #[.string ⟨#[]⟩, .slice none 0 0, .slice none 0 0] 25)) W (w.heap.size + 1 + 1 + 1) go D1 nm pv kv ps ks) ?first ?rest
  case first =>
    refine wp_region_held_drew (S := fun W => W.cell? ⟨w.heap.size, 0, none⟩ = some (.string nm) ∧ W.cell? ⟨w.heap.size, 1, none⟩ = some (.slice pa ps.length pc) ∧ W.cell? ⟨w.heap.size, 2, none⟩ = some (.slice ka ks.length kc)) (by kernel_rfl) (BX.out _ (Below.refl _ _)).1 (fun hHeld => ?_)
    refine held_take 0 rfl (by kernel_rfl) (by kernel_rfl) (by kernel_rfl) (fun _ _ _ h => absurd h.1 (by intro h'; cases h')) (by rfl) hHeld (v := ?_) (fun w hSw => ?_) (fun _ => ?_)
    rotate_left
    · ((try dsimp only at hSw); go_simp; (try with_reducible rfl))
    simp only [Act.put, List.setIfInBounds_toArray, List.set_cons_zero, List.set_cons_succ]
    refine held_take 1 rfl (by kernel_rfl) (by kernel_rfl) (by kernel_rfl) (fun _ _ _ h => absurd h.1 (by intro h'; cases h')) (by rfl) hHeld (v := ?_) (fun w hSw => ?_) (fun _ => ?_)
    rotate_left
    · ((try dsimp only at hSw); go_simp; (try with_reducible rfl))
    simp only [Act.put, List.setIfInBounds_toArray, List.set_cons_zero, List.set_cons_succ]
    refine held_take 3 rfl (by kernel_rfl) (by kernel_rfl) (by kernel_rfl) (fun _ _ _ h => absurd h.1 (by intro h'; cases h')) (by rfl) hHeld (v := ?_) (fun w hSw => ?_) (fun _ => ?_)
    rotate_left
    · ((try dsimp only at hSw); go_simp; (try with_reducible rfl))
    simp only [Act.put, List.setIfInBounds_toArray, List.set_cons_zero, List.set_cons_succ]
    refine held_take 4 rfl (by kernel_rfl) (by kernel_rfl) (by kernel_rfl) (fun _ _ _ h => absurd h.1 (by intro h'; cases h')) (by rfl) hHeld (v := ?_) (fun w hSw => ?_) (fun _ => ?_)
    rotate_left
    · ((try dsimp only at hSw); go_simp; (try with_reducible rfl))
    simp only [Act.put, List.setIfInBounds_toArray, List.set_cons_zero, List.set_cons_succ]
    refine held_take 7 rfl (by kernel_rfl) (by kernel_rfl) (by kernel_rfl) (fun _ _ _ h => absurd h.1 (by intro h'; cases h')) (by rfl) hHeld (v := ?_) (fun w hSw => ?_) (fun _ => ?_)
    rotate_left
    · ((try dsimp only at hSw); go_simp; (try with_reducible rfl))
    simp only [Act.put, List.setIfInBounds_toArray, List.set_cons_zero, List.set_cons_succ]
    refine held_take 8 rfl (by kernel_rfl) (by kernel_rfl) (by kernel_rfl) (fun _ _ _ h => absurd h.1 (by intro h'; cases h')) (by rfl) hHeld (v := ?_) (fun w hSw => ?_) (fun _ => ?_)
    rotate_left
    · ((try dsimp only at hSw); go_simp; (try with_reducible rfl))
    simp only [Act.put, List.setIfInBounds_toArray, List.set_cons_zero, List.set_cons_succ]
    refine phase0 (I := fun a0 n L a W => ∃ b2 b5 b6 b9 b10 b11 u12 u15 u16 u19 u20 u5, L = #[true, true, b2, true, true, b5, b6, true, true, b9, b10, b11, false] ∧ n + (b2.toNat + b5.toNat + b6.toNat + b9.toNat + b10.toNat + b11.toNat) = 7 ∧ a = SixM a0 u12 u15 u16 u19 u20 u5 ∧ MF (((w.alloc (.cells #[.string nm, .slice pa ps.length pc, .slice ka ks.length kc] 25)).alloc (.cells #[.string bn, .slice bpa bps.length bpc, .slice bka bks.length bkc] 25)).alloc (.cells #[.string ⟨#[]⟩, .slice none 0 0, .slice none 0 0] 25)) W (w.heap.size + 1 + 1 + 1) ps ks b2 b5 b6 b9 b11 u12 u15 u16 u19 u5 ∧ (b10 = true → b9 = true ∧ u20 = .agg #[.string nm, u15, u19])) ?_ ?_
    · exact ⟨false, false, false, false, false, false, undef, undef, undef, undef, undef, undef, rfl, rfl, rfl, MF.start (Below.refl _ _).drew HS0.out, fun h => by (cases h)⟩
    · rintro n L a W ⟨b2, b5, b6, b9, b10, b11, u12, u15, u16, u19, u20, u5, rfl, hn, rfl, hmf, h10⟩ hih
      by_cases hall : (b2 && b5 && b6 && b9 && b10 && b11) = true
      · simp only [Bool.and_eq_true] at hall
        obtain ⟨⟨⟨⟨⟨rfl, rfl⟩, rfl⟩, rfl⟩, rfl⟩, rfl⟩ := hall
        obtain rfl : n = 1 := by simp only [Bool.toNat_true] at hn; omega
        obtain ⟨_, rfl⟩ := h10 rfl
        obtain ⟨go, rfl, hfr, hc0, hc1, hc2, hms⟩ := hmf.done nm HPK.out.1 HPK.out.2
        obtain ⟨_, _, rfl⟩ := hms.pform
        obtain ⟨_, _, rfl⟩ := hms.kform
        clear hmf hih hn h10
        simp only [SixM, Act.put, List.setIfInBounds_toArray, List.set_cons_zero, List.set_cons_succ]
        refine held_call 12 (by kernel_rfl) rfl (by rfl) (fun K hK => ?_)
        go_simp
        refine hK.out _ _ (BX.out _ hms.below).1 (fun _ => ?_)
        clear hK K
        refine wpAnyH_done (by kernel_rfl) ?_ _
        exact ⟨rfl, go, _, _, _, _, _, _, _, _, _, _, _, _, _, rfl, hms⟩
      · have t2 := b2.toNat_le
        have t5 := b5.toNat_le
        have t6 := b6.toNat_le
        have t9 := b9.toNat_le
        have t10 := b10.toNat_le
        have t11 := b11.toNat_le
        obtain ⟨m, rfl⟩ : ∃ m, n = m + 1 := ⟨n - 1, by omega⟩
        refine any_step ?_ ?_
        · cases b2 <;> cases b5 <;> cases b6 <;> cases b9 <;> cases b10 <;> cases b11 <;> first | exact absurd rfl hall | exact ready_ne (by kernel_rfl)
        · intro i hi
          have hlt : i < 13 := ready_lt hi
          rcases (by omega : i = 0 ∨ i = 1 ∨ i = 2 ∨ i = 3 ∨ i = 4 ∨ i = 5 ∨ i = 6 ∨ i = 7 ∨ i = 8 ∨ i = 9 ∨ i = 10 ∨ i = 11 ∨ i = 12) with rfl | rfl | rfl | rfl | rfl | rfl | rfl | rfl | rfl | rfl | rfl | rfl | rfl
          · exact absurd (show true = false from not_come hi) (by decide)
          · exact absurd (show true = false from not_come hi) (by decide)
          · obtain rfl : b2 = false := not_come hi
            have hnf' := hmf.op2
            refine one_op rfl rfl (fun K hK => ?_)
            refine wp_run (v := .slice (some ⟨W.heap.size, 0, none⟩) 0 0) (w' := W.alloc (.cells #[] 32)) (by go_simp) ?_
            exact hK.out _ _ (BX.out _ hnf'.below).1 (fun _ => hih m (by omega) _ _ _ ⟨true, b5, b6, b9, b10, b11, _, _, _, _, _, _, rfl, (by simp only [Bool.toNat_true, Bool.toNat_false] at hn ⊢; omega), sixm12 _ _ _ _ _ _ _ _, hnf', h10⟩)
          · exact absurd (show true = false from not_come hi) (by decide)
          · exact absurd (show true = false from not_come hi) (by decide)
          · obtain rfl : b5 = false := not_come hi
            obtain rfl : b2 = true := came (j := 2) (g := .data) rfl hi (by simp) (by rfl)
            obtain ⟨v', W', hrun, hnf'⟩ := hmf.op5 pc (HPR.out W hmf.below hmf.size).1 HLN.out.1 22
            refine one_op rfl rfl (fun K hK => ?_)
            refine Lib.wp_append_run_sl _ _ _ _ rfl _ _ (sixm_at12 _ _ _ _ _ _ _ (show 12 < 100 by omega)) ((sixm_far _ _ _ _ _ _ _ 14 (by decide) (by decide) (by decide) (by decide) (by decide) (by decide)).trans rfl) hrun ?_
            exact hK.out _ _ (BX.out _ hnf'.below).1 (fun _ => hih m (by omega) _ _ _ ⟨true, true, b6, b9, b10, b11, _, _, _, _, _, _, rfl, (by simp only [Bool.toNat_true, Bool.toNat_false] at hn ⊢; omega), sixm15 _ _ _ _ _ _ _ _, hnf', fun h => absurd (hmf.i95 (h10 h).1) (by decide)⟩)
          · obtain rfl : b6 = false := not_come hi
            have hnf' := hmf.op6
            refine one_op rfl rfl (fun K hK => ?_)
            refine wp_run (v := .slice (some ⟨W.heap.size, 0, none⟩) 0 0) (w' := W.alloc (.cells #[] 25)) (by go_simp) ?_
            exact hK.out _ _ (BX.out _ hnf'.below).1 (fun _ => hih m (by omega) _ _ _ ⟨b2, b5, true, b9, b10, b11, _, _, _, _, _, _, rfl, (by simp only [Bool.toNat_true, Bool.toNat_false] at hn ⊢; omega), sixm16 _ _ _ _ _ _ _ _, hnf', h10⟩)
          · exact absurd (show true = false from not_come hi) (by decide)
          · exact absurd (show true = false from not_come hi) (by decide)
          · obtain rfl : b9 = false := not_come hi
            obtain rfl : b6 = true := came (j := 6) (g := .data) rfl hi (by simp) (by rfl)
            obtain rfl : b5 = true := came (j := 5) (g := .chain) rfl hi (by simp) (by rfl)
            obtain ⟨v', W', hrun, hnf'⟩ := hmf.op9 kc (HPR.out W hmf.below hmf.size).2 HLN.out.2 23
            refine one_op rfl rfl (fun K hK => ?_)
            refine Lib.wp_append_run_sl _ _ _ _ rfl _ _ (sixm_at16 _ _ _ _ _ _ _ (show 16 < 100 by omega)) ((sixm_far _ _ _ _ _ _ _ 18 (by decide) (by decide) (by decide) (by decide) (by decide) (by decide)).trans rfl) hrun ?_
            exact hK.out _ _ (BX.out _ hnf'.below).1 (fun _ => hih m (by omega) _ _ _ ⟨b2, true, true, true, b10, b11, _, _, _, _, _, _, rfl, (by simp only [Bool.toNat_true, Bool.toNat_false] at hn ⊢; omega), sixm19 _ _ _ _ _ _ _ _, hnf', fun h => absurd (h10 h).1 (by decide)⟩)
          · obtain rfl : b10 = false := not_come hi
            obtain rfl : b9 = true := came (j := 9) (g := .data) rfl hi (by simp) (by rfl)
            obtain ⟨gk, ck, rfl⟩ := (hmf.f9 rfl).2
            obtain ⟨gp, cp, rfl⟩ := (hmf.f5 (hmf.i95 rfl)).2
            have e11 : ∀ (a0 : Act) (x y : Value), (SixM a0 u12 x u16 y u20 u5).eval (.tmp 11) = a0.eval (.tmp 11) := fun a0 x y => sixm_far _ _ _ _ _ _ _ 11 (by decide) (by decide) (by decide) (by decide) (by decide) (by decide)
            have e15 := fun (a0 : Act) (x y : Value) (h : 15 < a0.tmps.size) => sixm_at15 a0 u12 x u16 y u20 u5 h
            have e19 := fun (a0 : Act) (x y : Value) (h : 19 < a0.tmps.size) => sixm_at19 a0 u12 x u16 y u20 u5 h
            refine one_op rfl rfl (fun K hK => ?_)
            refine wp_run (v := .agg #[.string nm, .slice (some ⟨gp, 0, none⟩) ps.length cp, .slice (some ⟨gk, 0, none⟩) ks.length ck]) (w' := W) ?_ ?_
            · unfold execOp
              simp only [List.map_toArray, List.map_cons, List.map_nil]
              rw [e11, e15, e19]
              · go_simp
              · show 19 < 100; omega
              · show 15 < 100; omega
            exact hK.out _ _ (BX.out _ hmf.below).1 (fun _ => hih m (by omega) _ _ _ ⟨b2, b5, b6, true, true, b11, _, _, _, _, _, _, rfl, (by simp only [Bool.toNat_true, Bool.toNat_false] at hn ⊢; omega), sixm20 _ _ _ _ _ _ _ _, hmf, fun _ => ⟨rfl, rfl⟩⟩)
          · obtain rfl : b11 = false := not_come hi
            have hnf' := hmf.op11
            refine one_op rfl rfl (fun K hK => ?_)
            refine wp_run (v := .pointer (some ⟨W.heap.size, 0, none⟩)) (w' := W.alloc (.cells #[.string ⟨#[]⟩, .slice none 0 0, .slice none 0 0] 25)) (by go_simp) ?_
            exact hK.out _ _ (BX.out _ hnf'.below).1 (fun _ => hih m (by omega) _ _ _ ⟨b2, b5, b6, b9, b10, true, _, _, _, _, _, _, rfl, (by simp only [Bool.toNat_true, Bool.toNat_false] at hn ⊢; omega), sixm5 _ _ _ _ _ _ _ _, hnf', h10⟩)
          · obtain rfl : b10 = true := came (j := 10) (g := .data) rfl hi (by simp) (by rfl)
            obtain rfl : b11 = true := came (j := 11) (g := .data) rfl hi (by simp) (by rfl)
            obtain ⟨rfl, _⟩ := h10 rfl
            obtain rfl := hmf.i95 rfl
            obtain rfl := hmf.i96 rfl
            obtain rfl := hmf.i52 rfl
            exact absurd rfl hall
  case rest =>
    rintro a' W1 ⟨go, pv, kv, u10, u11, u12, u13, u14, u15, u16, u17, u18, u19, u20, rfl, hms⟩
    generalize hWZ : (((w.alloc (.cells #[.string nm, .slice pa ps.length pc, .slice ka ks.length kc] 25)).alloc (.cells #[.string bn, .slice bpa bps.length bpc, .slice bka bks.length bkc] 25)).alloc (.cells #[.string ⟨#[]⟩, .slice none 0 0, .slice none 0 0] 25)) = WZ at *
    clear hWZ
    obtain ⟨_, ⟨y1, y2⟩, _⟩ := BX.out W1 hms.below
    have HMS := Lib.hid hms
    clear hms
    go_wp2_with fail
    clear y1 y2
    go_loopw [24] (fun i wr => ∃ (k : Nat) (pv' : Value) (P : List PV), k ≤ bps.length ∧ i = .int .i64 k ∧ Hid (P.map PV.pure = ((bps.take k).map PV.pure).foldl putP (ps.map PV.pure)) ∧ MS WZ wr (w.heap.size + 1 + 1 + 1) go D1 nm pv' kv P ks) (fun i _ => bps.length - (intOf i).toNat)
    case atStart => exact ⟨0, pv, ps, Nat.zero_le _, rfl, Lib.hid rfl, HMS.out⟩
    case round =>
      obtain ⟨k, pv', P, hk, rfl, HP, hms⟩ := hrel
      have hsP : szPs (P.map PV.pure) ≤ szPs (ps.map PV.pure) + szPs (bps.map PV.pure) := by
        rw [HP.out]
        have h1 := szPs_puts ((bps.take k).map PV.pure) (ps.map PV.pure)
        have h2 := szPs_take (bps.map PV.pure) k
        rw [List.map_take] at h1 ⊢
        omega
      have hszs := merge_sizes (P := P) (K := ks) (N := 1099511627776) (by have := HSZ.out; omega) (by have := HSZ.out; omega) (Nat.le_refl _)
      have HSS := Lib.hid hszs
      have HM := Lib.hid hms
      by_cases hlt : k < bps.length
      · have hbw := HB0.out.trans (hms.below.mono (by omega))
        obtain ⟨b, o, e, hb, c0, c1⟩ := (HBn.out.under hbw).pcell (i := k) hlt
        have HQ := Lib.hid (fun V (hV : Below (w.heap.size + 1 + 1 + 1) WZ V) (hs : w.heap.size + 1 + 1 + 1 ≤ V.heap.size) => show bps[k].In V V.heap.size from PV.In.more ((Nd.In.under HBn.out (HB0.out.trans (hV.mono (by omega)))).prop (List.getElem_mem hlt)) (by omega))
        have HQA := Lib.hid (show PV.At D1 bps[k] from HPB.out.2.1 _ (List.getElem_mem hlt))
        obtain rfl : bpa = _ := e
        have HNX : Hid ((bps.take (k + 1)).map PV.pure = (bps.take k).map PV.pure ++ [PV.pure bps[k]]) := Lib.hid (by rw [List.take_add_one, List.getElem?_eq_getElem hlt, List.map_append]; rfl)
        replace c0 : _ = some (Value.string bps[k].name) := c0
        replace c1 : _ = some (Value.slice bps[k].addr bps[k].zs.length bps[k].cap) := c1
        have HSB : Hid (∀ V, Below (w.heap.size + 1 + 1 + 1) WZ V → (V.cell? ⟨w.heap.size + 1, 1, none⟩ = some (.slice (some ⟨b, o, none⟩) bps.length bpc) ∧ V.cell? ⟨b, o + k * 2, none⟩ = some (.string bps[k].name) ∧ V.cell? ⟨b, o + k * 2 + 1, none⟩ = some (.slice bps[k].addr bps[k].zs.length bps[k].cap))) := Lib.hid (fun V hV => by
          have h1 : ∀ i, V.cell? ⟨b, i, none⟩ = wr.cell? ⟨b, i, none⟩ := fun i => (hV.cell (p := ⟨b, i, none⟩) (by simp; omega)).trans (hms.below.cell (p := ⟨b, i, none⟩) (by simp; omega)).symm
          exact ⟨(BX.out V hV).2.1.1, by rw [h1]; exact c0, by rw [h1]; exact c1⟩)
        generalize hq : bps[k] = q at *
        obtain ⟨qn, qa, qc, qz⟩ := q
        simp only at c0 c1 HSB
        obtain ⟨r, hr⟩ : ∃ r, r = idxOf (P.map PV.name) qn := ⟨_, rfl⟩
        have HR := Lib.hid hr
        have CF := Lib.hid (fun V (hV : Below wr.heap.size wr V) => (HM.out.on hV).find HNM.out HSS.out.1 HSS.out.2.1 qn r hr)
        obtain ⟨gp, pcp, hpf⟩ := hms.pform
        obtain ⟨gk, kcp, hkf⟩ := hms.kform
        have HPF := Lib.hid hpf
        have HKF := Lib.hid hkf
        rw [hpf, hkf] at CF
        have HCX : Hid (∀ V, MS WZ V (w.heap.size + 1 + 1 + 1) go D1 nm pv' kv P ks → V.cell? ⟨go, 0, none⟩ = some (.string nm) ∧ V.cell? ⟨go, 1, none⟩ = some (.slice (some ⟨gp, 0, none⟩) P.length pcp) ∧ V.cell? ⟨go, 2, none⟩ = some (.slice (some ⟨gk, 0, none⟩) ks.length kcp)) := Lib.hid (fun V hV => by
          have := hV.cells
          rw [hpf, hkf] at this
          exact this)
        have HD := Lib.hid (Below.refl wr.heap.size wr).drew
        clear hbw hb c0 c1 hr hms hpf hkf hq hsP hszs
        go_wp2_with fail
        refine wp_region_held_drew (S := fun V => (V.cell? ⟨go, 0, none⟩ = some (.string nm) ∧ V.cell? ⟨go, 1, none⟩ = some (.slice (some ⟨gp, 0, none⟩) P.length pcp) ∧ V.cell? ⟨go, 2, none⟩ = some (.slice (some ⟨gk, 0, none⟩) ks.length kcp)) ∧ (V.cell? ⟨w.heap.size + 1, 1, none⟩ = some (.slice (some ⟨b, o, none⟩) bps.length bpc) ∧ V.cell? ⟨b, o + k * 2, none⟩ = some (.string qn) ∧ V.cell? ⟨b, o + k * 2 + 1, none⟩ = some (.slice qa qz.length qc))) (by kernel_rfl) ⟨HCX.out _ (HM.out.on HD.out), HSB.out _ (HM.out.on HD.out).below⟩ (fun hHeld => ?_)
        refine held_take 0 rfl (by kernel_rfl) (by kernel_rfl) (by kernel_rfl) (fun _ _ _ h => h) (by rfl) hHeld (v := ?_) (fun w hSw => ?_) (fun _ => ?_)
        rotate_left
        · ((try dsimp only at hSw); go_simp; (try with_reducible rfl))
        simp only [Act.put, List.setIfInBounds_toArray, List.set_cons_zero, List.set_cons_succ]
        refine held_take 1 rfl (by kernel_rfl) (by kernel_rfl) (by kernel_rfl) (fun _ _ _ h => h) (by rfl) hHeld (v := ?_) (fun w hSw => ?_) (fun _ => ?_)
        rotate_left
        · ((try dsimp only at hSw); go_simp; (try with_reducible rfl))
        simp only [Act.put, List.setIfInBounds_toArray, List.set_cons_zero, List.set_cons_succ]
        refine held_take 2 rfl (by kernel_rfl) (by kernel_rfl) (by kernel_rfl) (fun _ _ _ h => h) (by rfl) hHeld (v := ?_) (fun w hSw => ?_) (fun _ => ?_)
        rotate_left
        · ((try dsimp only at hSw); go_simp; (try with_reducible rfl))
        simp only [Act.put, List.setIfInBounds_toArray, List.set_cons_zero, List.set_cons_succ]
        refine held_take 3 rfl (by kernel_rfl) (by kernel_rfl) (by kernel_rfl) (fun _ _ _ h => h) (by rfl) hHeld (v := ?_) (fun w hSw => ?_) (fun _ => ?_)
        rotate_left
        · ((try dsimp only at hSw); go_simp; (try with_reducible rfl))
        simp only [Act.put, List.setIfInBounds_toArray, List.set_cons_zero, List.set_cons_succ]
        refine held_take 4 rfl (by kernel_rfl) (by kernel_rfl) (by kernel_rfl) (fun _ _ _ h => h) (by rfl) hHeld (v := ?_) (fun w hSw => ?_) (fun _ => ?_)
        rotate_left
        · ((try dsimp only at hSw); go_simp; (try with_reducible rfl))
        simp only [Act.put, List.setIfInBounds_toArray, List.set_cons_zero, List.set_cons_succ]
        refine held_take 5 rfl (by kernel_rfl) (by kernel_rfl) (by kernel_rfl) (fun _ _ _ h => h) (by rfl) hHeld (v := ?_) (fun w hSw => ?_) (fun _ => ?_)
        rotate_left
        · ((try dsimp only at hSw); go_simp; (try with_reducible rfl))
        simp only [Act.put, List.setIfInBounds_toArray, List.set_cons_zero, List.set_cons_succ]
        refine held_take 6 rfl (by kernel_rfl) (by kernel_rfl) (by kernel_rfl) (fun _ _ _ h => h) (by rfl) hHeld (v := ?_) (fun w hSw => ?_) (fun _ => ?_)
        rotate_left
        · ((try dsimp only at hSw); go_simp; (try with_reducible rfl))
        simp only [Act.put, List.setIfInBounds_toArray, List.set_cons_zero, List.set_cons_succ]
        refine held_call 7 (by kernel_rfl) rfl (by rfl) (fun K hK => ?_)
        go_simp
        refine (CF.out _ HD.out).mono ?_
        rintro e w4 ⟨rfl, hb4⟩
        have HM4 := Lib.hid ((HM.out.on HD.out).on hb4)
        clear hb4
        dsimp only
        refine hK.out _ _ ⟨HCX.out _ HM4.out, HSB.out _ HM4.out.below⟩ (fun hHeld => ?_)
        clear hK K
        refine held_take 8 rfl (by kernel_rfl) (by kernel_rfl) (by kernel_rfl) (fun _ _ _ h => h) (by rfl) hHeld (v := ?_) (fun w hSw => ?_) (fun _ => ?_)
        rotate_left
        · ((try dsimp only at hSw); go_simp; (try with_reducible rfl))
        simp only [Act.put, List.setIfInBounds_toArray, List.set_cons_zero, List.set_cons_succ]
        refine wpAnyH_done (by kernel_rfl) ?_ _
        clear hHeld
        have hj0 := HR.out
        have HQ4 := Lib.hid (HQ.out _ (HM4.out.on (Below.refl w4.heap.size w4).drew).below (HM4.out.on (Below.refl w4.heap.size w4).drew).size)
        have HFR : Hid (∀ g, D1 g → FreeM D1 (w.heap.size + 1 + 1 + 1) go pv' kv g) := Lib.hid (fun g hg => by
          have h1 := (HD1.out g hg).2
          have h2 := HM4.out.lo
          exact ⟨by omega, fun e => by have := (HM4.out.prow.lt g e).1; omega, fun e => by have := (HM4.out.krow.lt g e).1; omega, .inl hg⟩)
        have HQA4 := Lib.hid (PV.At.mono HQA.out HFR.out)
        have HM5 := Lib.hid (HM4.out.on (Below.refl w4.heap.size w4).drew)
        have HLP := Lib.hid HSS.out.2.2.1
        have HNP : Hid (((bps.take (k + 1)).map PV.pure).foldl putP (ps.map PV.pure) = putP (P.map PV.pure) (qn, qz)) := Lib.hid (by rw [HNX.out, List.foldl_append, ← HP.out]; rfl)
        rcases idxOf_neg_or (P.map PV.name) qn with hneg | hpos
        · obtain rfl : r = -1 := hj0.trans hneg
          have HPU : Hid ((P ++ [(⟨qn, qa, qc, qz⟩ : PV)]).map PV.pure = ((bps.take (k + 1)).map PV.pure).foldl putP (ps.map PV.pure)) := Lib.hid (by
            rw [HNP.out, putP_none _ _ (by rw [pure_names]; show idxOf (P.map PV.name) qn < 0; omega), List.map_append]; rfl)
          obtain ⟨g', c', w5, hrun, x1, xf, hb5, hms5⟩ := HM5.out.appProp ⟨qn, qa, qc, qz⟩ HQ4.out HQA4.out HLP.out 22
          rw [HPF.out] at hrun x1
          replace hrun : (Builtin.append_ #[22, 22] 22 #[.slice (some ⟨gp, 0, none⟩) P.length pcp, .slice (some ⟨w4.heap.size, 0, none⟩) 1 1]).run Try.prog (w4.drew.alloc (.cells #[.string qn, .slice qa qz.length qc] 32)) = .ok (.slice (some ⟨g', 0, none⟩) (P.length + 1) c') w5 := hrun
          have HS5 := Lib.hid (HSB.out _ (HM5.out.below.trans hb5))
          have HS4 := Lib.hid (HSB.out _ HM5.out.below)
          have HS4a := Lib.hid (HSB.out _ (HM5.out.below.alloc HM5.out.size (.cells #[.string qn, .slice qa qz.length qc] 32)))
          have HMS5 := Lib.hid hms5
          obtain ⟨z0, z1, z2⟩ := HCX.out _ HM4.out
          have z1a := (HCX.out _ (HM5.out.on ((Below.refl _ _).alloc (Nat.le_refl _) (.cells #[.string qn, .slice qa qz.length qc] 32)))).2.1
          have hgl := HM4.out.golt
          clear hneg hj0 hms5 hb5
          go_wp2_with fail
          refine wp_region_held_drew (S := fun V => V.cell? ⟨w.heap.size + 1, 1, none⟩ = some (.slice (some ⟨b, o, none⟩) bps.length bpc) ∧ V.cell? ⟨b, o + k * 2, none⟩ = some (.string qn) ∧ V.cell? ⟨b, o + k * 2 + 1, none⟩ = some (.slice qa qz.length qc)) (by kernel_rfl) HS4.out (fun hHeld => ?_)
          refine held_take 0 rfl (by kernel_rfl) (by kernel_rfl) (by kernel_rfl) (fun _ _ _ h => h) (by rfl) hHeld (v := ?_) (fun w hSw => ?_) (fun _ => ?_)
          rotate_left
          · ((try dsimp only at hSw); go_simp; (try with_reducible rfl))
          simp only [Act.put, List.setIfInBounds_toArray, List.set_cons_zero, List.set_cons_succ]
          refine held_take 2 rfl (by kernel_rfl) (by kernel_rfl) (by kernel_rfl) (fun _ _ _ h => h) (by rfl) hHeld (v := ?_) (fun w hSw => ?_) (fun _ => ?_)
          rotate_left
          · ((try dsimp only at hSw); go_simp; (try with_reducible rfl))
          simp only [Act.put, List.setIfInBounds_toArray, List.set_cons_zero, List.set_cons_succ]
          refine held_take 3 rfl (by kernel_rfl) (by kernel_rfl) (by kernel_rfl) (fun _ _ _ h => h) (by rfl) hHeld (v := ?_) (fun w hSw => ?_) (fun _ => ?_)
          rotate_left
          · ((try dsimp only at hSw); go_simp; (try with_reducible rfl))
          simp only [Act.put, List.setIfInBounds_toArray, List.set_cons_zero, List.set_cons_succ]
          refine held_take 4 rfl (by kernel_rfl) (by kernel_rfl) (by kernel_rfl) (fun _ _ _ h => h) (by rfl) hHeld (v := ?_) (fun w hSw => ?_) (fun _ => ?_)
          rotate_left
          · ((try dsimp only at hSw); go_simp; (try with_reducible rfl))
          simp only [Act.put, List.setIfInBounds_toArray, List.set_cons_zero, List.set_cons_succ]
          refine held_take 5 rfl (by kernel_rfl) (by kernel_rfl) (by kernel_rfl) (fun _ _ _ h => h) (by rfl) hHeld (v := ?_) (fun w hSw => ?_) (fun _ => ?_)
          rotate_left
          · ((try dsimp only at hSw); go_simp; (try with_reducible rfl))
          simp only [Act.put, List.setIfInBounds_toArray, List.set_cons_zero, List.set_cons_succ]
          refine held_take 6 rfl (by kernel_rfl) (by kernel_rfl) (by kernel_rfl) (fun _ _ _ h => h) (by rfl) hHeld (v := ?_) (fun w hSw => ?_) (fun _ => ?_)
          rotate_left
          · ((try dsimp only at hSw); go_simp; (try with_reducible rfl))
          simp only [Act.put, List.setIfInBounds_toArray, List.set_cons_zero, List.set_cons_succ]
          apply cutM
          case h =>
            intro key
            refine held_two 1 7 (by kernel_rfl) rfl rfl (by rfl) (by rfl) (fun K hK => ?_) (fun K hK => ?_)
            · go_simp
              refine hK.out _ _ HS4.out (fun hHeld => ?_)
              clear hK K
              (try simp only [Act.put, List.setIfInBounds_toArray, List.set_cons_zero, List.set_cons_succ])
              refine held_call 7 (by kernel_rfl) rfl (by rfl) (fun K hK => ?_)
              go_simp
              refine hK.out _ _ HS4a.out (fun hHeld => ?_)
              clear hK K
              exact key
            · go_simp
              refine hK.out _ _ HS4a.out (fun hHeld => ?_)
              clear hK K
              (try simp only [Act.put, List.setIfInBounds_toArray, List.set_cons_zero, List.set_cons_succ])
              refine held_call 1 (by kernel_rfl) rfl (by rfl) (fun K hK => ?_)
              go_simp
              refine hK.out _ _ HS4a.out (fun hHeld => ?_)
              clear hK K
              exact key
          case k =>
            refine held_call 8 (by kernel_rfl) rfl (by rfl) (fun K hK => ?_)
            refine Lib.wp_append_run_sl _ _ _ _ rfl _ _ rfl rfl hrun ?_
            refine hK.out _ _ HS5.out (fun hHeld => ?_)
            clear hK K hrun
            simp only [Act.put, List.setIfInBounds_toArray, List.set_cons_zero, List.set_cons_succ]
            refine held_take 9 rfl (by kernel_rfl) (by kernel_rfl) (by kernel_rfl) (fun _ _ _ h => h) (by rfl) hHeld (v := ?_) (fun w hSw => ?_) (fun _ => ?_)
            rotate_left
            · ((try dsimp only at hSw); go_simp; (try with_reducible rfl))
            simp only [Act.put, List.setIfInBounds_toArray, List.set_cons_zero, List.set_cons_succ]
            refine held_call 10 (by kernel_rfl) rfl (by rfl) (fun K hK => ?_)
            go_simp
            refine hK.out _ _ (HSB.out _ HMS5.out.below) (fun hHeld => ?_)
            clear hK K
            refine wpAnyH_done (by kernel_rfl) ?_ _
            clear hHeld x1 xf z0 z1 z2 z1a
            go_wp2
            go_roundw
            case rel => exact ⟨k + 1, _, P ++ [⟨qn, qa, qc, qz⟩], by omega, by go_num, HPU, HMS5.out⟩
            case measure => simp [intOf]; omega
        · obtain ⟨j, rfl⟩ : ∃ j : Nat, r = (j : Int) := ⟨r.toNat, by omega⟩
          obtain ⟨hj, hput⟩ := putP_at (P.map PV.pure) (qn, qz) j (by rw [pure_names]; exact hj0.symm)
          rw [List.length_map] at hj
          have HPU : Hid ((P.set j (⟨qn, qa, qc, qz⟩ : PV)).map PV.pure = ((bps.take (k + 1)).map PV.pure).foldl putP (ps.map PV.pure)) := Lib.hid (by
            rw [HNP.out, hput, List.map_set]; rfl)
          obtain ⟨g', c', e', hfr, ⟨x0, x1⟩, hc1, hc2, hms5⟩ := HM5.out.atProp hj (⟨qn, qa, qc, qz⟩ : PV) HQ4.out HQA4.out
          have ee := HPF.out.symm.trans e'
          simp only [Value.slice.injEq, Option.some.injEq, Addr.mk.injEq, and_true, true_and] at ee
          obtain ⟨rfl, rfl⟩ := ee
          replace hms5 : MS WZ ((w4.setCell ⟨gp, j * 2, none⟩ (.string qn)).setCell ⟨gp, j * 2 + 1, none⟩ (.slice qa qz.length qc)).drew (w.heap.size + 1 + 1 + 1) go D1 nm pv' kv (P.set j ⟨qn, qa, qc, qz⟩) ks := hms5
          have HMS5 := Lib.hid hms5
          have HCN : Hid (∀ V, MS WZ V (w.heap.size + 1 + 1 + 1) go D1 nm pv' kv (P.set j ⟨qn, qa, qc, qz⟩) ks → V.cell? ⟨go, 0, none⟩ = some (.string nm) ∧ V.cell? ⟨go, 1, none⟩ = some (.slice (some ⟨gp, 0, none⟩) P.length pcp) ∧ V.cell? ⟨go, 2, none⟩ = some (.slice (some ⟨gk, 0, none⟩) ks.length kcp)) := Lib.hid (fun V hV => by
            have := hV.cells
            rw [HPF.out, HKF.out] at this
            exact this)
          replace hfr : ∀ i, w4.frozen? ⟨gp, i, none⟩ = false := hfr
          replace x0 : w4.cell? ⟨gp, j * 2, none⟩ = some (Value.string P[j].name) := x0
          replace x1 : w4.cell? ⟨gp, j * 2 + 1, none⟩ = some P[j].val := x1
          generalize P[j].name = pjn at x0
          generalize P[j].val = pjv at x1
          clear hj0 hput e' hms5 hpos
          go_wp2_with fail
          refine wp_region_held_drew (S := fun V => (V.cell? ⟨go, 0, none⟩ = some (.string nm) ∧ V.cell? ⟨go, 1, none⟩ = some (.slice (some ⟨gp, 0, none⟩) P.length pcp) ∧ V.cell? ⟨go, 2, none⟩ = some (.slice (some ⟨gk, 0, none⟩) ks.length kcp)) ∧ (V.cell? ⟨w.heap.size + 1, 1, none⟩ = some (.slice (some ⟨b, o, none⟩) bps.length bpc) ∧ V.cell? ⟨b, o + k * 2, none⟩ = some (.string qn) ∧ V.cell? ⟨b, o + k * 2 + 1, none⟩ = some (.slice qa qz.length qc))) (by kernel_rfl) ⟨HCX.out _ HM5.out, HSB.out _ HM5.out.below⟩ (fun hHeld => ?_)
          refine held_take 0 rfl (by kernel_rfl) (by kernel_rfl) (by kernel_rfl) (fun _ _ _ h => h) (by rfl) hHeld (v := ?_) (fun w hSw => ?_) (fun _ => ?_)
          rotate_left
          · ((try dsimp only at hSw); go_simp; (try with_reducible rfl))
          simp only [Act.put, List.setIfInBounds_toArray, List.set_cons_zero, List.set_cons_succ]
          refine held_take 1 rfl (by kernel_rfl) (by kernel_rfl) (by kernel_rfl) (fun _ _ _ h => h) (by rfl) hHeld (v := ?_) (fun w hSw => ?_) (fun _ => ?_)
          rotate_left
          · ((try dsimp only at hSw); go_simp; (try with_reducible rfl))
          simp only [Act.put, List.setIfInBounds_toArray, List.set_cons_zero, List.set_cons_succ]
          refine held_take 2 rfl (by kernel_rfl) (by kernel_rfl) (by kernel_rfl) (fun _ _ _ h => h) (by rfl) hHeld (v := ?_) (fun w hSw => ?_) (fun _ => ?_)
          rotate_left
          · ((try dsimp only at hSw); go_simp; (try with_reducible rfl))
          simp only [Act.put, List.setIfInBounds_toArray, List.set_cons_zero, List.set_cons_succ]
          refine held_take 3 rfl (by kernel_rfl) (by kernel_rfl) (by kernel_rfl) (fun _ _ _ h => h) (by rfl) hHeld (v := ?_) (fun w hSw => ?_) (fun _ => ?_)
          rotate_left
          · ((try dsimp only at hSw); go_simp; (try with_reducible rfl))
          simp only [Act.put, List.setIfInBounds_toArray, List.set_cons_zero, List.set_cons_succ]
          refine held_take 4 rfl (by kernel_rfl) (by kernel_rfl) (by kernel_rfl) (fun _ _ _ h => h) (by rfl) hHeld (v := ?_) (fun w hSw => ?_) (fun _ => ?_)
          rotate_left
          · ((try dsimp only at hSw); go_simp; (try with_reducible rfl))
          simp only [Act.put, List.setIfInBounds_toArray, List.set_cons_zero, List.set_cons_succ]
          refine held_take 5 rfl (by kernel_rfl) (by kernel_rfl) (by kernel_rfl) (fun _ _ _ h => h) (by rfl) hHeld (v := ?_) (fun w hSw => ?_) (fun _ => ?_)
          rotate_left
          · ((try dsimp only at hSw); go_simp; (try with_reducible rfl))
          simp only [Act.put, List.setIfInBounds_toArray, List.set_cons_zero, List.set_cons_succ]
          refine held_take 6 rfl (by kernel_rfl) (by kernel_rfl) (by kernel_rfl) (fun _ _ _ h => h) (by rfl) hHeld (v := ?_) (fun w hSw => ?_) (fun _ => ?_)
          rotate_left
          · ((try dsimp only at hSw); go_simp; (try with_reducible rfl))
          simp only [Act.put, List.setIfInBounds_toArray, List.set_cons_zero, List.set_cons_succ]
          refine held_take 7 rfl (by kernel_rfl) (by kernel_rfl) (by kernel_rfl) (fun _ _ _ h => h) (by rfl) hHeld (v := ?_) (fun w hSw => ?_) (fun _ => ?_)
          rotate_left
          · ((try dsimp only at hSw); go_simp; (try with_reducible rfl))
          simp only [Act.put, List.setIfInBounds_toArray, List.set_cons_zero, List.set_cons_succ]
          refine held_take 8 rfl (by kernel_rfl) (by kernel_rfl) (by kernel_rfl) (fun _ _ _ h => h) (by rfl) hHeld (v := ?_) (fun w hSw => ?_) (fun _ => ?_)
          rotate_left
          · ((try dsimp only at hSw); go_simp; (try with_reducible rfl))
          simp only [Act.put, List.setIfInBounds_toArray, List.set_cons_zero, List.set_cons_succ]
          refine held_call 9 (by kernel_rfl) rfl (by rfl) (fun K hK => ?_)
          go_simp
          refine hK.out _ _ ⟨HCN.out _ HMS5.out, HSB.out _ HMS5.out.below⟩ (fun hHeld => ?_)
          clear hK K
          refine wpAnyH_done (by kernel_rfl) ?_ _
          clear hHeld x0 x1 hfr
          go_wp2
          go_roundw
          case rel => exact ⟨k + 1, pv', P.set j ⟨qn, qa, qc, qz⟩, by omega, by go_num, HPU, HMS5.out⟩
          case measure => simp [intOf]; omega
      · obtain rfl : k = bps.length := by omega
        have HPE : Hid (P.map PV.pure = (bps.map PV.pure).foldl putP (ps.map PV.pure)) := Lib.hid (by rw [HP.out, List.take_length])
        obtain ⟨_, ⟨y1, y2⟩, _⟩ := BX.out wr hms.below
        clear hlt hms hsP hszs
        go_wp2_with fail
        clear y1 y2
        clear HP HSS
        go_loopw [60] (fun i wr => ∃ (k : Nat) (kv' : Value) (K : List Nd), k ≤ bks.length ∧ i = .int .i64 k ∧ Hid (K.map pureN = mergeL ((bks.take k).map pureN) (ks.map pureN)) ∧ MS WZ wr (w.heap.size + 1 + 1 + 1) go D1 nm pv' kv' P K) (fun i _ => bks.length - (intOf i).toNat)
        case atStart => exact ⟨0, kv, ks, Nat.zero_le _, rfl, Lib.hid (by rw [List.take_zero, List.map_nil, mergeL]), HM.out⟩
        case round =>
          obtain ⟨k, kv', LK, hk, rfl, HK, hms⟩ := hrel
          have hsP : szPs (P.map PV.pure) ≤ szPs (ps.map PV.pure) + szPs (bps.map PV.pure) := by
            rw [HPE.out]
            exact szPs_puts (bps.map PV.pure) (ps.map PV.pure)
          have hsK : hpL (LK.map pureN) ≤ hpL (ks.map pureN) + hpL ((bks.take k).map pureN) := by
            rw [HK.out]
            exact hpL_merge _ _
          have hsT := hpL_take (bks.map pureN) k
          rw [← List.map_take] at hsT
          have hszs := merge_sizes (P := P) (K := LK) (N := 1099511627776) (by have := HSZ.out; omega) (by have := HSZ.out; omega) (Nat.le_refl _)
          have HSS := Lib.hid hszs
          have HM := Lib.hid hms
          have HSK := Lib.hid hsK
          by_cases hlt : k < bks.length
          · have hbw := HB0.out.trans (hms.below.mono (by omega))
            obtain ⟨b, o, e, hb, c0, c1, c2⟩ := (HBn.out.under hbw).kcell (i := k) hlt
            have HQ := Lib.hid (fun V (hV : Below (w.heap.size + 1 + 1 + 1) WZ V) (hs : w.heap.size + 1 + 1 + 1 ≤ V.heap.size) => show bks[k].In V V.heap.size from Nd.In.more (show w.heap.size ≤ V.heap.size by omega) ((Nd.In.under HBn.out (HB0.out.trans (hV.mono (by omega)))).kid (List.getElem_mem hlt)))
            have HQA := Lib.hid (show Nd.At D1 bks[k] from HPB.out.2.2.2 _ (List.getElem_mem hlt))
            have HIH := Lib.hid (IH.out bks[k] (List.getElem_mem hlt))
            obtain rfl : bka = _ := e
            have HNX : Hid ((bks.take (k + 1)).map pureN = (bks.take k).map pureN ++ [pureN bks[k]]) := Lib.hid (by rw [List.take_add_one, List.getElem?_eq_getElem hlt, List.map_append]; rfl)
            have HST : Hid (hpL ((bks.take k).map pureN) + hpN (pureN bks[k]) ≤ hpL (bks.map pureN)) := Lib.hid (by
              have h := hpL_take (bks.map pureN) (k + 1)
              rw [← List.map_take, HNX.out, hpL_append] at h
              simpa [hpL] using h)
            replace c0 : _ = some (Value.string bks[k].name) := c0
            replace c1 : _ = some (Value.slice bks[k].pa bks[k].props.length bks[k].pc) := c1
            replace c2 : _ = some (Value.slice bks[k].ka bks[k].kids.length bks[k].kc) := c2
            have HSB : Hid (∀ V, Below (w.heap.size + 1 + 1 + 1) WZ V → (V.cell? ⟨w.heap.size + 1, 2, none⟩ = some (.slice (some ⟨b, o, none⟩) bks.length bkc) ∧ V.cell? ⟨b, o + k * 3, none⟩ = some (.string bks[k].name) ∧ V.cell? ⟨b, o + k * 3 + 1, none⟩ = some (.slice bks[k].pa bks[k].props.length bks[k].pc) ∧ V.cell? ⟨b, o + k * 3 + 2, none⟩ = some (.slice bks[k].ka bks[k].kids.length bks[k].kc))) := Lib.hid (fun V hV => by
              have h1 : ∀ i, V.cell? ⟨b, i, none⟩ = wr.cell? ⟨b, i, none⟩ := fun i => (hV.cell (p := ⟨b, i, none⟩) (by simp; omega)).trans (hms.below.cell (p := ⟨b, i, none⟩) (by simp; omega)).symm
              exact ⟨(BX.out V hV).2.1.2, by rw [h1]; exact c0, by rw [h1]; exact c1, by rw [h1]; exact c2⟩)
            generalize hq : bks[k] = q at *
            obtain ⟨qn, qpa, qpc, qps, qka, qkc, qks⟩ := q
            simp only [Nd.name, Nd.pa, Nd.props, Nd.pc, Nd.ka, Nd.kids, Nd.kc] at c0 c1 c2 HSB
            obtain ⟨r, hr⟩ : ∃ r, r = idxOf (LK.map Nd.name) qn := ⟨_, rfl⟩
            have HR := Lib.hid hr
            have CF := Lib.hid (fun V (hV : Below wr.heap.size wr V) => (HM.out.on hV).kid HNM.out HSS.out.1 HSS.out.2.1 qn r hr)
            obtain ⟨gp, pcp, hpf⟩ := hms.pform
            obtain ⟨gk, kcp, hkf⟩ := hms.kform
            have HPF := Lib.hid hpf
            have HKF := Lib.hid hkf
            rw [hpf, hkf] at CF
            have HCX : Hid (∀ V LK', LK'.length = LK.length → MS WZ V (w.heap.size + 1 + 1 + 1) go D1 nm pv' kv' P LK' → V.cell? ⟨go, 0, none⟩ = some (.string nm) ∧ V.cell? ⟨go, 1, none⟩ = some (.slice (some ⟨gp, 0, none⟩) P.length pcp) ∧ V.cell? ⟨go, 2, none⟩ = some (.slice (some ⟨gk, 0, none⟩) LK.length kcp)) := Lib.hid (fun V LK' _ hV => by
              have := hV.cells
              rw [hpf, hkf] at this
              exact this)
            have HD := Lib.hid (Below.refl wr.heap.size wr).drew
            clear hbw hb c0 c1 c2 hr hms hpf hkf hq hsP hszs hsK hsT
            go_wp2_with fail
            refine wp_region_held_drew (S := fun V => (V.cell? ⟨go, 0, none⟩ = some (.string nm) ∧ V.cell? ⟨go, 1, none⟩ = some (.slice (some ⟨gp, 0, none⟩) P.length pcp) ∧ V.cell? ⟨go, 2, none⟩ = some (.slice (some ⟨gk, 0, none⟩) LK.length kcp)) ∧ (V.cell? ⟨w.heap.size + 1, 2, none⟩ = some (.slice (some ⟨b, o, none⟩) bks.length bkc) ∧ V.cell? ⟨b, o + k * 3, none⟩ = some (.string qn) ∧ V.cell? ⟨b, o + k * 3 + 1, none⟩ = some (.slice qpa qps.length qpc) ∧ V.cell? ⟨b, o + k * 3 + 2, none⟩ = some (.slice qka qks.length qkc))) (by kernel_rfl) ⟨HCX.out _ LK rfl (HM.out.on HD.out), HSB.out _ (HM.out.on HD.out).below⟩ (fun hHeld => ?_)
            refine held_take 0 rfl (by kernel_rfl) (by kernel_rfl) (by kernel_rfl) (fun _ _ _ h => h) (by rfl) hHeld (v := ?_) (fun w hSw => ?_) (fun _ => ?_)
            rotate_left
            · ((try dsimp only at hSw); go_simp; (try with_reducible rfl))
            simp only [Act.put, List.setIfInBounds_toArray, List.set_cons_zero, List.set_cons_succ]
            refine held_take 1 rfl (by kernel_rfl) (by kernel_rfl) (by kernel_rfl) (fun _ _ _ h => h) (by rfl) hHeld (v := ?_) (fun w hSw => ?_) (fun _ => ?_)
            rotate_left
            · ((try dsimp only at hSw); go_simp; (try with_reducible rfl))
            simp only [Act.put, List.setIfInBounds_toArray, List.set_cons_zero, List.set_cons_succ]
            refine held_take 2 rfl (by kernel_rfl) (by kernel_rfl) (by kernel_rfl) (fun _ _ _ h => h) (by rfl) hHeld (v := ?_) (fun w hSw => ?_) (fun _ => ?_)
            rotate_left
            · ((try dsimp only at hSw); go_simp; (try with_reducible rfl))
            simp only [Act.put, List.setIfInBounds_toArray, List.set_cons_zero, List.set_cons_succ]
            refine held_take 3 rfl (by kernel_rfl) (by kernel_rfl) (by kernel_rfl) (fun _ _ _ h => h) (by rfl) hHeld (v := ?_) (fun w hSw => ?_) (fun _ => ?_)
            rotate_left
            · ((try dsimp only at hSw); go_simp; (try with_reducible rfl))
            simp only [Act.put, List.setIfInBounds_toArray, List.set_cons_zero, List.set_cons_succ]
            refine held_take 4 rfl (by kernel_rfl) (by kernel_rfl) (by kernel_rfl) (fun _ _ _ h => h) (by rfl) hHeld (v := ?_) (fun w hSw => ?_) (fun _ => ?_)
            rotate_left
            · ((try dsimp only at hSw); go_simp; (try with_reducible rfl))
            simp only [Act.put, List.setIfInBounds_toArray, List.set_cons_zero, List.set_cons_succ]
            refine held_take 5 rfl (by kernel_rfl) (by kernel_rfl) (by kernel_rfl) (fun _ _ _ h => h) (by rfl) hHeld (v := ?_) (fun w hSw => ?_) (fun _ => ?_)
            rotate_left
            · ((try dsimp only at hSw); go_simp; (try with_reducible rfl))
            simp only [Act.put, List.setIfInBounds_toArray, List.set_cons_zero, List.set_cons_succ]
            refine held_take 6 rfl (by kernel_rfl) (by kernel_rfl) (by kernel_rfl) (fun _ _ _ h => h) (by rfl) hHeld (v := ?_) (fun w hSw => ?_) (fun _ => ?_)
            rotate_left
            · ((try dsimp only at hSw); go_simp; (try with_reducible rfl))
            simp only [Act.put, List.setIfInBounds_toArray, List.set_cons_zero, List.set_cons_succ]
            refine held_call 7 (by kernel_rfl) rfl (by rfl) (fun K hK => ?_)
            go_simp
            refine (CF.out _ HD.out).mono ?_
            rintro e w4 ⟨rfl, hb4⟩
            have HM4 := Lib.hid ((HM.out.on HD.out).on hb4)
            clear hb4
            dsimp only
            refine hK.out _ _ ⟨HCX.out _ LK rfl HM4.out, HSB.out _ HM4.out.below⟩ (fun hHeld => ?_)
            clear hK K
            refine held_take 8 rfl (by kernel_rfl) (by kernel_rfl) (by kernel_rfl) (fun _ _ _ h => h) (by rfl) hHeld (v := ?_) (fun w hSw => ?_) (fun _ => ?_)
            rotate_left
            · ((try dsimp only at hSw); go_simp; (try with_reducible rfl))
            simp only [Act.put, List.setIfInBounds_toArray, List.set_cons_zero, List.set_cons_succ]
            refine wpAnyH_done (by kernel_rfl) ?_ _
            clear hHeld
            have hj0 := HR.out
            have HQ4 := Lib.hid (HQ.out _ (HM4.out.on (Below.refl w4.heap.size w4).drew).below (HM4.out.on (Below.refl w4.heap.size w4).drew).size)
            have HFR : Hid (∀ g, D1 g → FreeM D1 (w.heap.size + 1 + 1 + 1) go pv' kv' g) := Lib.hid (fun g hg => by
              have h1 := (HD1.out g hg).2
              have h2 := HM4.out.lo
              exact ⟨by omega, fun e => by have := (HM4.out.prow.lt g e).1; omega, fun e => by have := (HM4.out.krow.lt g e).1; omega, .inl hg⟩)
            have HQA4 := Lib.hid (Nd.At.mono HFR.out HQA.out)
            have HM5 := Lib.hid (HM4.out.on (Below.refl w4.heap.size w4).drew)
            have HLK := Lib.hid HSS.out.2.2.2
            have HNK : Hid (mergeL ((bks.take (k + 1)).map pureN) (ks.map pureN) = updK (fun x => mergeN (pureN (.mk qn qpa qpc qps qka qkc qks)) x) (pureN (.mk qn qpa qpc qps qka qkc qks)) (LK.map pureN)) := Lib.hid (by
              rw [HNX.out, mergeL_app, ← HK.out, mergeL, mergeL])
            have hqn : (pureN (.mk qn qpa qpc qps qka qkc qks)).name = qn := by rw [pureN_mk]; rfl
            rcases idxOf_neg_or (LK.map Nd.name) qn with hneg | hpos
            · obtain rfl : r = -1 := hj0.trans hneg
              have HKU : Hid ((LK ++ [(.mk qn qpa qpc qps qka qkc qks : Nd)]).map pureN = mergeL ((bks.take (k + 1)).map pureN) (ks.map pureN)) := Lib.hid (by
                rw [HNK.out, updK_none _ _ _ (by rw [pure_knames, hqn]; omega), List.map_append]; rfl)
              obtain ⟨g', c', w5, hrun, x1, xf, hb5, hms5⟩ := HM5.out.appKid (.mk qn qpa qpc qps qka qkc qks) HQ4.out HQA4.out HLK.out 23
              rw [HKF.out] at hrun x1
              replace hrun : (Builtin.append_ #[23, 23] 23 #[.slice (some ⟨gk, 0, none⟩) LK.length kcp, .slice (some ⟨w4.heap.size, 0, none⟩) 1 1]).run Try.prog (w4.drew.alloc (.cells #[.string qn, .slice qpa qps.length qpc, .slice qka qks.length qkc] 25)) = .ok (.slice (some ⟨g', 0, none⟩) (LK.length + 1) c') w5 := hrun
              have HS5 := Lib.hid (HSB.out _ (HM5.out.below.trans hb5))
              have HS4 := Lib.hid (HSB.out _ HM5.out.below)
              have HS4a := Lib.hid (HSB.out _ (HM5.out.below.alloc HM5.out.size (.cells #[.string qn, .slice qpa qps.length qpc, .slice qka qks.length qkc] 25)))
              have HMS5 := Lib.hid hms5
              obtain ⟨z0, z1, z2⟩ := HCX.out _ LK rfl HM4.out
              have hgl := HM4.out.golt
              clear hneg hj0 hms5 hb5
              go_wp2_with fail
              refine wp_region_held_drew (S := fun V => V.cell? ⟨w.heap.size + 1, 2, none⟩ = some (.slice (some ⟨b, o, none⟩) bks.length bkc) ∧ V.cell? ⟨b, o + k * 3, none⟩ = some (.string qn) ∧ V.cell? ⟨b, o + k * 3 + 1, none⟩ = some (.slice qpa qps.length qpc) ∧ V.cell? ⟨b, o + k * 3 + 2, none⟩ = some (.slice qka qks.length qkc)) (by kernel_rfl) HS4.out (fun hHeld => ?_)
              refine held_take 0 rfl (by kernel_rfl) (by kernel_rfl) (by kernel_rfl) (fun _ _ _ h => h) (by rfl) hHeld (v := ?_) (fun w hSw => ?_) (fun _ => ?_)
              rotate_left
              · ((try dsimp only at hSw); go_simp; (try with_reducible rfl))
              simp only [Act.put, List.setIfInBounds_toArray, List.set_cons_zero, List.set_cons_succ]
              refine held_take 2 rfl (by kernel_rfl) (by kernel_rfl) (by kernel_rfl) (fun _ _ _ h => h) (by rfl) hHeld (v := ?_) (fun w hSw => ?_) (fun _ => ?_)
              rotate_left
              · ((try dsimp only at hSw); go_simp; (try with_reducible rfl))
              simp only [Act.put, List.setIfInBounds_toArray, List.set_cons_zero, List.set_cons_succ]
              refine held_take 3 rfl (by kernel_rfl) (by kernel_rfl) (by kernel_rfl) (fun _ _ _ h => h) (by rfl) hHeld (v := ?_) (fun w hSw => ?_) (fun _ => ?_)
              rotate_left
              · ((try dsimp only at hSw); go_simp; (try with_reducible rfl))
              simp only [Act.put, List.setIfInBounds_toArray, List.set_cons_zero, List.set_cons_succ]
              refine held_take 4 rfl (by kernel_rfl) (by kernel_rfl) (by kernel_rfl) (fun _ _ _ h => h) (by rfl) hHeld (v := ?_) (fun w hSw => ?_) (fun _ => ?_)
              rotate_left
              · ((try dsimp only at hSw); go_simp; (try with_reducible rfl))
              simp only [Act.put, List.setIfInBounds_toArray, List.set_cons_zero, List.set_cons_succ]
              refine held_take 5 rfl (by kernel_rfl) (by kernel_rfl) (by kernel_rfl) (fun _ _ _ h => h) (by rfl) hHeld (v := ?_) (fun w hSw => ?_) (fun _ => ?_)
              rotate_left
              · ((try dsimp only at hSw); go_simp; (try with_reducible rfl))
              simp only [Act.put, List.setIfInBounds_toArray, List.set_cons_zero, List.set_cons_succ]
              refine held_take 6 rfl (by kernel_rfl) (by kernel_rfl) (by kernel_rfl) (fun _ _ _ h => h) (by rfl) hHeld (v := ?_) (fun w hSw => ?_) (fun _ => ?_)
              rotate_left
              · ((try dsimp only at hSw); go_simp; (try with_reducible rfl))
              simp only [Act.put, List.setIfInBounds_toArray, List.set_cons_zero, List.set_cons_succ]
              apply cutM
              case h =>
                intro key
                refine held_two 1 7 (by kernel_rfl) rfl rfl (by rfl) (by rfl) (fun K hK => ?_) (fun K hK => ?_)
                · go_simp
                  refine hK.out _ _ HS4.out (fun hHeld => ?_)
                  clear hK
                  (try simp only [Act.put, List.setIfInBounds_toArray, List.set_cons_zero, List.set_cons_succ])
                  refine held_call 7 (by kernel_rfl) rfl (by rfl) (fun K hK => ?_)
                  go_simp
                  refine hK.out _ _ HS4a.out (fun hHeld => ?_)
                  clear hK
                  exact key
                · go_simp
                  refine hK.out _ _ HS4a.out (fun hHeld => ?_)
                  clear hK
                  (try simp only [Act.put, List.setIfInBounds_toArray, List.set_cons_zero, List.set_cons_succ])
                  refine held_call 1 (by kernel_rfl) rfl (by rfl) (fun K hK => ?_)
                  go_simp
                  refine hK.out _ _ HS4a.out (fun hHeld => ?_)
                  clear hK
                  exact key
              case k =>
                refine held_call 8 (by kernel_rfl) rfl (by rfl) (fun KK hKK => ?_)
                refine Lib.wp_append_run_sl _ _ _ _ rfl _ _ rfl rfl hrun ?_
                refine hKK.out _ _ HS5.out (fun hHeld => ?_)
                clear hKK KK hrun
                simp only [Act.put, List.setIfInBounds_toArray, List.set_cons_zero, List.set_cons_succ]
                refine held_take 9 rfl (by kernel_rfl) (by kernel_rfl) (by kernel_rfl) (fun _ _ _ h => h) (by rfl) hHeld (v := ?_) (fun w hSw => ?_) (fun _ => ?_)
                rotate_left
                · ((try dsimp only at hSw); go_simp; (try with_reducible rfl))
                simp only [Act.put, List.setIfInBounds_toArray, List.set_cons_zero, List.set_cons_succ]
                refine held_call 10 (by kernel_rfl) rfl (by rfl) (fun KK hKK => ?_)
                go_simp
                refine hKK.out _ _ (HSB.out _ HMS5.out.below) (fun hHeld => ?_)
                clear hKK KK
                refine wpAnyH_done (by kernel_rfl) ?_ _
                clear hHeld x1 xf z0 z1 z2
                go_wp2
                go_roundw
                case rel => exact ⟨k + 1, _, LK ++ [.mk qn qpa qpc qps qka qkc qks], by omega, by go_num, HKU, HMS5.out⟩
                case measure => simp [intOf]; omega
            · obtain ⟨j, rfl⟩ : ∃ j : Nat, r = (j : Int) := ⟨r.toNat, by omega⟩
              obtain ⟨hj, hput⟩ := updK_at (fun x => mergeN (pureN (.mk qn qpa qpc qps qka qkc qks)) x) (LK.map pureN) (pureN (.mk qn qpa qpc qps qka qkc qks)) j (by rw [pure_knames, hqn]; exact hj0.symm)
              rw [List.getElem_map] at hput
              rw [List.length_map] at hj
              have HKU : Hid (∀ n : Nd, pureN n = mergeN (pureN (.mk qn qpa qpc qps qka qkc qks)) (pureN LK[j]) → (LK.set j n).map pureN = mergeL ((bks.take (k + 1)).map pureN) (ks.map pureN)) := Lib.hid (fun n hn => by
                rw [HNK.out, hput, List.map_set, hn])
              have hkin := HM5.out.kids LK[j] (List.getElem_mem hj)
              have hbd : heftN LK[j] + heftN (.mk qn qpa qpc qps qka qkc qks : Nd) ≤ 1099511627776 := by
                have h1 := hpL_mem (List.mem_map_of_mem (f := pureN) (List.getElem_mem hj))
                have h2 := HSK.out
                have h3 := HST.out
                have h4 := HSZ.out
                rw [heft_hp, heft_hp]
                omega
              have CM := HIH.out LK[j] (FreeM D1 (w.heap.size + 1 + 1 + 1) go pv' kv') w4.drew hkin.1 HQ4.out hkin.2 HQA4.out hbd
              obtain ⟨g', c', e', hfr0, ⟨x0, x1, x2⟩, hc1, hc2, _⟩ := HM5.out.atKid hj LK[j] hkin.1 hkin.2
              have ee := HKF.out.symm.trans e'
              simp only [Value.slice.injEq, Option.some.injEq, Addr.mk.injEq, and_true, true_and] at ee
              obtain ⟨rfl, rfl⟩ := ee
              replace x0 : w4.cell? ⟨gk, j * 3, none⟩ = some (Value.string LK[j].name) := x0
              replace x1 : w4.cell? ⟨gk, j * 3 + 1, none⟩ = some LK[j].pv := x1
              replace x2 : w4.cell? ⟨gk, j * 3 + 2, none⟩ = some LK[j].kv := x2
              have HAT := Lib.hid (fun W n (h : MS WZ W (w.heap.size + 1 + 1 + 1) go D1 nm pv' kv' P LK) h1 h2 => h.atKid hj n h1 h2)
              obtain ⟨X, hX⟩ : ∃ X, LK[j] = X := ⟨_, rfl⟩
              rw [hX] at x0 x1 x2 CM HKU
              clear hkin hbd hput e' hfr0 hX hpos hj0
              obtain ⟨xn, xpa, xpc, xps, xka, xkc, xks⟩ := X
              replace x0 : w4.cell? ⟨gk, j * 3, none⟩ = some (Value.string xn) := x0
              replace x1 : w4.cell? ⟨gk, j * 3 + 1, none⟩ = some (Value.slice xpa xps.length xpc) := x1
              replace x2 : w4.cell? ⟨gk, j * 3 + 2, none⟩ = some (Value.slice xka xks.length xkc) := x2
              replace CM : Calls Try.prog 10 #[.agg #[.string xn, .slice xpa xps.length xpc, .slice xka xks.length xkc], .agg #[.string qn, .slice qpa qps.length qpc, .slice qka qks.length qkc]] w4.drew _ := CM
              have HCM := Lib.hid CM
              clear CM
              go_wp2_with fail
              refine wp_region_held_drew (S := fun V => (V.cell? ⟨go, 0, none⟩ = some (.string nm) ∧ V.cell? ⟨go, 1, none⟩ = some (.slice (some ⟨gp, 0, none⟩) P.length pcp) ∧ V.cell? ⟨go, 2, none⟩ = some (.slice (some ⟨gk, 0, none⟩) LK.length kcp)) ∧ (V.cell? ⟨w.heap.size + 1, 2, none⟩ = some (.slice (some ⟨b, o, none⟩) bks.length bkc) ∧ V.cell? ⟨b, o + k * 3, none⟩ = some (.string qn) ∧ V.cell? ⟨b, o + k * 3 + 1, none⟩ = some (.slice qpa qps.length qpc) ∧ V.cell? ⟨b, o + k * 3 + 2, none⟩ = some (.slice qka qks.length qkc))) (by kernel_rfl) ⟨HCX.out _ LK rfl HM5.out, HSB.out _ HM5.out.below⟩ (fun hHeld => ?_)
              refine held_take 0 rfl (by kernel_rfl) (by kernel_rfl) (by kernel_rfl) (fun _ _ _ h => h) (by rfl) hHeld (v := ?_) (fun w hSw => ?_) (fun _ => ?_)
              rotate_left
              · ((try dsimp only at hSw); go_simp; (try with_reducible rfl))
              simp only [Act.put, List.setIfInBounds_toArray, List.set_cons_zero, List.set_cons_succ]
              refine held_take 1 rfl (by kernel_rfl) (by kernel_rfl) (by kernel_rfl) (fun _ _ _ h => h) (by rfl) hHeld (v := ?_) (fun w hSw => ?_) (fun _ => ?_)
              rotate_left
              · ((try dsimp only at hSw); go_simp; (try with_reducible rfl))
              simp only [Act.put, List.setIfInBounds_toArray, List.set_cons_zero, List.set_cons_succ]
              refine held_take 2 rfl (by kernel_rfl) (by kernel_rfl) (by kernel_rfl) (fun _ _ _ h => h) (by rfl) hHeld (v := ?_) (fun w hSw => ?_) (fun _ => ?_)
              rotate_left
              · ((try dsimp only at hSw); go_simp; (try with_reducible rfl))
              simp only [Act.put, List.setIfInBounds_toArray, List.set_cons_zero, List.set_cons_succ]
              refine held_take 3 rfl (by kernel_rfl) (by kernel_rfl) (by kernel_rfl) (fun _ _ _ h => h) (by rfl) hHeld (v := ?_) (fun w hSw => ?_) (fun _ => ?_)
              rotate_left
              · ((try dsimp only at hSw); go_simp; (try with_reducible rfl))
              simp only [Act.put, List.setIfInBounds_toArray, List.set_cons_zero, List.set_cons_succ]
              refine held_take 4 rfl (by kernel_rfl) (by kernel_rfl) (by kernel_rfl) (fun _ _ _ h => h) (by rfl) hHeld (v := ?_) (fun w hSw => ?_) (fun _ => ?_)
              rotate_left
              · ((try dsimp only at hSw); go_simp; (try with_reducible rfl))
              simp only [Act.put, List.setIfInBounds_toArray, List.set_cons_zero, List.set_cons_succ]
              refine held_take 5 rfl (by kernel_rfl) (by kernel_rfl) (by kernel_rfl) (fun _ _ _ h => h) (by rfl) hHeld (v := ?_) (fun w hSw => ?_) (fun _ => ?_)
              rotate_left
              · ((try dsimp only at hSw); go_simp; (try with_reducible rfl))
              simp only [Act.put, List.setIfInBounds_toArray, List.set_cons_zero, List.set_cons_succ]
              refine held_take 6 rfl (by kernel_rfl) (by kernel_rfl) (by kernel_rfl) (fun _ _ _ h => h) (by rfl) hHeld (v := ?_) (fun w hSw => ?_) (fun _ => ?_)
              rotate_left
              · ((try dsimp only at hSw); go_simp; (try with_reducible rfl))
              simp only [Act.put, List.setIfInBounds_toArray, List.set_cons_zero, List.set_cons_succ]
              refine held_take 8 rfl (by kernel_rfl) (by kernel_rfl) (by kernel_rfl) (fun _ _ _ h => h) (by rfl) hHeld (v := ?_) (fun w hSw => ?_) (fun _ => ?_)
              rotate_left
              · ((try dsimp only at hSw); go_simp; (try with_reducible rfl))
              simp only [Act.put, List.setIfInBounds_toArray, List.set_cons_zero, List.set_cons_succ]
              refine held_take 9 rfl (by kernel_rfl) (by kernel_rfl) (by kernel_rfl) (fun _ _ _ h => h) (by rfl) hHeld (v := ?_) (fun w hSw => ?_) (fun _ => ?_)
              rotate_left
              · ((try dsimp only at hSw); go_simp; (try with_reducible rfl))
              simp only [Act.put, List.setIfInBounds_toArray, List.set_cons_zero, List.set_cons_succ]
              refine held_take 10 rfl (by kernel_rfl) (by kernel_rfl) (by kernel_rfl) (fun _ _ _ h => h) (by rfl) hHeld (v := ?_) (fun w hSw => ?_) (fun _ => ?_)
              rotate_left
              · ((try dsimp only at hSw); go_simp; (try with_reducible rfl))
              simp only [Act.put, List.setIfInBounds_toArray, List.set_cons_zero, List.set_cons_succ]
              refine held_take 11 rfl (by kernel_rfl) (by kernel_rfl) (by kernel_rfl) (fun _ _ _ h => h) (by rfl) hHeld (v := ?_) (fun w hSw => ?_) (fun _ => ?_)
              rotate_left
              · ((try dsimp only at hSw); go_simp; (try with_reducible rfl))
              simp only [Act.put, List.setIfInBounds_toArray, List.set_cons_zero, List.set_cons_succ]
              refine held_take 12 rfl (by kernel_rfl) (by kernel_rfl) (by kernel_rfl) (fun _ _ _ h => h) (by rfl) hHeld (v := ?_) (fun w hSw => ?_) (fun _ => ?_)
              rotate_left
              · ((try dsimp only at hSw); go_simp; (try with_reducible rfl))
              simp only [Act.put, List.setIfInBounds_toArray, List.set_cons_zero, List.set_cons_succ]
              refine held_call 7 (by kernel_rfl) rfl (by rfl) (fun K hK => ?_)
              go_simp
              refine hK.out _ _ ⟨HCX.out _ LK rfl HM5.out, HSB.out _ HM5.out.below⟩ (fun hHeld => ?_)
              clear hK K x0 x1 x2
              (try simp only [Act.put, List.setIfInBounds_toArray, List.set_cons_zero, List.set_cons_succ])
              refine held_call 13 (by kernel_rfl) rfl (by rfl) (fun K hK => ?_)
              go_simp
              refine HCM.out.mono ?_
              rintro e w6 ⟨⟨n, rfl, hnin, hnat, hnp⟩, hb6⟩
              have HM6 := Lib.hid (HM5.out.on hb6)
              have hnat' := Nd.At.mono HM5.out.fresh hnat
              have HNP := Lib.hid (HKU.out n hnp)
              obtain ⟨g', c', e', hfr, ⟨x0, x1, x2⟩, _, _, hms7⟩ := HAT.out w6 n HM6.out hnin hnat'
              have ee := HKF.out.symm.trans e'
              simp only [Value.slice.injEq, Option.some.injEq, Addr.mk.injEq, and_true, true_and] at ee
              obtain ⟨rfl, rfl⟩ := ee
              obtain ⟨nn, npa, npc, nps, nka, nkc, nks⟩ := n
              replace hms7 : MS WZ (((w6.setCell ⟨gk, j * 3, none⟩ (.string nn)).setCell ⟨gk, j * 3 + 1, none⟩ (.slice npa nps.length npc)).setCell ⟨gk, j * 3 + 2, none⟩ (.slice nka nks.length nkc)) (w.heap.size + 1 + 1 + 1) go D1 nm pv' kv' P (LK.set j (.mk nn npa npc nps nka nkc nks)) := hms7
              have HMS7 := Lib.hid hms7
              generalize LK[j].name = pjn at x0
              generalize LK[j].pv = pjp at x1
              generalize LK[j].kv = pjk at x2
              clear hms7 hnin hnat hnat' hnp hb6 e'
              dsimp only
              refine hK.out _ _ ⟨HCX.out _ LK rfl HM6.out, HSB.out _ HM6.out.below⟩ (fun hHeld => ?_)
              clear hK K
              simp only [Nd.val, Nd.pv, Nd.kv, Nd.name, Nd.pa, Nd.pc, Nd.props, Nd.ka, Nd.kc, Nd.kids]
              refine held_take 14 rfl (by kernel_rfl) (by kernel_rfl) (by kernel_rfl) (fun _ _ _ h => h) (by rfl) hHeld (v := ?_) (fun w hSw => ?_) (fun _ => ?_)
              rotate_left
              · ((try dsimp only at hSw); go_simp; (try with_reducible rfl))
              simp only [Act.put, List.setIfInBounds_toArray, List.set_cons_zero, List.set_cons_succ]
              refine held_call 15 (by kernel_rfl) rfl (by rfl) (fun K hK => ?_)
              go_simp
              refine hK.out _ _ ⟨HCX.out _ _ (List.length_set ..) HMS7.out, HSB.out _ HMS7.out.below⟩ (fun hHeld => ?_)
              clear hK K
              refine wpAnyH_done (by kernel_rfl) ?_ _
              clear hHeld x0 x1 x2 hfr
              go_wp2
              go_roundw
              case rel => exact ⟨k + 1, kv', LK.set j (.mk nn npa npc nps nka nkc nks), by omega, by go_num, HNP, HMS7.out⟩
              case measure => simp [intOf]; omega
          · obtain rfl : k = bks.length := by omega
            have HKE : Hid (LK.map pureN = mergeL (bks.map pureN) (ks.map pureN)) := Lib.hid (by rw [HK.out, List.take_length])
            have hnode := hms.node HNM.out hszs.1 hszs.2.1
            have hat := hms.nodeAt
            obtain ⟨_, _, yf, y0, y1, y2⟩ := BX.out wr hms.below
            have hlt2 : w.heap.size + 1 + 1 < wr.heap.size := by have := hms.size; omega
            have HV := Lib.hid hms.val
            have HPU := Lib.hid hms.pure
            obtain ⟨z0, z1, z2⟩ := hms.cells
            obtain ⟨gp, pcp, rfl⟩ := hms.pform
            obtain ⟨gk, kcp, rfl⟩ := hms.kform
            have HND := Lib.hid (And.intro hnode hat)
            have HBW := Lib.hid (HB0.out.trans (hms.below.mono (by omega)))
            clear hnode hat hms hlt hsP hsK hsT hszs
            go_wp2
            refine bodyPost_ret (v := .agg #[.string nm, .slice (some ⟨gp, 0, none⟩) P.length pcp, .slice (some ⟨gk, 0, none⟩) LK.length kcp]) (by simp [results, Try.results10, go_sem, y0, y1, y2, hlt2]; try rfl) rfl ?_
            have hg : wr.grownBy (((wr.setCell ⟨w.heap.size + 1 + 1, 0, none⟩ (.string nm)).setCell ⟨w.heap.size + 1 + 1, 1, none⟩ (.slice (some ⟨gp, 0, none⟩) P.length pcp)).setCell ⟨w.heap.size + 1 + 1, 2, none⟩ (.slice (some ⟨gk, 0, none⟩) LK.length kcp)) (some (w.heap.size + 1 + 1)) := ⟨rfl, rfl, rfl, by simp, fun k _ hk => by
              rw [heap_setCell_other _ _ _ _ (fun e => hk (by rw [e])), heap_setCell_other _ _ _ _ (fun e => hk (by rw [e])), heap_setCell_other _ _ _ _ (fun e => hk (by rw [e]))]⟩
            refine ⟨⟨_, by rw [HV.out], Nd.In.grown hg (fun g hg' hf => by
              injection hg' with hg'
              rcases hf with hf | hf
              · have := (HD1.out g hf).2; omega
              · omega) HND.out.1 HND.out.2, Nd.At.mono (fun g hf => by
              rcases hf with hf | hf
              · exact .inl (HD1.out g hf).1
              · exact .inr (by omega)) HND.out.2, ?_⟩, ((HBW.out.setCell (p := ⟨w.heap.size + 1 + 1, 0, none⟩) (by simp; omega) _).setCell (p := ⟨w.heap.size + 1 + 1, 1, none⟩) (by simp; omega) _).setCell (p := ⟨w.heap.size + 1 + 1, 2, none⟩) (by simp; omega) _⟩
            rw [HPU.out, HPE.out, HKE.out, pureN_mk, pureN_mk, mergeN]
            rfl
end Go.Proofs.Ytfekjihjifimcaa
