/-
  Layer 12, RegionCounts: out of what the program's Counts answers.
-/
import Derived.Test.YtgogkcmdcfcikaaQCounts
import Derived.Test.YtgogkcmdcfcikaaLRegBytes
import Derived.Test.YtgogkcmdcfcikaaTCheck
namespace Go.Proofs.Ytgogkcmdcfcikaa
open Go.RowKit
set_option linter.unusedVariables false
set_option linter.unusedSimpArgs false

def okCounts (n : Nd) : Bool := decide (0 ≤ cntV n nmAddr 2) && decide (0 ≤ cntV n nmSize 1)
def CountsOK : Prop := ∀ (n : Nd) (w : World), n.In w w.heap.size → Calls Try.prog 9 #[n.val] w fun e w' =>
  (okCounts n = true → e = .returned (.tuple #[.int .i64 (cntV n nmAddr 2), .int .i64 (cntV n nmSize 1), .int .i64 0])) ∧ (okCounts n = false → e = .returned (.tuple #[.int .i64 0, .int .i64 0, .int .i64 10])) ∧ Below w.heap.size w w'

theorem few12_any (n : Nd) (w : World) (hin : n.In w w.heap.size) : Calls Try.prog 8 #[n.val] w fun e w' => (∃ r : Bool, e = .returned (.bool r)) ∧ Below w.heap.size w w' := by
  have C0 := Lib.hid (fun W (h : n.In W W.heap.size) => few_any ⟨0, none, 0, [], n⟩ W ⟨⟨by show (0 : Int) ≤ 0; decide, by show (0 : Int) ≤ _; decide⟩, ⟨by simp, by simp, by simp⟩, fun h => absurd h (by simp), fun r h => by simp at h, h⟩)
  have HI := Lib.hid hin
  clear hin
  obtain ⟨nm, pa, pc, ps, ka, kc, ks⟩ := n
  simp only [Tr.val, Tr.rv, Nd.val, Nd.pv, Nd.kv, Nd.name, Nd.pa, Nd.pc, Nd.props, Nd.ka, Nd.kc, Nd.kids, List.length_nil] at C0 ⊢
  have HB := Lib.hid ((Below.refl w.heap.size w).alloc (Nat.le_refl _) (.cells #[Value.string nm, .slice pa ps.length pc, .slice ka ks.length kc] 25))
  go_enter Try.func8, Try.ntmps8
  go_wp2_with fail
  refine (C0.out _ (Nd.In.more HB.out.size (HI.out.under HB.out))).mono ?_
  rintro e w1 ⟨⟨r, rfl⟩, hb⟩
  have HB1 := Lib.hid (HB.out.trans (hb.mono HB.out.size))
  clear hb
  go_wp2
  go_ret
  exact ⟨⟨_, rfl⟩, HB1.out⟩

set_option maxRecDepth 20000 in
set_option maxHeartbeats 8000000 in
theorem regionCounts_true (hK : Awake12) (hC : CountsOK) (n : Nd) (w : World) (hin : n.In w w.heap.size) :
    Calls Try.prog 3 #[n.val] w fun e w' => e = .returned (.bool true) ∧ Below w.heap.size w w' := by
  have HK := Lib.hid hK
  have C0 := Lib.hid (fun W hW => few12_any n W hW)
  have C1 := Lib.hid (fun W hW => hC n W hW)
  have D1 := Lib.hid (fun W hW => refcounts_all n W hW)
  have HI := Lib.hid hin
  obtain ⟨va, hva⟩ : ∃ v, cntV n nmAddr 2 = v := ⟨_, rfl⟩
  obtain ⟨vs, hvs⟩ : ∃ v, cntV n nmSize 1 = v := ⟨_, rfl⟩
  have HO : Hid (okCounts n = (decide (0 ≤ va) && decide (0 ≤ vs))) := Lib.hid (by rw [okCounts, hva, hvs])
  rw [hva, hvs] at C1 D1
  rw [HO.out] at C1
  obtain ⟨ok, hok⟩ : ∃ ok, (decide (0 ≤ va) && decide (0 ≤ vs)) = ok := ⟨_, rfl⟩
  rw [hok] at C1 D1
  clear hK hC hin hva hvs hok HO
  obtain ⟨nm, pa, pc, ps, ka, kc, ks⟩ := n
  simp only [Nd.val, Nd.pv, Nd.kv, Nd.name, Nd.pa, Nd.pc, Nd.props, Nd.ka, Nd.kc, Nd.kids] at C0 C1 D1 ⊢
  have HB := Lib.hid ((Below.refl w.heap.size w).alloc (Nat.le_refl _) (.cells #[Value.string nm, .slice pa ps.length pc, .slice ka ks.length kc] 25))
  have BX : Hid (∀ W, Below (w.heap.size + 1) (w.alloc (.cells #[Value.string nm, .slice pa ps.length pc, .slice ka ks.length kc] 25)) W → W.cell? ⟨w.heap.size, 0, none⟩ = some (.string nm) ∧ W.cell? ⟨w.heap.size, 1, none⟩ = some (.slice pa ps.length pc) ∧ W.cell? ⟨w.heap.size, 2, none⟩ = some (.slice ka ks.length kc)) := Lib.hid (fun W h =>
    ⟨(h.cell (Nat.lt_succ_self _)).trans (World.cell?_alloc_new _ _ _ _), (h.cell (Nat.lt_succ_self _)).trans (World.cell?_alloc_new _ _ _ _), (h.cell (Nat.lt_succ_self _)).trans (World.cell?_alloc_new _ _ _ _)⟩)
  have IN := Lib.hid (fun W (h : Below w.heap.size w W) => Nd.In.more h.size (HI.out.under h))
  go_enter Try.func3, Try.ntmps3
  go_wp2_with fail
  refine (HK.out _).mono ?_
  rintro e w1 ⟨rfl, hb⟩
  have HB1 := Lib.hid (HB.out.trans (hb.mono HB.out.size))
  have HX1 := Lib.hid (hb.mono (B' := w.heap.size + 1) (by simp))
  obtain ⟨b0, b1, b2⟩ := BX.out _ HX1.out
  clear hb
  go_wp2_with fail
  refine (C0.out _ (IN.out _ HB1.out)).mono ?_
  rintro e w2 ⟨⟨r, rfl⟩, hb⟩
  have HB2 := Lib.hid (HB1.out.trans (hb.mono HB1.out.size))
  have HX2 := Lib.hid (HX1.out.trans (hb.mono (by have := HX1.out.size; simpa using this)))
  clear hb b0 b1 b2
  obtain ⟨b0, b1, b2⟩ := BX.out _ HX2.out
  cases r
  · clear b0 b1 b2
    go_wp2_with fail
    refine (HK.out _).mono ?_
    rintro e w3 ⟨rfl, hb⟩
    have HB3 := Lib.hid (HB2.out.trans (hb.mono HB2.out.size))
    clear hb
    go_wp2
    go_ret
    exact ⟨rfl, HB3.out⟩
  · go_wp2_with fail
    refine (C1.out _ (IN.out _ HB2.out)).mono ?_
    rintro e w3 ⟨ho1, ho2, hb⟩
    have HB3 := Lib.hid (HB2.out.trans (hb.mono HB2.out.size))
    have HX3 := Lib.hid (HX2.out.trans (hb.mono (by have := HX2.out.size; simpa using this)))
    clear hb b0 b1 b2
    obtain ⟨b0, b1, b2⟩ := BX.out _ HX3.out
    have q1 : (va == va) = true := by simp
    have q2 : (vs == vs) = true := by simp
    cases ok
    · obtain rfl := ho2 rfl
      clear ho1 ho2
      go_wp2_with fail
      refine (D1.out _ (IN.out _ HB3.out)).mono ?_
      rintro e w4 ⟨rfl, hb⟩
      have HB4 := Lib.hid (HB3.out.trans (hb.mono HB3.out.size))
      clear hb b0 b1 b2
      go_wp2
      go_ret
      exact ⟨rfl, HB4.out⟩
    · obtain rfl := ho1 rfl
      clear ho1 ho2
      go_wp2_with fail
      refine (D1.out _ (IN.out _ HB3.out)).mono ?_
      rintro e w4 ⟨rfl, hb⟩
      have HB4 := Lib.hid (HB3.out.trans (hb.mono HB3.out.size))
      clear hb b0 b1 b2
      go_wp2
      go_ret
      exact ⟨rfl, HB4.out⟩
end Go.Proofs.Ytgogkcmdcfcikaa
