/-
  Layer 12: the program's count, Counts; the law's first question.
-/
import Derived.Test.YtgogkcmdcfcikaaLRegCounts
import Derived.Test.YtgogkcmdcfcikaaPOne
namespace Go.Proofs.Ytgogkcmdcfcikaa
open Go.RowKit
set_option linter.unusedVariables false
set_option linter.unusedSimpArgs false

/-- What the program's count answers. -/
def cntVal (v : Int) : Value := if 0 ≤ v then .tuple #[.int .i64 v, .int .i64 0] else .tuple #[.int .i64 0, .int .i64 10]

set_option maxHeartbeats 2000000 in
theorem cnt_any (n : Nd) (s : ByteArray) (d : Int) (w : World) (hin : n.In w w.heap.size) (hs : s.size ≤ 140737488351232) (hd : 0 ≤ d) :
    Calls Try.prog 18 #[n.val, .string s, .int .i64 d] w fun e w' => e = .returned (cntVal (cntV n s d)) ∧ Below w.heap.size w w' := by
  have C := Lib.hid (fun W hW => oneOK n s W hW hs)
  have hb := oneV_bound hin s
  have HV : Hid (cntV n s d = if (oneV n s).2.2 ≠ 0 ∨ 2 < (oneV n s).1 then -1 else if (oneV n s).2.1 = false then d else (oneV n s).1) := Lib.hid rfl
  have HI := Lib.hid hin
  have HD := Lib.hid hd
  obtain ⟨O, hO⟩ : ∃ O, oneV n s = O := ⟨_, rfl⟩
  rw [hO] at C hb HV
  obtain ⟨v, ok, E⟩ := O
  obtain ⟨r, hr⟩ : ∃ r, cntVal (cntV n s d) = r := ⟨_, rfl⟩
  have HRR := Lib.hid hr
  rw [hr]
  obtain ⟨v0, v1⟩ : 0 ≤ v ∧ v ≤ 4294967295 := hb
  replace HV : Hid (cntV n s d = if E ≠ 0 ∨ 2 < v then -1 else if ok = false then d else v) := HV
  clear hin hs hd hO hr
  obtain ⟨nm, pa, pc, ps, ka, kc, ks⟩ := n
  simp only [Nd.val, Nd.pv, Nd.kv, Nd.name, Nd.pa, Nd.pc, Nd.props, Nd.ka, Nd.kc, Nd.kids, oneVal] at C ⊢
  have HB := Lib.hid ((Below.refl w.heap.size w).alloc (Nat.le_refl _) (.cells #[Value.string nm, .slice pa ps.length pc, .slice ka ks.length kc] 25))
  by_cases hE : E = 0
  · subst hE
    by_cases hv : 2 < v
    · have q1 : decide ((2 : Int) < v) = true := decide_eq_true hv
      have HR : Hid (r = .tuple #[.int .i64 0, .int .i64 10]) := Lib.hid (by rw [← HRR.out, HV.out, if_pos (.inr hv)]; rfl)
      clear hv
      go_enter Try.func18, Try.ntmps18
      go_wp2_with fail
      refine (C.out _ (Nd.In.more HB.out.size (HI.out.under HB.out))).mono ?_
      rintro e w1 ⟨rfl, hb⟩
      have HB1 := Lib.hid (HB.out.trans (hb.mono HB.out.size))
      clear hb
      go_wp2
      go_ret2
      exact ⟨by rw [HR.out]; rfl, HB1.out⟩
    · have q1 : decide ((2 : Int) < v) = false := decide_eq_false hv
      cases ok
      · have HR : Hid (r = .tuple #[.int .i64 d, .int .i64 0]) := Lib.hid (by rw [← HRR.out, HV.out, if_neg (by simp; omega), if_pos rfl, cntVal, if_pos HD.out])
        clear hv
        go_enter Try.func18, Try.ntmps18
        go_wp2_with fail
        refine (C.out _ (Nd.In.more HB.out.size (HI.out.under HB.out))).mono ?_
        rintro e w1 ⟨rfl, hb⟩
        have HB1 := Lib.hid (HB.out.trans (hb.mono HB.out.size))
        clear hb
        go_wp2
        go_ret2
        exact ⟨by rw [HR.out]; rfl, HB1.out⟩
      · have HR : Hid (r = .tuple #[.int .i64 v, .int .i64 0]) := Lib.hid (by rw [← HRR.out, HV.out, if_neg (by simp; omega), if_neg (by simp), cntVal, if_pos v0])
        have hcv : IntKind.i64.wrap v = v := by rw [IntKind.wrap_i64]; omega
        clear hv
        go_enter Try.func18, Try.ntmps18
        go_wp2_with fail
        refine (C.out _ (Nd.In.more HB.out.size (HI.out.under HB.out))).mono ?_
        rintro e w1 ⟨rfl, hb⟩
        have HB1 := Lib.hid (HB.out.trans (hb.mono HB.out.size))
        clear hb
        go_wp2
        go_ret2
        exact ⟨by rw [HR.out]; rfl, HB1.out⟩
  · have q0 : (E != 0) = true := by rw [bne_iff_ne]; exact hE
    have HR : Hid (r = .tuple #[.int .i64 0, .int .i64 10]) := Lib.hid (by rw [← HRR.out, HV.out, if_pos (.inl hE)]; rfl)
    clear hE
    go_enter Try.func18, Try.ntmps18
    go_wp2_with fail
    refine (C.out _ (Nd.In.more HB.out.size (HI.out.under HB.out))).mono ?_
    rintro e w1 ⟨rfl, hb⟩
    have HB1 := Lib.hid (HB.out.trans (hb.mono HB.out.size))
    clear hb
    go_wp2
    go_ret2
    exact ⟨by rw [HR.out]; rfl, HB1.out⟩

set_option maxRecDepth 20000 in
set_option maxHeartbeats 4000000 in
theorem countsOK : CountsOK := by
  intro n w hin
  have CA := Lib.hid (fun W hW => cnt_any n nmAddr 2 W hW (by decide) (by decide))
  have CS := Lib.hid (fun W hW => cnt_any n nmSize 1 W hW (by decide) (by decide))
  have HI := Lib.hid hin
  have HOK : Hid (okCounts n = (decide (0 ≤ cntV n nmAddr 2) && decide (0 ≤ cntV n nmSize 1))) := Lib.hid rfl
  obtain ⟨ok, hok⟩ : ∃ ok, okCounts n = ok := ⟨_, rfl⟩
  rw [hok] at HOK ⊢
  obtain ⟨va, hva⟩ : ∃ v, cntV n nmAddr 2 = v := ⟨_, rfl⟩
  obtain ⟨vs, hvs⟩ : ∃ v, cntV n nmSize 1 = v := ⟨_, rfl⟩
  rw [hva] at CA HOK ⊢
  rw [hvs] at CS HOK ⊢
  clear hin hva hvs hok
  obtain ⟨nm, pa, pc, ps, ka, kc, ks⟩ := n
  simp only [Nd.val, Nd.pv, Nd.kv, Nd.name, Nd.pa, Nd.pc, Nd.props, Nd.ka, Nd.kc, Nd.kids, nmAddr, nmSize] at CA CS ⊢
  have HB := Lib.hid ((Below.refl w.heap.size w).alloc (Nat.le_refl _) (.cells #[Value.string nm, .slice pa ps.length pc, .slice ka ks.length kc] 25))
  have BX : Hid (∀ W, Below (w.heap.size + 1) (w.alloc (.cells #[Value.string nm, .slice pa ps.length pc, .slice ka ks.length kc] 25)) W → (W.cell? ⟨w.heap.size, 0, none⟩ = some (.string nm) ∧ W.cell? ⟨w.heap.size, 1, none⟩ = some (.slice pa ps.length pc) ∧ W.cell? ⟨w.heap.size, 2, none⟩ = some (.slice ka ks.length kc))) := Lib.hid (fun W h =>
    ⟨(h.cell (Nat.lt_succ_self _)).trans (World.cell?_alloc_new _ _ _ _), (h.cell (Nat.lt_succ_self _)).trans (World.cell?_alloc_new _ _ _ _), (h.cell (Nat.lt_succ_self _)).trans (World.cell?_alloc_new _ _ _ _)⟩)
  have IN := Lib.hid (fun W (h : Below w.heap.size w W) => Nd.In.more h.size (HI.out.under h))
  by_cases ha : 0 ≤ va
  · have EA : cntVal va = .tuple #[.int .i64 va, .int .i64 0] := if_pos ha
    rw [EA] at CA
    have HOK2 : Hid (ok = decide (0 ≤ vs)) := Lib.hid (by rw [HOK.out, decide_eq_true ha, Bool.true_and])
    clear EA ha HOK
    go_enter Try.func9, Try.ntmps9
    go_wp2_with fail
    refine (CA.out _ (IN.out _ HB.out)).mono ?_
    rintro e w1 ⟨rfl, hb⟩
    have HB1 := Lib.hid (HB.out.trans (hb.mono HB.out.size))
    obtain ⟨d0, d1, d2⟩ := BX.out _ (hb.mono (by simp))
    clear hb CA
    by_cases hs : 0 ≤ vs
    · have ES : cntVal vs = .tuple #[.int .i64 vs, .int .i64 0] := if_pos hs
      rw [ES] at CS
      have HOK3 : Hid (ok = true) := Lib.hid (by rw [HOK2.out, decide_eq_true hs])
      clear ES hs HOK2
      go_wp2_with fail
      refine (CS.out _ (IN.out _ HB1.out)).mono ?_
      rintro e w2 ⟨rfl, hb⟩
      have HB2 := Lib.hid (HB1.out.trans (hb.mono HB1.out.size))
      clear hb CS d0 d1 d2
      go_wp2
      go_ret3
      exact ⟨fun _ => rfl, fun h => (by rw [HOK3.out] at h; cases h), HB2.out⟩
    · have ES : cntVal vs = .tuple #[.int .i64 0, .int .i64 10] := if_neg hs
      rw [ES] at CS
      have HOK3 : Hid (ok = false) := Lib.hid (by rw [HOK2.out, decide_eq_false hs])
      clear ES hs HOK2
      go_wp2_with fail
      refine (CS.out _ (IN.out _ HB1.out)).mono ?_
      rintro e w2 ⟨rfl, hb⟩
      have HB2 := Lib.hid (HB1.out.trans (hb.mono HB1.out.size))
      clear hb CS d0 d1 d2
      go_wp2
      go_ret3
      exact ⟨fun h => (by rw [HOK3.out] at h; cases h), fun _ => rfl, HB2.out⟩
  · have EA : cntVal va = .tuple #[.int .i64 0, .int .i64 10] := if_neg ha
    rw [EA] at CA
    have HOK3 : Hid (ok = false) := Lib.hid (by rw [HOK.out, decide_eq_false ha, Bool.false_and])
    clear EA ha HOK
    go_enter Try.func9, Try.ntmps9
    go_wp2_with fail
    refine (CA.out _ (IN.out _ HB.out)).mono ?_
    rintro e w1 ⟨rfl, hb⟩
    have HB1 := Lib.hid (HB.out.trans (hb.mono HB.out.size))
    clear hb CA
    go_wp2
    go_ret3
    exact ⟨fun h => (by rw [HOK3.out] at h; cases h), fun _ => rfl, HB1.out⟩

theorem nd0_in (w : World) (B : Nat) : (Nd.mk ⟨#[]⟩ none 0 [] none 0 []).In w B :=
  .mk _ ⟨by decide, by simp [Nd.props], by simp [Nd.kids]⟩ (by simp [Nd.props, Nd.pc]) (by simp [Nd.pc]) (by simp [Nd.kids, Nd.kc]) (by simp [Nd.kc]) (fun h => absurd h (by simp [Nd.props])) (fun p h => by simp [Nd.props] at h) (fun h => absurd h (by simp [Nd.kids])) (fun p h => by simp [Nd.kids] at h)

set_option maxHeartbeats 2000000 in
theorem awake12 : Awake12 := by
  intro w
  have C := Lib.hid (fun W (h : (Nd.mk ⟨#[]⟩ none 0 [] none 0 []).In W W.heap.size) => countsOK (Nd.mk ⟨#[]⟩ none 0 [] none 0 []) W h)
  replace C : Hid (∀ W : World, Calls Try.prog 9 #[.agg #[.string ⟨#[]⟩, .slice none 0 0, .slice none 0 0]] W fun e w' => e = .returned (.tuple #[.int .i64 2, .int .i64 1, .int .i64 0]) ∧ Below W.heap.size W w') := Lib.hid (fun W => (C.out W (nd0_in _ _)).mono fun e w' h => ⟨h.1 (by decide), h.2.2⟩)
  go_enter Try.func7, Try.ntmps7
  go_wp2_with fail
  refine (C.out _).mono ?_
  rintro e w1 ⟨rfl, hb⟩
  have HB := Lib.hid hb
  clear hb
  go_wp2
  go_ret
  exact ⟨rfl, HB.out⟩
end Go.Proofs.Ytgogkcmdcfcikaa
