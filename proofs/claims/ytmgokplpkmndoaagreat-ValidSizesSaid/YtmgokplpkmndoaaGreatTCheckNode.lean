/-
  Layer 3: the first error of a node, and of those below it.
-/
import Derived.Test.YtmgokplpkmndoaaGreatTAlone
namespace Go.Proofs.YtmgokplpkmndoaaGreat
open Go.RowKit
set_option linter.unusedVariables false
set_option linter.unusedSimpArgs false

set_option maxHeartbeats 4000000 in
theorem alone_any (n : Nd) (d : Int) (w : World) (hin : n.In w w.heap.size) (hd0 : 1 ≤ d) (hd1 : d ≤ 17) (E : Int) (hE : aloneE n d = E) :
    Calls Tryz.prog 31 #[n.val, .int .i64 d] w fun e w' => e = .returned (.int .i64 E) ∧ Below w.heap.size w w' := by
  obtain ⟨r1, h1⟩ : ∃ r, nameOk n d = r := ⟨_, rfl⟩
  obtain ⟨r2, h2⟩ : ∃ r, n.props.any misP = r := ⟨_, rfl⟩
  obtain ⟨r3, h3⟩ : ∃ r, twiceB (n.props.map PV.name) = r := ⟨_, rfl⟩
  obtain ⟨r4, h4⟩ : ∃ r, twiceB (n.kids.map Nd.name) = r := ⟨_, rfl⟩
  have HE : Hid ((if 16 < d then 6 else if r1 = false then 5 else if r2 = true then 5 else if r3 = true then 9 else if r4 = true then 9 else 0) = E) := by
    rw [← hE, aloneE, h1, h2, h3, h4]; exact rfl
  have HI := Lib.hid hin
  have C1 := Lib.hid (fun w h => mayBe_any n d w h r1 h1)
  have C2 := Lib.hid (fun w h => containsMis_any n w h r2 h2)
  have C3 := Lib.hid (fun w h => twiceP_any n w h r3 h3)
  have C4 := Lib.hid (fun w h => twiceN_any n w h r4 h4)
  clear hE h1 h2 h3 h4 hin
  obtain ⟨nm, pa, pc, ps, ka, kc, ks⟩ := n
  show Calls _ _ #[.agg #[.string nm, .slice pa ps.length pc, .slice ka ks.length kc], .int .i64 d] _ _
  have HB := Lib.hid ((Below.refl w.heap.size w).alloc (Nat.le_refl _) (.cells #[Value.string nm, .slice pa ps.length pc, .slice ka ks.length kc] 33))
  have bx : ∀ (W : World), Below (w.heap.size + 1) (w.alloc (.cells #[Value.string nm, .slice pa ps.length pc, .slice ka ks.length kc] 33)) W → W.cell? ⟨w.heap.size, 1, none⟩ = some (.slice pa ps.length pc) ∧ W.cell? ⟨w.heap.size, 2, none⟩ = some (.slice ka ks.length kc) := fun W h =>
    ⟨(h.cell (Nat.lt_succ_self _)).trans (World.cell?_alloc_new _ _ _ _), (h.cell (Nat.lt_succ_self _)).trans (World.cell?_alloc_new _ _ _ _)⟩
  have BX := Lib.hid bx
  clear bx
  by_cases h16 : 16 < d
  · obtain rfl : E = 6 := by rw [← HE.out, if_pos h16]
    go_enter Tryz.func31, Tryz.ntmps31
    go_wp2
    go_ret
    exact ⟨rfl, HB.out⟩
  · have h16' : ¬ (16 < d) := h16
    cases r1
    · obtain rfl : E = 5 := by rw [← HE.out, if_neg (show ¬ (16 < d) by omega), if_pos rfl]
      go_enter Tryz.func31, Tryz.ntmps31
      go_wp2_with fail
      refine (C1.out _ (HI.out.on HB.out)).mono ?_
      rintro e w1 ⟨rfl, hb⟩
      have HB1 := Lib.hid (HB.out.trans (hb.mono HB.out.size))
      clear hb
      go_wp2
      go_ret
      exact ⟨rfl, HB1.out⟩
    · go_enter Tryz.func31, Tryz.ntmps31
      go_wp2_with fail
      refine (C1.out _ (HI.out.on HB.out)).mono ?_
      rintro e w1 ⟨rfl, hb⟩
      have HB1 := Lib.hid (HB.out.trans (hb.mono HB.out.size))
      have HX1 := Lib.hid (hb.mono (B' := w.heap.size + 1) (by simp))
      obtain ⟨b1, b2⟩ := BX.out _ HX1.out
      clear hb
      go_wp2_with fail
      refine (C2.out _ (HI.out.on HB1.out)).mono ?_
      rintro e w2 ⟨rfl, hb⟩
      have HB2 := Lib.hid (HB1.out.trans (hb.mono HB1.out.size))
      have HX2 := Lib.hid (HX1.out.trans (hb.mono (by have := HX1.out.size; simpa using this)))
      clear hb b1 b2
      obtain ⟨b1, b2⟩ := BX.out _ HX2.out
      cases r2
      · go_wp2_with fail
        refine (C3.out _ (HI.out.on HB2.out)).mono ?_
        rintro e w3 ⟨rfl, hb⟩
        have HB3 := Lib.hid (HB2.out.trans (hb.mono HB2.out.size))
        have HX3 := Lib.hid (HX2.out.trans (hb.mono (by have := HX2.out.size; simpa using this)))
        clear hb b1 b2
        obtain ⟨b1, b2⟩ := BX.out _ HX3.out
        cases r3
        · go_wp2_with fail
          refine (C4.out _ (HI.out.on HB3.out)).mono ?_
          rintro e w4 ⟨rfl, hb⟩
          have HB4 := Lib.hid (HB3.out.trans (hb.mono HB3.out.size))
          clear hb b1 b2
          cases r4
          · obtain rfl : E = 0 := by rw [← HE.out, if_neg (show ¬ (16 < d) by omega)]; rfl
            go_wp2
            go_ret
            exact ⟨rfl, HB4.out⟩
          · obtain rfl : E = 9 := by rw [← HE.out, if_neg (show ¬ (16 < d) by omega)]; rfl
            go_wp2
            go_ret
            exact ⟨rfl, HB4.out⟩
        · obtain rfl : E = 9 := by rw [← HE.out, if_neg (show ¬ (16 < d) by omega)]; rfl
          go_wp2
          go_ret
          exact ⟨rfl, HB3.out⟩
      · obtain rfl : E = 5 := by rw [← HE.out, if_neg (show ¬ (16 < d) by omega)]; rfl
        go_wp2
        go_ret
        exact ⟨rfl, HB2.out⟩

mutual
/-- The first error of a node at a depth, and of all below it. -/
noncomputable def wrongN : Nd → Int → Int
  | .mk a b c p e f ks, d => if aloneE (.mk a b c p e f ks) d = 0 then wrongL ks (d + 1) else aloneE (.mk a b c p e f ks) d
noncomputable def wrongL : List Nd → Int → Int
  | [], _ => 0
  | k :: l, d => if wrongN k d = 0 then wrongL l d else wrongN k d
end
theorem wrongN_mk (n : Nd) (d : Int) : wrongN n d = if aloneE n d = 0 then wrongL n.kids (d + 1) else aloneE n d := by
  cases n
  rw [wrongN]
  rfl
theorem wrongL_hit (d : Int) : ∀ (l : List Nd) (k : Nat) (hk : k < l.length), (∀ j (hj : j < l.length), j < k → wrongN l[j] d = 0) → wrongN l[k] d ≠ 0 → wrongL l d = wrongN l[k] d
  | x :: l, 0, hk, _, h => by
    have h' : wrongN x d ≠ 0 := h
    rw [wrongL, if_neg h']
    rfl
  | x :: l, k + 1, hk, h', h => by
    have h0 : wrongN x d = 0 := h' 0 (by simp) (by omega)
    rw [wrongL, if_pos h0, wrongL_hit d l k (by simpa using hk) (fun j hj hlt => h' (j + 1) (by simpa using hj) (by omega)) h]
    rfl
theorem wrongL_all (d : Int) : ∀ (l : List Nd), (∀ j (hj : j < l.length), wrongN l[j] d = 0) → wrongL l d = 0
  | [], _ => rfl
  | x :: l, h => by
    have h0 : wrongN x d = 0 := h 0 (by simp)
    rw [wrongL, if_pos h0, wrongL_all d l (fun j hj => h (j + 1) (by simpa using hj))]
/-- The first k have no error. -/
def Fine (l : List Nd) (d : Int) (k : Nat) : Prop := ∀ j (hj : j < l.length), j < k → wrongN l[j] d = 0
theorem Fine.zero (l : List Nd) (d : Int) : Fine l d 0 := fun _ _ h => absurd h (Nat.not_lt_zero _)
theorem Fine.succ {l : List Nd} {d : Int} {k : Nat} (h : Fine l d k) (hk : k < l.length) (he : wrongN l[k] d = 0) : Fine l d (k + 1) := fun j hj hlt => by
  rcases Nat.lt_succ_iff_lt_or_eq.1 hlt with h' | rfl
  · exact h j hj h'
  · exact he
theorem alone_deep {n : Nd} {d : Int} (h : aloneE n d = 0) : d ≤ 16 := by
  by_cases h16 : 16 < d
  · rw [aloneE, if_pos h16] at h; omega
  · omega

set_option maxHeartbeats 4000000 in
theorem checkNode_any : ∀ (n : Nd) (d : Int) (w : World), n.In w w.heap.size → 1 ≤ d → d ≤ 17 → ∀ E : Int, wrongN n d = E → Calls Tryz.prog 14 #[n.val, .int .i64 d] w fun e w' => e = .returned (.int .i64 E) ∧ Below w.heap.size w w' := by
  refine Nd.ind ?_
  intro n ih d w hin hd0 hd1 E hE
  obtain ⟨E1, h1⟩ : ∃ E1, aloneE n d = E1 := ⟨_, rfl⟩
  have HE : Hid ((if E1 = 0 then wrongL n.kids (d + 1) else E1) = E) := by rw [← h1, ← wrongN_mk]; exact hE
  have HD := Lib.hid (fun h : E1 = 0 => alone_deep (h1.trans h))
  have HI := Lib.hid hin
  have IH := Lib.hid ih
  have C1 := Lib.hid (fun w h => alone_any n d w h hd0 hd1 E1 h1)
  obtain ⟨hl, hm⟩ := hin.klen
  clear hin ih hE h1
  obtain ⟨nm, pa, pc, ps, ka, kc, ks⟩ := n
  replace hl : ks.length ≤ kc := hl
  replace hm : kc ≤ 9223372036854775807 := hm
  replace HE : Hid ((if E1 = 0 then wrongL ks (d + 1) else E1) = E) := HE
  show Calls _ _ #[.agg #[.string nm, .slice pa ps.length pc, .slice ka ks.length kc], .int .i64 d] _ _
  have HB := Lib.hid ((Below.refl w.heap.size w).alloc (Nat.le_refl _) (.cells #[Value.string nm, .slice pa ps.length pc, .slice ka ks.length kc] 33))
  go_enter Tryz.func14, Tryz.ntmps14
  go_wp2_with fail
  refine (C1.out _ (HI.out.on HB.out)).mono ?_
  rintro e w1 ⟨rfl, hb⟩
  have HB1 := Lib.hid (HB.out.trans (hb.mono HB.out.size))
  have b2 := (hb.cell (p := ⟨w.heap.size, 2, none⟩) (by simp)).trans (World.cell?_alloc_new _ _ _ _)
  replace b2 : _ = some (Value.slice ka ks.length kc) := b2
  clear hb
  by_cases h0 : E1 = 0
  · have HF : Hid (wrongL ks (d + 1) = E) := by have := HE.out; rwa [if_pos h0] at this
    have hd16 := HD.out h0
    subst h0
    clear HE HD
    go_wp2_with fail
    go_loopw [18] (fun i wr => ∃ k : Nat, k ≤ ks.length ∧ i = .int .i64 k ∧ Fine ks (d + 1) k ∧ Below w.heap.size w wr) (fun i _ => ks.length - (intOf i).toNat)
    case atStart => exact ⟨0, Nat.zero_le _, rfl, Fine.zero _ _, HB1.out⟩
    case round =>
      clear b2
      obtain ⟨k, hk, rfl, hfine, hb⟩ := hrel
      have HA := Lib.hid hfine
      have HB' := Lib.hid hb
      clear hfine hb
      by_cases hlt : k < ks.length
      · obtain ⟨b, o, e, hb, c0, c1, c2⟩ := (HI.out.under HB'.out).kcell (i := k) hlt
        obtain rfl : ka = _ := e
        replace c0 : _ = some (Value.string ks[k].name) := c0
        replace c1 : _ = some (Value.slice ks[k].pa ks[k].props.length ks[k].pc) := c1
        replace c2 : _ = some (Value.slice ks[k].ka ks[k].kids.length ks[k].kc) := c2
        have HB2 := Lib.hid (HB'.out.alloc HB'.out.size (.cells #[Value.string ks[k].name, .slice ks[k].pa ks[k].props.length ks[k].pc, .slice ks[k].ka ks[k].kids.length ks[k].kc] 33))
        obtain ⟨F, hF⟩ : ∃ F, wrongN ks[k] (d + 1) = F := ⟨_, rfl⟩
        have C := Lib.hid (IH.out ks[k] (List.getElem_mem hlt) (d + 1) _ (((HI.out.kid (List.getElem_mem hlt)).under HB2.out).more HB2.out.size) (by omega) (by omega) F hF)
        have HQ := Lib.hid hF
        clear hF
        go_wp2_with fail
        refine C.out.mono ?_
        rintro e w' ⟨rfl, hb'⟩
        have HB3 := Lib.hid (HB2.out.trans (hb'.mono HB2.out.size))
        clear hb'
        by_cases hF0 : F = 0
        · subst hF0
          go_wp2
          go_roundw
          case rel => exact ⟨k + 1, by omega, by go_num, HA.out.succ hlt HQ.out, HB3.out⟩
          case measure => simp [intOf]; omega
        · have f1 : (F == 0) = false := by rw [beq_eq_false_iff_ne]; exact hF0
          have f2 : (F != 0) = true := by rw [bne, f1]; rfl
          obtain rfl : E = F := by rw [← HF.out, wrongL_hit (d + 1) ks k hlt HA.out (by rw [HQ.out]; exact hF0)]; exact HQ.out
          clear hF0
          go_wp2
          go_ret
          exact ⟨rfl, HB3.out⟩
      · obtain rfl : E = 0 := by rw [← HF.out]; exact wrongL_all (d + 1) ks (fun j hj => HA.out j hj (by omega))
        go_wp2
        go_ret
        exact ⟨rfl, HB'.out⟩
  · have f1 : (E1 == 0) = false := by rw [beq_eq_false_iff_ne]; exact h0
    have f2 : (E1 != 0) = true := by rw [bne, f1]; rfl
    obtain rfl : E = E1 := by rw [← HE.out, if_neg h0]
    clear h0 HE HD
    go_wp2
    go_ret
    exact ⟨rfl, HB1.out⟩
end Go.Proofs.YtmgokplpkmndoaaGreat
