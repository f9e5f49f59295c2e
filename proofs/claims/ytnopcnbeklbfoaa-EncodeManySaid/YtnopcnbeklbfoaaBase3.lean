/-
  Base, part 3: what the proofs of this claim lean on.
-/
import Derived.Test.YtnopcnbeklbfoaaBase2
import Derived.BigQuiet
import Derived.Deep.DrawnRows
import Derived.Test.YtnopcnbeklbfoaaBase1
import Derived.Lib.Bytes
import Derived.Lib.SmallJoins
import Derived.Maps.AppendAt
import Derived.Lib.SlFresh
import Derived.Great.BuildSlice
import Derived.Deep.QuietTactic

/-! Layer 3: the first error of a node, and of those below it. -/
namespace Go.Proofs.Ytnopcnbeklbfoaa
open Go.RowKit
set_option linter.unusedVariables false
set_option linter.unusedSimpArgs false

set_option maxHeartbeats 4000000 in
theorem alone_any (n : Nd) (d : Int) (w : World) (hin : n.In w w.heap.size) (hd0 : 1 ≤ d) (hd1 : d ≤ 17) (E : Int) (hE : aloneE n d = E) :
    Calls Try.prog 63 #[n.val, .int .i64 d] w fun e w' => e = .returned (.int .i64 E) ∧ Below w.heap.size w w' := by
  obtain ⟨r1, h1⟩ : ∃ r, nameOk n d = r := ⟨_, rfl⟩
  obtain ⟨r2, h2⟩ : ∃ r, n.props.any misP = r := ⟨_, rfl⟩
  obtain ⟨r3, h3⟩ : ∃ r, twiceB (n.props.map PV.name) = r := ⟨_, rfl⟩
  obtain ⟨r4, h4⟩ : ∃ r, twiceB (n.kids.map Nd.name) = r := ⟨_, rfl⟩
  have HE : Hid ((if 16 < d then 6 else if r1 = false then 5 else if r2 = true then 5 else if r3 = true then 9 else if r4 = true then 9 else 0) = E) := by
    rw [← hE, aloneE, h1, h2, h3, h4]; exact rfl
  have HI := Lib.hid hin
  have C1 := Lib.hid (fun w h => mayBe_any n d w h r1 h1)
  have C2 := Lib.hid (fun w h => containsMis_any n w h r2 h2)
  have C3 := Lib.hid (fun w h => twiceP_any n w h r3 h3)
  have C4 := Lib.hid (fun w h => twiceN_any n w h r4 h4)
  clear hE h1 h2 h3 h4 hin
  obtain ⟨nm, pa, pc, ps, ka, kc, ks⟩ := n
  show Calls _ _ #[.agg #[.string nm, .slice pa ps.length pc, .slice ka ks.length kc], .int .i64 d] _ _
  have HB := Lib.hid ((Below.refl w.heap.size w).alloc (Nat.le_refl _) (.cells #[Value.string nm, .slice pa ps.length pc, .slice ka ks.length kc] 38))
  have bx : ∀ (W : World), Below (w.heap.size + 1) (w.alloc (.cells #[Value.string nm, .slice pa ps.length pc, .slice ka ks.length kc] 38)) W → W.cell? ⟨w.heap.size, 1, none⟩ = some (.slice pa ps.length pc) ∧ W.cell? ⟨w.heap.size, 2, none⟩ = some (.slice ka ks.length kc) := fun W h =>
    ⟨(h.cell (Nat.lt_succ_self _)).trans (World.cell?_alloc_new _ _ _ _), (h.cell (Nat.lt_succ_self _)).trans (World.cell?_alloc_new _ _ _ _)⟩
  have BX := Lib.hid bx
  clear bx
  by_cases h16 : 16 < d
  · obtain rfl : E = 6 := by rw [← HE.out, if_pos h16]
    go_enter Try.func63, Try.ntmps63
    go_wp2
    go_ret
    exact ⟨rfl, HB.out⟩
  · have h16' : ¬ (16 < d) := h16
    cases r1
    · obtain rfl : E = 5 := by rw [← HE.out, if_neg (show ¬ (16 < d) by omega), if_pos rfl]
      go_enter Try.func63, Try.ntmps63
      go_wp2_with fail
      refine (C1.out _ (HI.out.on HB.out)).mono ?_
      rintro e w1 ⟨rfl, hb⟩
      have HB1 := Lib.hid (HB.out.trans (hb.mono HB.out.size))
      clear hb
      go_wp2
      go_ret
      exact ⟨rfl, HB1.out⟩
    · go_enter Try.func63, Try.ntmps63
      go_wp2_with fail
      refine (C1.out _ (HI.out.on HB.out)).mono ?_
      rintro e w1 ⟨rfl, hb⟩
      have HB1 := Lib.hid (HB.out.trans (hb.mono HB.out.size))
      have HX1 := Lib.hid (hb.mono (B' := w.heap.size + 1) (by simp))
      obtain ⟨b1, b2⟩ := BX.out _ HX1.out
      clear hb
      go_wp2_with fail
      refine (C2.out _ (HI.out.on HB1.out)).mono ?_
      rintro e w2 ⟨rfl, hb⟩
      have HB2 := Lib.hid (HB1.out.trans (hb.mono HB1.out.size))
      have HX2 := Lib.hid (HX1.out.trans (hb.mono (by have := HX1.out.size; simpa using this)))
      clear hb b1 b2
      obtain ⟨b1, b2⟩ := BX.out _ HX2.out
      cases r2
      · go_wp2_with fail
        refine (C3.out _ (HI.out.on HB2.out)).mono ?_
        rintro e w3 ⟨rfl, hb⟩
        have HB3 := Lib.hid (HB2.out.trans (hb.mono HB2.out.size))
        have HX3 := Lib.hid (HX2.out.trans (hb.mono (by have := HX2.out.size; simpa using this)))
        clear hb b1 b2
        obtain ⟨b1, b2⟩ := BX.out _ HX3.out
        cases r3
        · go_wp2_with fail
          refine (C4.out _ (HI.out.on HB3.out)).mono ?_
          rintro e w4 ⟨rfl, hb⟩
          have HB4 := Lib.hid (HB3.out.trans (hb.mono HB3.out.size))
          clear hb b1 b2
          cases r4
          · obtain rfl : E = 0 := by rw [← HE.out, if_neg (show ¬ (16 < d) by omega)]; rfl
            go_wp2
            go_ret
            exact ⟨rfl, HB4.out⟩
          · obtain rfl : E = 9 := by rw [← HE.out, if_neg (show ¬ (16 < d) by omega)]; rfl
            go_wp2
            go_ret
            exact ⟨rfl, HB4.out⟩
        · obtain rfl : E = 9 := by rw [← HE.out, if_neg (show ¬ (16 < d) by omega)]; rfl
          go_wp2
          go_ret
          exact ⟨rfl, HB3.out⟩
      · obtain rfl : E = 5 := by rw [← HE.out, if_neg (show ¬ (16 < d) by omega)]; rfl
        go_wp2
        go_ret
        exact ⟨rfl, HB2.out⟩

mutual
/-- The first error of a node at a depth, and of all below it. -/
noncomputable def wrongN : Nd → Int → Int
  | .mk a b c p e f ks, d => if aloneE (.mk a b c p e f ks) d = 0 then wrongL ks (d + 1) else aloneE (.mk a b c p e f ks) d
noncomputable def wrongL : List Nd → Int → Int
  | [], _ => 0
  | k :: l, d => if wrongN k d = 0 then wrongL l d else wrongN k d
end
theorem wrongN_mk (n : Nd) (d : Int) : wrongN n d = if aloneE n d = 0 then wrongL n.kids (d + 1) else aloneE n d := by
  cases n
  rw [wrongN]
  rfl
theorem wrongL_hit (d : Int) : ∀ (l : List Nd) (k : Nat) (hk : k < l.length), (∀ j (hj : j < l.length), j < k → wrongN l[j] d = 0) → wrongN l[k] d ≠ 0 → wrongL l d = wrongN l[k] d
  | x :: l, 0, hk, _, h => by
    have h' : wrongN x d ≠ 0 := h
    rw [wrongL, if_neg h']
    rfl
  | x :: l, k + 1, hk, h', h => by
    have h0 : wrongN x d = 0 := h' 0 (by simp) (by omega)
    rw [wrongL, if_pos h0, wrongL_hit d l k (by simpa using hk) (fun j hj hlt => h' (j + 1) (by simpa using hj) (by omega)) h]
    rfl
theorem wrongL_all (d : Int) : ∀ (l : List Nd), (∀ j (hj : j < l.length), wrongN l[j] d = 0) → wrongL l d = 0
  | [], _ => rfl
  | x :: l, h => by
    have h0 : wrongN x d = 0 := h 0 (by simp)
    rw [wrongL, if_pos h0, wrongL_all d l (fun j hj => h (j + 1) (by simpa using hj))]
/-- The first k have no error. -/
def Fine (l : List Nd) (d : Int) (k : Nat) : Prop := ∀ j (hj : j < l.length), j < k → wrongN l[j] d = 0
theorem Fine.zero (l : List Nd) (d : Int) : Fine l d 0 := fun _ _ h => absurd h (Nat.not_lt_zero _)
theorem Fine.succ {l : List Nd} {d : Int} {k : Nat} (h : Fine l d k) (hk : k < l.length) (he : wrongN l[k] d = 0) : Fine l d (k + 1) := fun j hj hlt => by
  rcases Nat.lt_succ_iff_lt_or_eq.1 hlt with h' | rfl
  · exact h j hj h'
  · exact he
theorem alone_deep {n : Nd} {d : Int} (h : aloneE n d = 0) : d ≤ 16 := by
  by_cases h16 : 16 < d
  · rw [aloneE, if_pos h16] at h; omega
  · omega

set_option maxHeartbeats 4000000 in
theorem checkNode_any : ∀ (n : Nd) (d : Int) (w : World), n.In w w.heap.size → 1 ≤ d → d ≤ 17 → ∀ E : Int, wrongN n d = E → Calls Try.prog 50 #[n.val, .int .i64 d] w fun e w' => e = .returned (.int .i64 E) ∧ Below w.heap.size w w' := by
  refine Nd.ind ?_
  intro n ih d w hin hd0 hd1 E hE
  obtain ⟨E1, h1⟩ : ∃ E1, aloneE n d = E1 := ⟨_, rfl⟩
  have HE : Hid ((if E1 = 0 then wrongL n.kids (d + 1) else E1) = E) := by rw [← h1, ← wrongN_mk]; exact hE
  have HD := Lib.hid (fun h : E1 = 0 => alone_deep (h1.trans h))
  have HI := Lib.hid hin
  have IH := Lib.hid ih
  have C1 := Lib.hid (fun w h => alone_any n d w h hd0 hd1 E1 h1)
  obtain ⟨hl, hm⟩ := hin.klen
  clear hin ih hE h1
  obtain ⟨nm, pa, pc, ps, ka, kc, ks⟩ := n
  replace hl : ks.length ≤ kc := hl
  replace hm : kc ≤ 9223372036854775807 := hm
  replace HE : Hid ((if E1 = 0 then wrongL ks (d + 1) else E1) = E) := HE
  show Calls _ _ #[.agg #[.string nm, .slice pa ps.length pc, .slice ka ks.length kc], .int .i64 d] _ _
  have HB := Lib.hid ((Below.refl w.heap.size w).alloc (Nat.le_refl _) (.cells #[Value.string nm, .slice pa ps.length pc, .slice ka ks.length kc] 38))
  go_enter Try.func50, Try.ntmps50
  go_wp2_with fail
  refine (C1.out _ (HI.out.on HB.out)).mono ?_
  rintro e w1 ⟨rfl, hb⟩
  have HB1 := Lib.hid (HB.out.trans (hb.mono HB.out.size))
  have b2 := (hb.cell (p := ⟨w.heap.size, 2, none⟩) (by simp)).trans (World.cell?_alloc_new _ _ _ _)
  replace b2 : _ = some (Value.slice ka ks.length kc) := b2
  clear hb
  by_cases h0 : E1 = 0
  · have HF : Hid (wrongL ks (d + 1) = E) := by have := HE.out; rwa [if_pos h0] at this
    have hd16 := HD.out h0
    subst h0
    clear HE HD
    go_wp2_with fail
    go_loopw [18] (fun i wr => ∃ k : Nat, k ≤ ks.length ∧ i = .int .i64 k ∧ Fine ks (d + 1) k ∧ Below w.heap.size w wr) (fun i _ => ks.length - (intOf i).toNat)
    case atStart => exact ⟨0, Nat.zero_le _, rfl, Fine.zero _ _, HB1.out⟩
    case round =>
      clear b2
      obtain ⟨k, hk, rfl, hfine, hb⟩ := hrel
      have HA := Lib.hid hfine
      have HB' := Lib.hid hb
      clear hfine hb
      by_cases hlt : k < ks.length
      · obtain ⟨b, o, e, hb, c0, c1, c2⟩ := (HI.out.under HB'.out).kcell (i := k) hlt
        obtain rfl : ka = _ := e
        replace c0 : _ = some (Value.string ks[k].name) := c0
        replace c1 : _ = some (Value.slice ks[k].pa ks[k].props.length ks[k].pc) := c1
        replace c2 : _ = some (Value.slice ks[k].ka ks[k].kids.length ks[k].kc) := c2
        have HB2 := Lib.hid (HB'.out.alloc HB'.out.size (.cells #[Value.string ks[k].name, .slice ks[k].pa ks[k].props.length ks[k].pc, .slice ks[k].ka ks[k].kids.length ks[k].kc] 38))
        obtain ⟨F, hF⟩ : ∃ F, wrongN ks[k] (d + 1) = F := ⟨_, rfl⟩
        have C := Lib.hid (IH.out ks[k] (List.getElem_mem hlt) (d + 1) _ (((HI.out.kid (List.getElem_mem hlt)).under HB2.out).more HB2.out.size) (by omega) (by omega) F hF)
        have HQ := Lib.hid hF
        clear hF
        go_wp2_with fail
        refine C.out.mono ?_
        rintro e w' ⟨rfl, hb'⟩
        have HB3 := Lib.hid (HB2.out.trans (hb'.mono HB2.out.size))
        clear hb'
        by_cases hF0 : F = 0
        · subst hF0
          go_wp2
          go_roundw
          case rel => exact ⟨k + 1, by omega, by go_num, HA.out.succ hlt HQ.out, HB3.out⟩
          case measure => simp [intOf]; omega
        · have f1 : (F == 0) = false := by rw [beq_eq_false_iff_ne]; exact hF0
          have f2 : (F != 0) = true := by rw [bne, f1]; rfl
          obtain rfl : E = F := by rw [← HF.out, wrongL_hit (d + 1) ks k hlt HA.out (by rw [HQ.out]; exact hF0)]; exact HQ.out
          clear hF0
          go_wp2
          go_ret
          exact ⟨rfl, HB3.out⟩
      · obtain rfl : E = 0 := by rw [← HF.out]; exact wrongL_all (d + 1) ks (fun j hj => HA.out j hj (by omega))
        go_wp2
        go_ret
        exact ⟨rfl, HB'.out⟩
  · have f1 : (E1 == 0) = false := by rw [beq_eq_false_iff_ne]; exact h0
    have f2 : (E1 != 0) = true := by rw [bne, f1]; rfl
    obtain rfl : E = E1 := by rw [← HE.out, if_neg h0]
    clear h0 HE HD
    go_wp2
    go_ret
    exact ⟨rfl, HB1.out⟩
end Go.Proofs.Ytnopcnbeklbfoaa

/-! Layer 3: the document's first error of a node, and of those below it. -/
namespace Go.Proofs.Ytnopcnbeklbfoaa
open Go.RowKit
set_option linter.unusedVariables false
set_option linter.unusedSimpArgs false

theorem mem_take_at {α : Type} {l : List α} {k i : Nat} (hk : k < l.length) (hki : k < i) : l[k] ∈ l.take i :=
  List.mem_iff_getElem.2 ⟨k, by rw [List.length_take]; omega, by rw [List.getElem_take]⟩
theorem not_mem_missed {l : List ByteArray} {s : ByteArray} {i : Nat} (h : Missed l s i) : s ∉ l.take i := fun hm => by
  obtain ⟨k, hk, he⟩ := List.mem_iff_getElem.1 hm
  rw [List.length_take] at hk
  rw [List.getElem_take] at he
  exact h.2 k (by omega) (by omega) he

set_option maxHeartbeats 8000000 in
theorem wrong_any : ∀ (n : Nd) (d : Int) (w : World), n.In w w.heap.size → 1 ≤ d → d ≤ 17 → ∀ E : Int, wrongN n d = E → Calls Try.prog 24 #[n.val, .int .i64 d] w fun e w' => e = .returned (.int .i64 E) ∧ Below w.heap.size w w' := by
  refine Nd.ind ?_
  intro n ih d w hin hd0 hd1 E hE
  obtain ⟨E1, h1⟩ : ∃ E1, aloneE n d = E1 := ⟨_, rfl⟩
  obtain ⟨r1, hr1⟩ : ∃ r, nameOk n d = r := ⟨_, rfl⟩
  have HE : Hid ((if E1 = 0 then wrongL n.kids (d + 1) else E1) = E) := by rw [← h1, ← wrongN_mk]; exact hE
  have HE1 : Hid ((if 16 < d then 6 else if r1 = false then 5 else if n.props.any misP = true then 5 else if twiceB (n.props.map PV.name) = true then 9 else if twiceB (n.kids.map Nd.name) = true then 9 else 0) = E1) := by
    rw [← hr1]; exact h1
  have HV : Hid (∀ v : Int, v ≠ 0 → E1 = v → E = v) := fun v hv h => by rw [← HE.out, if_neg (by rw [h]; exact hv), h]
  have HI := Lib.hid hin
  have IH := Lib.hid ih
  obtain ⟨hl, hm⟩ := hin.klen
  obtain ⟨hlp, hmp⟩ := hin.plen
  have hnz := hin.name_le.1
  clear hin ih hE h1
  obtain ⟨nm, pa, pc, ps, ka, kc, ks⟩ := n
  replace hl : ks.length ≤ kc := hl
  replace hm : kc ≤ 9223372036854775807 := hm
  replace hlp : ps.length ≤ pc := hlp
  replace hmp : pc ≤ 9223372036854775807 := hmp
  replace hnz : nm.size ≤ 140737488351232 := hnz
  replace HE : Hid ((if E1 = 0 then wrongL ks (d + 1) else E1) = E) := HE
  replace HE1 : Hid ((if 16 < d then 6 else if r1 = false then 5 else if ps.any misP = true then 5 else if twiceB (ps.map PV.name) = true then 9 else if twiceB (ks.map Nd.name) = true then 9 else 0) = E1) := HE1
  have HPM := Lib.hid (show (ps.map PV.name).length = ps.length from List.length_map _)
  have HKM := Lib.hid (show (ks.map Nd.name).length = ks.length from List.length_map _)
  show Calls _ _ #[.agg #[.string nm, .slice pa ps.length pc, .slice ka ks.length kc], .int .i64 d] _ _
  have HB1 := Lib.hid ((Below.refl w.heap.size w).alloc (Nat.le_refl _) (.cells #[Value.string nm, .slice pa ps.length pc, .slice ka ks.length kc] 38))
  by_cases h16 : 16 < d
  · obtain rfl : E = 6 := HV.out 6 (by omega) (by rw [← HE1.out, if_pos h16])
    go_enter Try.func24, Try.ntmps24
    go_wp2
    go_ret
    exact ⟨rfl, HB1.out⟩
  · have F16 := Lib.hid h16
    have hd16 : ¬ (16 < d) := h16
    clear h16
    have BX : Hid (∀ W : World, Below (w.heap.size + 1) (w.alloc (.cells #[Value.string nm, .slice pa ps.length pc, .slice ka ks.length kc] 38)) W → W.cell? ⟨w.heap.size, 0, none⟩ = some (.string nm) ∧ W.cell? ⟨w.heap.size, 1, none⟩ = some (.slice pa ps.length pc) ∧ W.cell? ⟨w.heap.size, 2, none⟩ = some (.slice ka ks.length kc)) := fun W h =>
      ⟨(h.cell (Nat.lt_succ_self _)).trans (World.cell?_alloc_new _ _ _ _), (h.cell (Nat.lt_succ_self _)).trans (World.cell?_alloc_new _ _ _ _), (h.cell (Nat.lt_succ_self _)).trans (World.cell?_alloc_new _ _ _ _)⟩
    by_cases hd : d = 1
    · subst hd
      have hr1' : nm.toList.isEmpty = r1 := by rw [← hr1, nameOk, if_pos rfl]; rfl
      clear hr1
      cases r1
      · obtain rfl : E = 5 := HV.out 5 (by omega) (by rw [← HE1.out, if_neg (by have := F16.out; omega), if_pos rfl])
        go_enter Try.func24, Try.ntmps24
        go_wp2
        go_ret
        exact ⟨rfl, HB1.out⟩
      · go_enter Try.func24, Try.ntmps24
        go_wp2_with fail
        clear hr1'
        go_loopw [34] (fun i wr => ∃ k : Nat, k ≤ ps.length ∧ i = .int .i64 k ∧ Good misP ps k ∧ Below (w.heap.size + 1) (w.alloc (.cells #[Value.string nm, .slice pa ps.length pc, .slice ka ks.length kc] 38)) wr) (fun i _ => ps.length - (intOf i).toNat)
        case atStart => exact ⟨0, Nat.zero_le _, rfl, Good.zero _ _, Below.refl _ _⟩
        case round =>
          obtain ⟨k, hk, rfl, hgood, hb⟩ := hrel
          have HA := Lib.hid hgood
          have HB0 := Lib.hid hb
          have HB := Lib.hid (HB1.out.trans (hb.mono (Nat.le_succ _)))
          obtain ⟨bx0, bx1, bx2⟩ := BX.out _ hb
          clear hgood hb
          by_cases hlt : k < ps.length
          · obtain ⟨b, o, e, hb, c0, c1⟩ := (HI.out.under HB.out).pcell (i := k) hlt
            obtain rfl : pa = _ := e
            replace c0 : _ = some (Value.string ps[k].name) := c0
            clear c1
            obtain ⟨q, hq⟩ : ∃ q, propB ps[k].name = q := ⟨_, rfl⟩
            have C := Lib.hid (refpropB_any ps[k].name wr (HI.out.prop (List.getElem_mem hlt)).1.1 q hq)
            have HQ : Hid (misP ps[k] = !q) := by show misP _ = _; rw [misP, hq]
            clear hq
            cases q
            · obtain rfl : E = 5 := HV.out 5 (by omega) (by rw [← HE1.out, if_neg (by have := F16.out; omega), if_neg (by simp), if_pos (any_at hlt HQ.out)])
              go_wp2_with fail
              refine C.out.mono ?_
              rintro e w' ⟨rfl, rfl⟩
              go_wp2
              go_ret
              exact ⟨rfl, HB.out⟩
            · go_wp2_with fail
              refine C.out.mono ?_
              rintro e w' ⟨rfl, rfl⟩
              go_wp2
              go_roundw
              case rel => exact ⟨k + 1, by omega, by go_num, HA.out.succ hlt HQ.out, HB0.out⟩
              case measure => simp [intOf]; omega
          · have FP : Hid (ps.any misP = false) := HA.out.all hlt
            go_wp2_with fail
            go_loopw [49] (fun i wr => ∃ k : Nat, k ≤ ps.length ∧ i = .int .i64 k ∧ ((ps.map PV.name).take k).Nodup ∧ Below (w.heap.size + 1) (w.alloc (.cells #[Value.string nm, .slice pa ps.length pc, .slice ka ks.length kc] 38)) wr) (fun i _ => ps.length - (intOf i).toNat)
            case atStart => exact ⟨0, Nat.zero_le _, rfl, nodup_zero _, HB0.out⟩
            case round =>
              clear bx0 bx1 bx2 HB0
              obtain ⟨i, hi, rfl, hnd, hb⟩ := hrel
              have HN := Lib.hid hnd
              have HB0 := Lib.hid hb
              obtain ⟨bx0, bx1, bx2⟩ := BX.out _ hb
              clear hnd hb
              by_cases hlt : i < ps.length
              · go_wp2_with fail
                go_loopw [53] (fun j wr => ∃ k : Nat, k ≤ i ∧ j = .int .i64 k ∧ Missed (ps.map PV.name) ps[i].name k ∧ Below (w.heap.size + 1) (w.alloc (.cells #[Value.string nm, .slice pa ps.length pc, .slice ka ks.length kc] 38)) wr) (fun j _ => i - (intOf j).toNat)
                case atStart => exact ⟨0, Nat.zero_le _, rfl, Missed.zero _ _, HB0.out⟩
                case round =>
                  clear bx0 bx1 bx2 HB0
                  obtain ⟨k, hk, rfl, hmiss, hb⟩ := hrel
                  have HA := Lib.hid hmiss
                  have HB0 := Lib.hid hb
                  have HB := Lib.hid (HB1.out.trans (hb.mono (Nat.le_succ _)))
                  obtain ⟨bx0, bx1, bx2⟩ := BX.out _ hb
                  clear hmiss hb
                  by_cases hlt' : k < i
                  · have hkl : k < ps.length := by omega
                    have HKN : Hid ((ps.map PV.name)[k]'(by rw [HPM.out]; exact hkl) = ps[k].name) := List.getElem_map _
                    have HIN : Hid ((ps.map PV.name)[i]'(by rw [HPM.out]; exact hlt) = ps[i].name) := List.getElem_map _
                    obtain ⟨b, o, e, hb, c0, cc⟩ := (HI.out.under HB.out).pcell (i := k) hkl
                    obtain ⟨b', o', e', hb', d0, dd⟩ := (HI.out.under HB.out).pcell (i := i) hlt
                    replace e : pa = _ := e
                    replace e' : pa = _ := e'
                    obtain ⟨rfl, rfl⟩ : b' = b ∧ o' = o := by have := e'.symm.trans e; simpa using this
                    subst e
                    replace c0 : _ = some (Value.string ps[k].name) := c0
                    replace d0 : _ = some (Value.string ps[i].name) := d0
                    clear cc dd e'
                    by_cases hx : ps[k].name = ps[i].name
                    · have hx1 : (ps[k].name.toList == ps[i].name.toList) = true := by rw [hx]; simp
                      have HT : Hid (twiceB (ps.map PV.name) = true) := twice_hit (k := i) (by rw [HPM.out]; exact hlt) (by rw [HIN.out, ← hx, ← HKN.out]; exact mem_take_at (by rw [HPM.out]; exact hkl) hlt')
                      obtain rfl : E = 9 := HV.out 9 (by omega) (by rw [← HE1.out, if_neg (by have := F16.out; omega), if_neg (by simp), if_neg (by rw [FP.out]; simp), if_pos HT.out])
                      clear hx
                      go_wp2_with fail
                      go_region
                      go_wp2
                      go_ret
                      exact ⟨rfl, HB.out.drew⟩
                    · have hx1 : (ps[k].name.toList == ps[i].name.toList) = false := str_ne hx
                      have HF := Lib.hid (HA.out.succ (by rw [HPM.out]; exact hkl) (by rw [HKN.out]; exact hx))
                      clear hx
                      go_wp2_with fail
                      go_region
                      go_wp2
                      go_roundw
                      case rel => exact ⟨k + 1, by omega, by go_num, HF.out, HB0.out.drew⟩
                      case measure => simp [intOf]; omega
                  · have HIN : Hid ((ps.map PV.name)[i]'(by rw [HPM.out]; exact hlt) = ps[i].name) := List.getElem_map _
                    have hki : k = i := by omega
                    have HNX : Hid (((ps.map PV.name).take (i + 1)).Nodup) := nodup_succ HN.out (by rw [HPM.out]; exact hlt) (by rw [HIN.out]; exact not_mem_missed (hki ▸ HA.out))
                    clear hki
                    go_wp2
                    go_roundw
                    case rel => exact ⟨i + 1, by omega, by go_num, HNX.out, HB0.out⟩
                    case measure => simp [intOf]; omega
              · have FTp : Hid (twiceB (ps.map PV.name) = false) := twice_all HN.out (by rw [HPM.out]; exact hlt)
                have HB := Lib.hid (HB1.out.trans (HB0.out.mono (Nat.le_succ _)))
                go_wp2_with fail
                go_loopw [74] (fun i wr => ∃ k : Nat, k ≤ ks.length ∧ i = .int .i64 k ∧ ((ks.map Nd.name).take k).Nodup ∧ Below (w.heap.size + 1) (w.alloc (.cells #[Value.string nm, .slice pa ps.length pc, .slice ka ks.length kc] 38)) wr) (fun i _ => ks.length - (intOf i).toNat)
                case atStart => exact ⟨0, Nat.zero_le _, rfl, nodup_zero _, HB0.out⟩
                case round =>
                  clear bx0 bx1 bx2 HB0
                  obtain ⟨i, hi, rfl, hnd, hb⟩ := hrel
                  have HN := Lib.hid hnd
                  have HB0 := Lib.hid hb
                  obtain ⟨bx0, bx1, bx2⟩ := BX.out _ hb
                  clear hnd hb
                  by_cases hlt : i < ks.length
                  · go_wp2_with fail
                    go_loopw [78] (fun j wr => ∃ k : Nat, k ≤ i ∧ j = .int .i64 k ∧ Missed (ks.map Nd.name) ks[i].name k ∧ Below (w.heap.size + 1) (w.alloc (.cells #[Value.string nm, .slice pa ps.length pc, .slice ka ks.length kc] 38)) wr) (fun j _ => i - (intOf j).toNat)
                    case atStart => exact ⟨0, Nat.zero_le _, rfl, Missed.zero _ _, HB0.out⟩
                    case round =>
                      clear bx0 bx1 bx2 HB0
                      obtain ⟨k, hk, rfl, hmiss, hb⟩ := hrel
                      have HA := Lib.hid hmiss
                      have HB0 := Lib.hid hb
                      have HB := Lib.hid (HB1.out.trans (hb.mono (Nat.le_succ _)))
                      obtain ⟨bx0, bx1, bx2⟩ := BX.out _ hb
                      clear hmiss hb
                      by_cases hlt' : k < i
                      · have hkl : k < ks.length := by omega
                        have HKN : Hid ((ks.map Nd.name)[k]'(by rw [HKM.out]; exact hkl) = ks[k].name) := List.getElem_map _
                        have HIN : Hid ((ks.map Nd.name)[i]'(by rw [HKM.out]; exact hlt) = ks[i].name) := List.getElem_map _
                        obtain ⟨b, o, e, hb, c0, cc⟩ := (HI.out.under HB.out).kcell (i := k) hkl
                        obtain ⟨b', o', e', hb', d0, dd⟩ := (HI.out.under HB.out).kcell (i := i) hlt
                        replace e : ka = _ := e
                        replace e' : ka = _ := e'
                        obtain ⟨rfl, rfl⟩ : b' = b ∧ o' = o := by have := e'.symm.trans e; simpa using this
                        subst e
                        replace c0 : _ = some (Value.string ks[k].name) := c0
                        replace d0 : _ = some (Value.string ks[i].name) := d0
                        clear cc dd e'
                        by_cases hx : ks[k].name = ks[i].name
                        · have hx1 : (ks[k].name.toList == ks[i].name.toList) = true := by rw [hx]; simp
                          have HT : Hid (twiceB (ks.map Nd.name) = true) := twice_hit (k := i) (by rw [HKM.out]; exact hlt) (by rw [HIN.out, ← hx, ← HKN.out]; exact mem_take_at (by rw [HKM.out]; exact hkl) hlt')
                          obtain rfl : E = 9 := HV.out 9 (by omega) (by rw [← HE1.out, if_neg (by have := F16.out; omega), if_neg (by simp), if_neg (by rw [FP.out]; simp), if_neg (by rw [FTp.out]; simp), if_pos HT.out])
                          clear hx
                          go_wp2_with fail
                          go_region
                          go_wp2
                          go_ret
                          exact ⟨rfl, HB.out.drew⟩
                        · have hx1 : (ks[k].name.toList == ks[i].name.toList) = false := str_ne hx
                          have HF := Lib.hid (HA.out.succ (by rw [HKM.out]; exact hkl) (by rw [HKN.out]; exact hx))
                          clear hx
                          go_wp2_with fail
                          go_region
                          go_wp2
                          go_roundw
                          case rel => exact ⟨k + 1, by omega, by go_num, HF.out, HB0.out.drew⟩
                          case measure => simp [intOf]; omega
                      · have HIN : Hid ((ks.map Nd.name)[i]'(by rw [HKM.out]; exact hlt) = ks[i].name) := List.getElem_map _
                        have hki : k = i := by omega
                        have HNX : Hid (((ks.map Nd.name).take (i + 1)).Nodup) := nodup_succ HN.out (by rw [HKM.out]; exact hlt) (by rw [HIN.out]; exact not_mem_missed (hki ▸ HA.out))
                        clear hki
                        go_wp2
                        go_roundw
                        case rel => exact ⟨i + 1, by omega, by go_num, HNX.out, HB0.out⟩
                        case measure => simp [intOf]; omega
                  · have FTk : Hid (twiceB (ks.map Nd.name) = false) := twice_all HN.out (by rw [HKM.out]; exact hlt)
                    have HB := Lib.hid (HB1.out.trans (HB0.out.mono (Nat.le_succ _)))
                    go_wp2_with fail
                    have HF : Hid (wrongL ks 2 = E) := by
                      have h0 : E1 = 0 := by rw [← HE1.out, if_neg (by have := F16.out; omega), if_neg (by simp), if_neg (by rw [FP.out]; simp), if_neg (by rw [FTp.out]; simp), if_neg (by rw [FTk.out]; simp)]
                      have := HE.out
                      rwa [if_pos h0] at this
                    go_loopw [99] (fun i wr => ∃ k : Nat, k ≤ ks.length ∧ i = .int .i64 k ∧ Fine ks 2 k ∧ Below (w.heap.size + 1) (w.alloc (.cells #[Value.string nm, .slice pa ps.length pc, .slice ka ks.length kc] 38)) wr) (fun i _ => ks.length - (intOf i).toNat)
                    case atStart => exact ⟨0, Nat.zero_le _, rfl, Fine.zero _ _, HB0.out⟩
                    case round =>
                      clear bx0 bx1 bx2 HB0 HB
                      obtain ⟨k, hk, rfl, hfine, hb⟩ := hrel
                      have HA := Lib.hid hfine
                      have HB0 := Lib.hid hb
                      have HB := Lib.hid (HB1.out.trans (hb.mono (Nat.le_succ _)))
                      obtain ⟨bx0, bx1, bx2⟩ := BX.out _ hb
                      clear hfine hb
                      by_cases hlt : k < ks.length
                      · obtain ⟨b, o, e, hb, c0, c1, c2⟩ := (HI.out.under HB.out).kcell (i := k) hlt
                        obtain rfl : ka = _ := e
                        replace c0 : _ = some (Value.string ks[k].name) := c0
                        replace c1 : _ = some (Value.slice ks[k].pa ks[k].props.length ks[k].pc) := c1
                        replace c2 : _ = some (Value.slice ks[k].ka ks[k].kids.length ks[k].kc) := c2
                        obtain ⟨F, hF⟩ : ∃ F, wrongN ks[k] 2 = F := ⟨_, rfl⟩
                        have C := Lib.hid (IH.out ks[k] (List.getElem_mem hlt) 2 _ (((HI.out.kid (List.getElem_mem hlt)).under HB.out).more HB.out.size) (by omega) (by omega) F hF)
                        have HQ := Lib.hid hF
                        clear hF
                        go_wp2_with fail
                        refine C.out.mono ?_
                        rintro e w' ⟨rfl, hb'⟩
                        have HB3 := Lib.hid (HB0.out.trans (hb'.mono (by have := HB0.out.size; simpa using this)))
                        have HB4 := Lib.hid (HB.out.trans (hb'.mono HB.out.size))
                        clear hb'
                        by_cases hF0 : F = 0
                        · subst hF0
                          go_wp2
                          go_roundw
                          case rel => exact ⟨k + 1, by omega, by go_num, HA.out.succ hlt HQ.out, HB3.out⟩
                          case measure => simp [intOf]; omega
                        · have f1 : (F == 0) = false := by rw [beq_eq_false_iff_ne]; exact hF0
                          have f2 : (F != 0) = true := by rw [bne, f1]; rfl
                          obtain rfl : E = F := by rw [← HF.out, wrongL_hit 2 ks k hlt HA.out (by rw [HQ.out]; exact hF0)]; exact HQ.out
                          clear hF0
                          go_wp2
                          go_ret
                          exact ⟨rfl, HB4.out⟩
                      · obtain rfl : E = 0 := by rw [← HF.out]; exact wrongL_all 2 ks (fun j hj => HA.out j hj (by omega))
                        go_wp2
                        go_ret
                        exact ⟨rfl, HB.out⟩
    · have hd2 : (d == 1) = false := by rw [beq_eq_false_iff_ne]; exact hd
      have hd3 : 1 < d := by omega
      have CN := Lib.hid (fun w => refnodeB_any nm w hnz r1 (by rw [← hr1, nameOk, if_neg hd]; rfl))
      clear hr1 hd
      cases r1
      · obtain rfl : E = 5 := HV.out 5 (by omega) (by rw [← HE1.out, if_neg (by have := F16.out; omega), if_pos rfl])
        go_enter Try.func24, Try.ntmps24
        go_wp2_with fail
        refine (CN.out _).mono ?_
        rintro e w' ⟨rfl, rfl⟩
        go_wp2
        go_ret
        exact ⟨rfl, HB1.out⟩
      · go_enter Try.func24, Try.ntmps24
        go_wp2_with fail
        refine (CN.out _).mono ?_
        rintro e w' ⟨rfl, rfl⟩
        go_wp2_with fail
        go_loopw [34] (fun i wr => ∃ k : Nat, k ≤ ps.length ∧ i = .int .i64 k ∧ Good misP ps k ∧ Below (w.heap.size + 1) (w.alloc (.cells #[Value.string nm, .slice pa ps.length pc, .slice ka ks.length kc] 38)) wr) (fun i _ => ps.length - (intOf i).toNat)
        case atStart => exact ⟨0, Nat.zero_le _, rfl, Good.zero _ _, Below.refl _ _⟩
        case round =>
          obtain ⟨k, hk, rfl, hgood, hb⟩ := hrel
          have HA := Lib.hid hgood
          have HB0 := Lib.hid hb
          have HB := Lib.hid (HB1.out.trans (hb.mono (Nat.le_succ _)))
          obtain ⟨bx0, bx1, bx2⟩ := BX.out _ hb
          clear hgood hb
          by_cases hlt : k < ps.length
          · obtain ⟨b, o, e, hb, c0, c1⟩ := (HI.out.under HB.out).pcell (i := k) hlt
            obtain rfl : pa = _ := e
            replace c0 : _ = some (Value.string ps[k].name) := c0
            clear c1
            obtain ⟨q, hq⟩ : ∃ q, propB ps[k].name = q := ⟨_, rfl⟩
            have C := Lib.hid (refpropB_any ps[k].name wr (HI.out.prop (List.getElem_mem hlt)).1.1 q hq)
            have HQ : Hid (misP ps[k] = !q) := by show misP _ = _; rw [misP, hq]
            clear hq
            cases q
            · obtain rfl : E = 5 := HV.out 5 (by omega) (by rw [← HE1.out, if_neg (by have := F16.out; omega), if_neg (by simp), if_pos (any_at hlt HQ.out)])
              go_wp2_with fail
              refine C.out.mono ?_
              rintro e w' ⟨rfl, rfl⟩
              go_wp2
              go_ret
              exact ⟨rfl, HB.out⟩
            · go_wp2_with fail
              refine C.out.mono ?_
              rintro e w' ⟨rfl, rfl⟩
              go_wp2
              go_roundw
              case rel => exact ⟨k + 1, by omega, by go_num, HA.out.succ hlt HQ.out, HB0.out⟩
              case measure => simp [intOf]; omega
          · have FP : Hid (ps.any misP = false) := HA.out.all hlt
            go_wp2_with fail
            go_loopw [49] (fun i wr => ∃ k : Nat, k ≤ ps.length ∧ i = .int .i64 k ∧ ((ps.map PV.name).take k).Nodup ∧ Below (w.heap.size + 1) (w.alloc (.cells #[Value.string nm, .slice pa ps.length pc, .slice ka ks.length kc] 38)) wr) (fun i _ => ps.length - (intOf i).toNat)
            case atStart => exact ⟨0, Nat.zero_le _, rfl, nodup_zero _, HB0.out⟩
            case round =>
              clear bx0 bx1 bx2 HB0
              obtain ⟨i, hi, rfl, hnd, hb⟩ := hrel
              have HN := Lib.hid hnd
              have HB0 := Lib.hid hb
              obtain ⟨bx0, bx1, bx2⟩ := BX.out _ hb
              clear hnd hb
              by_cases hlt : i < ps.length
              · go_wp2_with fail
                go_loopw [53] (fun j wr => ∃ k : Nat, k ≤ i ∧ j = .int .i64 k ∧ Missed (ps.map PV.name) ps[i].name k ∧ Below (w.heap.size + 1) (w.alloc (.cells #[Value.string nm, .slice pa ps.length pc, .slice ka ks.length kc] 38)) wr) (fun j _ => i - (intOf j).toNat)
                case atStart => exact ⟨0, Nat.zero_le _, rfl, Missed.zero _ _, HB0.out⟩
                case round =>
                  clear bx0 bx1 bx2 HB0
                  obtain ⟨k, hk, rfl, hmiss, hb⟩ := hrel
                  have HA := Lib.hid hmiss
                  have HB0 := Lib.hid hb
                  have HB := Lib.hid (HB1.out.trans (hb.mono (Nat.le_succ _)))
                  obtain ⟨bx0, bx1, bx2⟩ := BX.out _ hb
                  clear hmiss hb
                  by_cases hlt' : k < i
                  · have hkl : k < ps.length := by omega
                    have HKN : Hid ((ps.map PV.name)[k]'(by rw [HPM.out]; exact hkl) = ps[k].name) := List.getElem_map _
                    have HIN : Hid ((ps.map PV.name)[i]'(by rw [HPM.out]; exact hlt) = ps[i].name) := List.getElem_map _
                    obtain ⟨b, o, e, hb, c0, cc⟩ := (HI.out.under HB.out).pcell (i := k) hkl
                    obtain ⟨b', o', e', hb', d0, dd⟩ := (HI.out.under HB.out).pcell (i := i) hlt
                    replace e : pa = _ := e
                    replace e' : pa = _ := e'
                    obtain ⟨rfl, rfl⟩ : b' = b ∧ o' = o := by have := e'.symm.trans e; simpa using this
                    subst e
                    replace c0 : _ = some (Value.string ps[k].name) := c0
                    replace d0 : _ = some (Value.string ps[i].name) := d0
                    clear cc dd e'
                    by_cases hx : ps[k].name = ps[i].name
                    · have hx1 : (ps[k].name.toList == ps[i].name.toList) = true := by rw [hx]; simp
                      have HT : Hid (twiceB (ps.map PV.name) = true) := twice_hit (k := i) (by rw [HPM.out]; exact hlt) (by rw [HIN.out, ← hx, ← HKN.out]; exact mem_take_at (by rw [HPM.out]; exact hkl) hlt')
                      obtain rfl : E = 9 := HV.out 9 (by omega) (by rw [← HE1.out, if_neg (by have := F16.out; omega), if_neg (by simp), if_neg (by rw [FP.out]; simp), if_pos HT.out])
                      clear hx
                      go_wp2_with fail
                      go_region
                      go_wp2
                      go_ret
                      exact ⟨rfl, HB.out.drew⟩
                    · have hx1 : (ps[k].name.toList == ps[i].name.toList) = false := str_ne hx
                      have HF := Lib.hid (HA.out.succ (by rw [HPM.out]; exact hkl) (by rw [HKN.out]; exact hx))
                      clear hx
                      go_wp2_with fail
                      go_region
                      go_wp2
                      go_roundw
                      case rel => exact ⟨k + 1, by omega, by go_num, HF.out, HB0.out.drew⟩
                      case measure => simp [intOf]; omega
                  · have HIN : Hid ((ps.map PV.name)[i]'(by rw [HPM.out]; exact hlt) = ps[i].name) := List.getElem_map _
                    have hki : k = i := by omega
                    have HNX : Hid (((ps.map PV.name).take (i + 1)).Nodup) := nodup_succ HN.out (by rw [HPM.out]; exact hlt) (by rw [HIN.out]; exact not_mem_missed (hki ▸ HA.out))
                    clear hki
                    go_wp2
                    go_roundw
                    case rel => exact ⟨i + 1, by omega, by go_num, HNX.out, HB0.out⟩
                    case measure => simp [intOf]; omega
              · have FTp : Hid (twiceB (ps.map PV.name) = false) := twice_all HN.out (by rw [HPM.out]; exact hlt)
                have HB := Lib.hid (HB1.out.trans (HB0.out.mono (Nat.le_succ _)))
                go_wp2_with fail
                go_loopw [74] (fun i wr => ∃ k : Nat, k ≤ ks.length ∧ i = .int .i64 k ∧ ((ks.map Nd.name).take k).Nodup ∧ Below (w.heap.size + 1) (w.alloc (.cells #[Value.string nm, .slice pa ps.length pc, .slice ka ks.length kc] 38)) wr) (fun i _ => ks.length - (intOf i).toNat)
                case atStart => exact ⟨0, Nat.zero_le _, rfl, nodup_zero _, HB0.out⟩
                case round =>
                  clear bx0 bx1 bx2 HB0
                  obtain ⟨i, hi, rfl, hnd, hb⟩ := hrel
                  have HN := Lib.hid hnd
                  have HB0 := Lib.hid hb
                  obtain ⟨bx0, bx1, bx2⟩ := BX.out _ hb
                  clear hnd hb
                  by_cases hlt : i < ks.length
                  · go_wp2_with fail
                    go_loopw [78] (fun j wr => ∃ k : Nat, k ≤ i ∧ j = .int .i64 k ∧ Missed (ks.map Nd.name) ks[i].name k ∧ Below (w.heap.size + 1) (w.alloc (.cells #[Value.string nm, .slice pa ps.length pc, .slice ka ks.length kc] 38)) wr) (fun j _ => i - (intOf j).toNat)
                    case atStart => exact ⟨0, Nat.zero_le _, rfl, Missed.zero _ _, HB0.out⟩
                    case round =>
                      clear bx0 bx1 bx2 HB0
                      obtain ⟨k, hk, rfl, hmiss, hb⟩ := hrel
                      have HA := Lib.hid hmiss
                      have HB0 := Lib.hid hb
                      have HB := Lib.hid (HB1.out.trans (hb.mono (Nat.le_succ _)))
                      obtain ⟨bx0, bx1, bx2⟩ := BX.out _ hb
                      clear hmiss hb
                      by_cases hlt' : k < i
                      · have hkl : k < ks.length := by omega
                        have HKN : Hid ((ks.map Nd.name)[k]'(by rw [HKM.out]; exact hkl) = ks[k].name) := List.getElem_map _
                        have HIN : Hid ((ks.map Nd.name)[i]'(by rw [HKM.out]; exact hlt) = ks[i].name) := List.getElem_map _
                        obtain ⟨b, o, e, hb, c0, cc⟩ := (HI.out.under HB.out).kcell (i := k) hkl
                        obtain ⟨b', o', e', hb', d0, dd⟩ := (HI.out.under HB.out).kcell (i := i) hlt
                        replace e : ka = _ := e
                        replace e' : ka = _ := e'
                        obtain ⟨rfl, rfl⟩ : b' = b ∧ o' = o := by have := e'.symm.trans e; simpa using this
                        subst e
                        replace c0 : _ = some (Value.string ks[k].name) := c0
                        replace d0 : _ = some (Value.string ks[i].name) := d0
                        clear cc dd e'
                        by_cases hx : ks[k].name = ks[i].name
                        · have hx1 : (ks[k].name.toList == ks[i].name.toList) = true := by rw [hx]; simp
                          have HT : Hid (twiceB (ks.map Nd.name) = true) := twice_hit (k := i) (by rw [HKM.out]; exact hlt) (by rw [HIN.out, ← hx, ← HKN.out]; exact mem_take_at (by rw [HKM.out]; exact hkl) hlt')
                          obtain rfl : E = 9 := HV.out 9 (by omega) (by rw [← HE1.out, if_neg (by have := F16.out; omega), if_neg (by simp), if_neg (by rw [FP.out]; simp), if_neg (by rw [FTp.out]; simp), if_pos HT.out])
                          clear hx
                          go_wp2_with fail
                          go_region
                          go_wp2
                          go_ret
                          exact ⟨rfl, HB.out.drew⟩
                        · have hx1 : (ks[k].name.toList == ks[i].name.toList) = false := str_ne hx
                          have HF := Lib.hid (HA.out.succ (by rw [HKM.out]; exact hkl) (by rw [HKN.out]; exact hx))
                          clear hx
                          go_wp2_with fail
                          go_region
                          go_wp2
                          go_roundw
                          case rel => exact ⟨k + 1, by omega, by go_num, HF.out, HB0.out.drew⟩
                          case measure => simp [intOf]; omega
                      · have HIN : Hid ((ks.map Nd.name)[i]'(by rw [HKM.out]; exact hlt) = ks[i].name) := List.getElem_map _
                        have hki : k = i := by omega
                        have HNX : Hid (((ks.map Nd.name).take (i + 1)).Nodup) := nodup_succ HN.out (by rw [HKM.out]; exact hlt) (by rw [HIN.out]; exact not_mem_missed (hki ▸ HA.out))
                        clear hki
                        go_wp2
                        go_roundw
                        case rel => exact ⟨i + 1, by omega, by go_num, HNX.out, HB0.out⟩
                        case measure => simp [intOf]; omega
                  · have FTk : Hid (twiceB (ks.map Nd.name) = false) := twice_all HN.out (by rw [HKM.out]; exact hlt)
                    have HB := Lib.hid (HB1.out.trans (HB0.out.mono (Nat.le_succ _)))
                    go_wp2_with fail
                    have HF : Hid (wrongL ks (d + 1) = E) := by
                      have h0 : E1 = 0 := by rw [← HE1.out, if_neg (by have := F16.out; omega), if_neg (by simp), if_neg (by rw [FP.out]; simp), if_neg (by rw [FTp.out]; simp), if_neg (by rw [FTk.out]; simp)]
                      have := HE.out
                      rwa [if_pos h0] at this
                    go_loopw [99] (fun i wr => ∃ k : Nat, k ≤ ks.length ∧ i = .int .i64 k ∧ Fine ks (d + 1) k ∧ Below (w.heap.size + 1) (w.alloc (.cells #[Value.string nm, .slice pa ps.length pc, .slice ka ks.length kc] 38)) wr) (fun i _ => ks.length - (intOf i).toNat)
                    case atStart => exact ⟨0, Nat.zero_le _, rfl, Fine.zero _ _, HB0.out⟩
                    case round =>
                      clear bx0 bx1 bx2 HB0 HB
                      obtain ⟨k, hk, rfl, hfine, hb⟩ := hrel
                      have HA := Lib.hid hfine
                      have HB0 := Lib.hid hb
                      have HB := Lib.hid (HB1.out.trans (hb.mono (Nat.le_succ _)))
                      obtain ⟨bx0, bx1, bx2⟩ := BX.out _ hb
                      clear hfine hb
                      by_cases hlt : k < ks.length
                      · obtain ⟨b, o, e, hb, c0, c1, c2⟩ := (HI.out.under HB.out).kcell (i := k) hlt
                        obtain rfl : ka = _ := e
                        replace c0 : _ = some (Value.string ks[k].name) := c0
                        replace c1 : _ = some (Value.slice ks[k].pa ks[k].props.length ks[k].pc) := c1
                        replace c2 : _ = some (Value.slice ks[k].ka ks[k].kids.length ks[k].kc) := c2
                        obtain ⟨F, hF⟩ : ∃ F, wrongN ks[k] (d + 1) = F := ⟨_, rfl⟩
                        have C := Lib.hid (IH.out ks[k] (List.getElem_mem hlt) (d + 1) _ (((HI.out.kid (List.getElem_mem hlt)).under HB.out).more HB.out.size) (by omega) (by omega) F hF)
                        have HQ := Lib.hid hF
                        clear hF
                        go_wp2_with fail
                        refine C.out.mono ?_
                        rintro e w' ⟨rfl, hb'⟩
                        have HB3 := Lib.hid (HB0.out.trans (hb'.mono (by have := HB0.out.size; simpa using this)))
                        have HB4 := Lib.hid (HB.out.trans (hb'.mono HB.out.size))
                        clear hb'
                        by_cases hF0 : F = 0
                        · subst hF0
                          go_wp2
                          go_roundw
                          case rel => exact ⟨k + 1, by omega, by go_num, HA.out.succ hlt HQ.out, HB3.out⟩
                          case measure => simp [intOf]; omega
                        · have f1 : (F == 0) = false := by rw [beq_eq_false_iff_ne]; exact hF0
                          have f2 : (F != 0) = true := by rw [bne, f1]; rfl
                          obtain rfl : E = F := by rw [← HF.out, wrongL_hit (d + 1) ks k hlt HA.out (by rw [HQ.out]; exact hF0)]; exact HQ.out
                          clear hF0
                          go_wp2
                          go_ret
                          exact ⟨rfl, HB4.out⟩
                      · obtain rfl : E = 0 := by rw [← HF.out]; exact wrongL_all (d + 1) ks (fun j hj => HA.out j hj (by omega))
                        go_wp2
                        go_ret
                        exact ⟨rfl, HB.out⟩
end Go.Proofs.Ytnopcnbeklbfoaa

/-! Layer 3: the first error of a tree, the program's and the document's. -/
namespace Go.Proofs.Ytnopcnbeklbfoaa
open Go.RowKit
set_option linter.unusedVariables false
set_option linter.unusedSimpArgs false
attribute [local go_sem ↓] Go.wp_at_zero Go.wp_at_succ

/-- The first error of a tree. -/
noncomputable def checkE (t : Tr) : Int := if wrongN t.root 1 = 0 then manyE t else wrongN t.root 1

set_option maxHeartbeats 4000000 in
theorem check_any (t : Tr) (w : World) (hin : t.In w w.heap.size) (E : Int) (hE : checkE t = E) :
    Calls Try.prog 32 #[t.val] w fun e w' => e = .returned (.int .i64 E) ∧ Below w.heap.size w w' := by
  obtain ⟨F, hF⟩ : ∃ F, wrongN t.root 1 = F := ⟨_, rfl⟩
  obtain ⟨M, hM⟩ : ∃ M, manyE t = M := ⟨_, rfl⟩
  have HE : Hid ((if F = 0 then M else F) = E) := by rw [← hF, ← hM]; exact hE
  have C1 := Lib.hid (fun w h => checkNode_any t.root 1 w h (by omega) (by omega) F hF)
  have C2 := Lib.hid (fun w h => many_any t w h M hM)
  have HI := Lib.hid hin
  clear hE hF hM hin
  obtain ⟨boot, ra, rc, rs, ⟨nm, pa, pc, ps, ka, kc, ks⟩⟩ := t
  show Calls _ _ #[.agg #[.int .u32 boot, .slice ra rs.length rc, .string nm, .slice pa ps.length pc, .slice ka ks.length kc]] _ _
  have HB := Lib.hid ((Below.refl w.heap.size w).alloc (Nat.le_refl _) (.cells #[.int .u32 boot, .slice ra rs.length rc, .string nm, .slice pa ps.length pc, .slice ka ks.length kc] 40))
  go_enter Try.func32, Try.ntmps32
  go_wp2_with fail
  refine (C1.out _ ((HI.out.on HB.out).root)).mono ?_
  rintro e w1 ⟨rfl, hb⟩
  have HB1 := Lib.hid (HB.out.trans (hb.mono HB.out.size))
  have b0 := (hb.cell (p := ⟨w.heap.size, 0, none⟩) (by simp)).trans (World.cell?_alloc_new _ _ _ _)
  have b1 := (hb.cell (p := ⟨w.heap.size, 1, none⟩) (by simp)).trans (World.cell?_alloc_new _ _ _ _)
  have b2 := (hb.cell (p := ⟨w.heap.size, 2, none⟩) (by simp)).trans (World.cell?_alloc_new _ _ _ _)
  have b3 := (hb.cell (p := ⟨w.heap.size, 3, none⟩) (by simp)).trans (World.cell?_alloc_new _ _ _ _)
  have b4 := (hb.cell (p := ⟨w.heap.size, 4, none⟩) (by simp)).trans (World.cell?_alloc_new _ _ _ _)
  replace b0 : _ = some (Value.int .u32 boot) := b0
  replace b1 : _ = some (Value.slice ra rs.length rc) := b1
  replace b2 : _ = some (Value.string nm) := b2
  replace b3 : _ = some (Value.slice pa ps.length pc) := b3
  replace b4 : _ = some (Value.slice ka ks.length kc) := b4
  clear hb
  by_cases h0 : F = 0
  · obtain rfl : E = M := by rw [← HE.out, if_pos h0]
    subst h0
    go_wp2_with fail
    refine (C2.out _ (HI.out.on HB1.out)).mono ?_
    rintro e w2 ⟨rfl, hb⟩
    have HB2 := Lib.hid (HB1.out.trans (hb.mono HB1.out.size))
    clear hb
    go_wp2
    go_ret
    exact ⟨rfl, HB2.out⟩
  · have f1 : (F == 0) = false := by rw [beq_eq_false_iff_ne]; exact h0
    have f2 : (F != 0) = true := by rw [bne, f1]; rfl
    obtain rfl : E = F := by rw [← HE.out, if_neg h0]
    clear h0
    go_wp2
    go_ret
    exact ⟨rfl, HB1.out⟩

set_option maxHeartbeats 8000000 in
theorem refcheck_any (t : Tr) (w : World) (hin : t.In w w.heap.size) (E : Int) (hE : checkE t = E) :
    Calls Try.prog 14 #[t.val] w fun e w' => e = .returned (.int .i64 E) ∧ Below w.heap.size w w' := by
  obtain ⟨F, hF⟩ : ∃ F, wrongN t.root 1 = F := ⟨_, rfl⟩
  obtain ⟨a, ha⟩ : ∃ a, a = wrap64 (nodesN t.root) := ⟨_, rfl⟩
  obtain ⟨c, hc⟩ : ∃ c, c = wrap64 (propsN t.root) := ⟨_, rfl⟩
  have HE : Hid ((if F = 0 then (if 4096 < a ∨ 8192 < c ∨ 64 < t.rs.length then 7 else if t.rs.any zeroR = true then 7 else 0) else F) = E) := by rw [← hF, ha, hc]; exact hE
  have C1 := Lib.hid (fun w h => wrong_any t.root 1 w h (by omega) (by omega) F hF)
  have C2 := Lib.hid (fun w h => (refcount_any t.root w h).mono fun e w' (h : Counted e t.root ∧ _) => show e = .returned (.tuple #[.int .i64 a, .int .i64 c]) ∧ Below w.heap.size w w' from ⟨by rw [ha, hc]; exact h.1, h.2⟩)
  have HI := Lib.hid hin
  obtain ⟨hl, hm, _⟩ := hin.len
  clear hE hF ha hc hin
  obtain ⟨boot, ra, rc, rs, ⟨nm, pa, pc, ps, ka, kc, ks⟩⟩ := t
  replace hl : rs.length ≤ rc := hl
  replace hm : rc ≤ 9223372036854775807 := hm
  replace HE : Hid ((if F = 0 then (if 4096 < a ∨ 8192 < c ∨ 64 < rs.length then 7 else if rs.any zeroR = true then 7 else 0) else F) = E) := HE
  show Calls _ _ #[.agg #[.int .u32 boot, .slice ra rs.length rc, .string nm, .slice pa ps.length pc, .slice ka ks.length kc]] _ _
  have HB := Lib.hid ((Below.refl w.heap.size w).alloc (Nat.le_refl _) (.cells #[.int .u32 boot, .slice ra rs.length rc, .string nm, .slice pa ps.length pc, .slice ka ks.length kc] 40))
  have BX : Hid (∀ W : World, Below (w.heap.size + 1) (w.alloc (.cells #[.int .u32 boot, .slice ra rs.length rc, .string nm, .slice pa ps.length pc, .slice ka ks.length kc] 40)) W → W.cell? ⟨w.heap.size, 1, none⟩ = some (.slice ra rs.length rc) ∧ W.cell? ⟨w.heap.size, 2, none⟩ = some (.string nm) ∧ W.cell? ⟨w.heap.size, 3, none⟩ = some (.slice pa ps.length pc) ∧ W.cell? ⟨w.heap.size, 4, none⟩ = some (.slice ka ks.length kc)) := fun W h =>
    ⟨(h.cell (Nat.lt_succ_self _)).trans (World.cell?_alloc_new _ _ _ _), (h.cell (Nat.lt_succ_self _)).trans (World.cell?_alloc_new _ _ _ _), (h.cell (Nat.lt_succ_self _)).trans (World.cell?_alloc_new _ _ _ _), (h.cell (Nat.lt_succ_self _)).trans (World.cell?_alloc_new _ _ _ _)⟩
  go_enter Try.func14, Try.ntmps14
  go_wp2_with fail
  refine (C1.out _ ((HI.out.on HB.out).root)).mono ?_
  rintro e w1 ⟨rfl, hb⟩
  have HB1 := Lib.hid (HB.out.trans (hb.mono HB.out.size))
  have HX1 := Lib.hid (hb.mono (B' := w.heap.size + 1) (by simp))
  obtain ⟨b1, b2, b3, b4⟩ := BX.out _ HX1.out
  clear hb
  by_cases h0 : F = 0
  · have HE2 : Hid ((if 4096 < a ∨ 8192 < c ∨ 64 < rs.length then 7 else if rs.any zeroR = true then 7 else 0) = E) := by have := HE.out; rwa [if_pos h0] at this
    subst h0
    clear HE
    go_wp2_with fail
    refine (C2.out _ ((HI.out.on HB1.out).root)).mono ?_
    rintro e w2 ⟨rfl, hb⟩
    have HB2 := Lib.hid (HB1.out.trans (hb.mono HB1.out.size))
    have HX2 := Lib.hid (HX1.out.trans (hb.mono (by have := HX1.out.size; simpa using this)))
    clear hb b1 b2 b3 b4
    obtain ⟨b1, b2, b3, b4⟩ := BX.out _ HX2.out
    by_cases h1 : 4096 < a
    · obtain rfl : E = 7 := by rw [← HE2.out, if_pos (.inl h1)]
      go_wp2
      go_ret
      exact ⟨rfl, HB2.out⟩
    · by_cases h2 : 8192 < c
      · obtain rfl : E = 7 := by rw [← HE2.out, if_pos (.inr (.inl h2))]
        go_wp2
        go_ret
        exact ⟨rfl, HB2.out⟩
      · by_cases h3 : 64 < (rs.length : Int)
        · obtain rfl : E = 7 := by rw [← HE2.out, if_pos (.inr (.inr (by omega)))]
          go_wp2
          go_ret
          exact ⟨rfl, HB2.out⟩
        · have HF : Hid ((if rs.any zeroR = true then 7 else 0) = E) := by have := HE2.out; rwa [if_neg (by omega)] at this
          go_wp2_with fail
          clear b1 b2 b3 b4
          go_loopw [34] (fun i wr => ∃ k : Nat, k ≤ rs.length ∧ i = .int .i64 k ∧ Good zeroR rs k ∧ Below (w.heap.size + 1) (w.alloc (.cells #[.int .u32 boot, .slice ra rs.length rc, .string nm, .slice pa ps.length pc, .slice ka ks.length kc] 40)) wr) (fun i _ => rs.length - (intOf i).toNat)
          case atStart => exact ⟨0, Nat.zero_le _, rfl, Good.zero _ _, HX2.out⟩
          case round =>
            obtain ⟨k, hk, rfl, hgood, hb⟩ := hrel
            have HA := Lib.hid hgood
            have HB0 := Lib.hid hb
            have HB' := Lib.hid (HB.out.trans (hb.mono (Nat.le_succ _)))
            obtain ⟨b1, _, _, _⟩ := BX.out _ hb
            clear hgood hb
            by_cases hlt : k < rs.length
            · obtain ⟨b, o, e, hb, c0, c1⟩ := (HI.out.under HB'.out).rcell (i := k) hlt
              obtain rfl : ra = _ := e
              replace c0 : _ = some (Value.int .u64 rs[k].1) := c0
              replace c1 : _ = some (Value.int .u64 rs[k].2) := c1
              obtain ⟨x, hx⟩ : ∃ x, x = rs[k].1 := ⟨_, rfl⟩
              obtain ⟨y, hy⟩ : ∃ y, y = rs[k].2 := ⟨_, rfl⟩
              have HZ : Hid (zeroR rs[k] = (decide (x = 0) && decide (y = 0))) := by show zeroR _ = _; rw [hx, hy]; rfl
              rw [← hx] at c0
              rw [← hy] at c1
              clear hx hy
              by_cases hx0 : x = 0
              · subst hx0
                by_cases hy0 : y = 0
                · subst hy0
                  obtain rfl : E = 7 := by rw [← HF.out, if_pos (any_at hlt HZ.out)]
                  go_wp2
                  go_ret
                  exact ⟨rfl, HB'.out⟩
                · have HG : Hid (zeroR rs[k] = false) := by have := HZ.out; rw [decide_eq_false hy0] at this; exact this
                  have hy1 : (y == 0) = false := by rw [beq_eq_false_iff_ne]; exact hy0
                  clear hy0
                  go_wp2
                  go_roundw
                  case rel => exact ⟨k + 1, by omega, by go_num, HA.out.succ hlt HG.out, HB0.out⟩
                  case measure => simp [intOf]; omega
              · have HG : Hid (zeroR rs[k] = false) := by have := HZ.out; rw [decide_eq_false hx0] at this; exact this
                have hx1 : (x == 0) = false := by rw [beq_eq_false_iff_ne]; exact hx0
                clear hx0
                go_wp2
                go_roundw
                case rel => exact ⟨k + 1, by omega, by go_num, HA.out.succ hlt HG.out, HB0.out⟩
                case measure => simp [intOf]; omega
            · obtain rfl : E = 0 := by rw [← HF.out, HA.out.all hlt]; rfl
              go_wp2
              go_ret
              exact ⟨rfl, HB'.out⟩
  · have f1 : (F == 0) = false := by rw [beq_eq_false_iff_ne]; exact h0
    have f2 : (F != 0) = true := by rw [bne, f1]; rfl
    obtain rfl : E = F := by rw [← HE.out, if_neg h0]
    clear h0
    go_wp2
    go_ret
    exact ⟨rfl, HB1.out⟩

set_option maxHeartbeats 4000000 in
theorem few_any (t : Tr) (w : World) (hin : t.In w w.heap.size) :
    Calls Try.prog 13 #[t.val] w fun e w' => (∃ r : Bool, e = .returned (.bool r)) ∧ Below w.heap.size w w' := by
  have C1 := Lib.hid (fun w h => size_any t.root 0 w h (by omega) (by omega))
  have HI := Lib.hid hin
  clear hin
  obtain ⟨boot, ra, rc, rs, ⟨nm, pa, pc, ps, ka, kc, ks⟩⟩ := t
  show Calls _ _ #[.agg #[.int .u32 boot, .slice ra rs.length rc, .string nm, .slice pa ps.length pc, .slice ka ks.length kc]] _ _
  have HB := Lib.hid ((Below.refl w.heap.size w).alloc (Nat.le_refl _) (.cells #[.int .u32 boot, .slice ra rs.length rc, .string nm, .slice pa ps.length pc, .slice ka ks.length kc] 40))
  go_enter Try.func13, Try.ntmps13
  go_wp2_with fail
  refine (C1.out _ ((HI.out.on HB.out).root)).mono ?_
  rintro e w1 ⟨⟨z, rfl⟩, hb⟩
  have HB1 := Lib.hid (HB.out.trans (hb.mono HB.out.size))
  have b1 := (hb.cell (p := ⟨w.heap.size, 1, none⟩) (by simp)).trans (World.cell?_alloc_new _ _ _ _)
  replace b1 : _ = some (Value.slice ra rs.length rc) := b1
  clear hb
  by_cases hz : z ≤ 100000
  · go_wp2
    go_ret
    exact ⟨⟨_, rfl⟩, HB1.out⟩
  · go_wp2
    go_ret
    first | exact ⟨⟨_, rfl⟩, HB1.out⟩ | exact ⟨.inl rfl, HB1.out⟩

end Go.Proofs.Ytnopcnbeklbfoaa

/-! Layer 4, DecodeCuts: of a formed tree's bytes that are cut off, or have others behind them, nothing is read. -/
namespace Go.Proofs.Ytnopcnbeklbfoaa
open Go.RowKit
set_option linter.unusedVariables false
set_option linter.unusedSimpArgs false

/-- Bytes whose header is not theirs. -/
theorem decode_bad (A : Option Addr) (n c : Nat) (zs : List Int) (w : World) (hs : Shows w w.heap.size A n zs) (hnc : n ≤ c) (hc : c ≤ 9223372036854775807)
    (h : 40 ≤ n → hcell zs 0 = 3490578157 ∧ hcell zs 5 = 17 ∧ hcell zs 6 = 16 ∧ hcell zs 1 ≠ n) :
    Calls Try.prog 16 #[.slice A n c] w fun e w' => e = .returned (.tuple #[.agg #[.int .u32 0, .slice none 0 0, .string ⟨#[]⟩, .slice none 0 0, .slice none 0 0], .int .i64 4]) ∧ Below w.heap.size w w' := by
  by_cases h1 : 40 ≤ n ∧ n ≤ 1048576
  · obtain ⟨a0, a5, a6, a1⟩ := h h1.1
    refine decode_err A n c (hcell zs) w 4 (by decide) (fun o => ?_)
    refine header_yes A n c zs (w.alloc o) ((hs.below ((Below.refl _ _).alloc (Nat.le_refl _) o)).more (by simp)) h1.1 h1.2 hnc (by unfold maxLen; exact hc) 4 ?_
    rw [headE, if_pos a0, if_pos ⟨a5, a6⟩, if_neg (fun k => a1 k.1)]
  · exact decode_err A n c (fun _ => 0) w 4 (by decide) (fun o => (header_no A n c (fun _ => 0) (w.alloc o) (by omega) (by omega)).mono fun e w' k => ⟨k.1, by rw [k.2]; exact (Below.refl _ _).alloc (Nat.le_refl _) _⟩)

theorem numTo_more (zs ys : List Int) (a : Nat) : ∀ k, a + k ≤ zs.length → numTo (zs ++ ys) a k = numTo zs a k
  | 0, _ => rfl
  | k + 1, h => by
    have ih := numTo_more zs ys a k (by omega)
    simp only [numTo, ih]
    congr 1
    simp [List.getD, List.getElem?_append_left (show a + k < zs.length by omega)]
theorem hcell_more (zs ys : List Int) (k : Nat) (hk : k < 10) (h : 40 ≤ zs.length) : hcell (zs ++ ys) k = hcell zs k := numTo_more zs ys (k * 4) 4 (by omega)
theorem hcell_take (zs : List Int) (m k : Nat) (hk : k < 10) (h : 40 ≤ m) (hm : m ≤ zs.length) : hcell (zs.take m) k = hcell zs k := by
  have e := hcell_more (zs.take m) (zs.drop m) k hk (by rw [List.length_take]; omega)
  rw [List.take_append_drop] at e
  exact e.symm

/-- A blob's first cells. -/
theorem blob_head (t : Tr) (hb : 0 ≤ t.boot ∧ t.boot ≤ 4294967295) (h : 40 + (reserveT t).length + (structT t).length + (textB (textsT t)).length ≤ 4294967295) (k : Nat) (hk : k < 10) : hcell (blobT t) k = headT t k := by
  have hall : ∀ j, j < 10 → (headT t j : Int) ≤ 4294967295 := by
    intro j hj
    rcases (by omega : j = 0 ∨ j = 1 ∨ j = 2 ∨ j = 3 ∨ j = 4 ∨ j = 5 ∨ j = 6 ∨ j = 7 ∨ j = 8 ∨ j = 9) with rfl | rfl | rfl | rfl | rfl | rfl | rfl | rfl | rfl | rfl
    all_goals simp only [headT, List.getD_cons_zero, List.getD_cons_succ]
    all_goals omega
  have hf : ∀ i, 0 ≤ (if i < 10 then (headT t i : Int) else 0) ∧ (if i < 10 then (headT t i : Int) else 0) ≤ 4294967295 := by
    intro i
    by_cases hi : i < 10
    · rw [if_pos hi]; exact ⟨by omega, hall i hi⟩
    · rw [if_neg hi]; omega
  have e : fours (fun k => (headT t k : Int)) 10 = fours (fun i => if i < 10 then (headT t i : Int) else 0) 10 := by
    unfold fours
    rw [List.flatMap_def, List.flatMap_def]
    refine congrArg List.flatten (List.map_congr_left fun j hj => ?_)
    simp only [if_pos (List.mem_range.1 hj)]
  rw [blobT, e, hcell_fours (fun i => if i < 10 then (headT t i : Int) else 0) hf _ k hk, if_pos hk]
theorem blob_length (t : Tr) : (blobT t).length = headT t 1 := by
  simp only [blobT, List.length_append, fours_length, headT, List.getD_cons_zero, List.getD_cons_succ]
  omega
theorem headT_lit (t : Tr) : headT t 0 = 3490578157 ∧ headT t 5 = 17 ∧ headT t 6 = 16 := ⟨rfl, rfl, rfl⟩

theorem Mid.made (W : World) : Mid W.heap.size W (W.alloc (.cells #[] 5)) (.slice (some ⟨W.heap.size, 0, none⟩) 0 0) [] :=
  ⟨World.ownsRow_made W #[] 0 (Nat.le_refl _) (Nat.zero_le _) rfl, (Below.refl _ _).alloc (Nat.le_refl _) _, by simp, by simp⟩

set_option maxRecDepth 100000 in
set_option maxHeartbeats 8000000 in
theorem decodeCuts_true (t : Tr) (cut : Nat) (z : Int) (w : World) (hin : t.In w w.heap.size) (hheft : heftN t.root ≤ 1073741824) (hrs : t.rs.length ≤ 1048576) (hcut : cut ≤ 65535) (hz : 0 ≤ z ∧ z < 256) :
    Calls Try.prog 4 #[t.val, .int .u16 cut, .int .u8 z] w fun e w' => e = .returned (.bool true) ∧ Below w.heap.size w w' := by
  obtain ⟨E, hE⟩ : ∃ E, checkE t = E := ⟨_, rfl⟩
  have C0 := Lib.hid (fun w h => few_any t w h)
  have C1 := Lib.hid (fun w h => refcheck_any t w h E hE)
  have C2 := Lib.hid (fun w h => blob_any t w h hheft hrs)
  obtain ⟨BT, hBT⟩ : ∃ BT, blobT t = BT := ⟨_, rfl⟩
  have hlen : 40 ≤ BT.length ∧ BT.length ≤ 4294967295 := by
    have h1 := textsN_size t.root []
    have h2 := nodeN_length (textsT t) t.root
    have h3 := textB_length (textsT t)
    rw [← hBT, blob_length]
    simp only [headT, List.getD_cons_zero, List.getD_cons_succ, structT, reserveT, List.length_append, resL_length, List.length_replicate, List.length_cons, List.length_nil]
    simp only [textsT, textSize] at h1 h2 h3 ⊢
    omega
  have hHC : ∀ k, k < 10 → hcell BT k = headT t k := fun k hk => by
    rw [← hBT]
    refine blob_head t hin.boot ?_ k hk
    have h := blob_length t
    rw [hBT] at h
    simp only [headT, List.getD_cons_zero, List.getD_cons_succ] at h
    omega
  have HH := Lib.hid (show hcell BT 0 = 3490578157 ∧ hcell BT 5 = 17 ∧ hcell BT 6 = 16 ∧ hcell BT 1 = BT.length from ⟨by rw [hHC 0 (by omega)]; rfl, by rw [hHC 5 (by omega)]; rfl, by rw [hHC 6 (by omega)]; rfl, by rw [hHC 1 (by omega), ← blob_length, hBT]⟩)
  rw [hBT] at C2
  have HI := Lib.hid hin
  clear hE hin hheft hrs hBT hHC
  obtain ⟨boot, ra, rc, rs, ⟨nm, pa, pc, ps, ka, kc, ks⟩⟩ := t
  show Calls _ _ #[.agg #[.int .u32 boot, .slice ra rs.length rc, .string nm, .slice pa ps.length pc, .slice ka ks.length kc], .int .u16 cut, .int .u8 z] _ _
  have HB := Lib.hid ((Below.refl w.heap.size w).alloc (Nat.le_refl _) (.cells #[.int .u32 boot, .slice ra rs.length rc, .string nm, .slice pa ps.length pc, .slice ka ks.length kc] 40))
  have BX := Lib.hid (fun (W : World) (h : Below (w.heap.size + 1) (w.alloc (.cells #[.int .u32 boot, .slice ra rs.length rc, .string nm, .slice pa ps.length pc, .slice ka ks.length kc] 40)) W) => show W.cell? ⟨w.heap.size, 0, none⟩ = some (.int .u32 boot) ∧ W.cell? ⟨w.heap.size, 1, none⟩ = some (.slice ra rs.length rc) ∧ W.cell? ⟨w.heap.size, 2, none⟩ = some (.string nm) ∧ W.cell? ⟨w.heap.size, 3, none⟩ = some (.slice pa ps.length pc) ∧ W.cell? ⟨w.heap.size, 4, none⟩ = some (.slice ka ks.length kc) from
    ⟨(h.cell (Nat.lt_succ_self _)).trans (World.cell?_alloc_new _ _ _ _), (h.cell (Nat.lt_succ_self _)).trans (World.cell?_alloc_new _ _ _ _), (h.cell (Nat.lt_succ_self _)).trans (World.cell?_alloc_new _ _ _ _), (h.cell (Nat.lt_succ_self _)).trans (World.cell?_alloc_new _ _ _ _), (h.cell (Nat.lt_succ_self _)).trans (World.cell?_alloc_new _ _ _ _)⟩)
  go_enter Try.func4, Try.ntmps4
  go_wp2_with fail
  refine (awake4 _).mono ?_
  rintro e w1 ⟨rfl, hb⟩
  have HB1 := Lib.hid (HB.out.trans (hb.mono HB.out.size))
  have HX1 := Lib.hid (hb.mono (B' := w.heap.size + 1) (by simp))
  obtain ⟨b0, b1, b2, b3, b4⟩ := BX.out _ HX1.out
  clear hb
  go_wp2_with fail
  refine (C0.out _ (HI.out.on HB1.out)).mono ?_
  rintro e w2 ⟨⟨r, rfl⟩, hb⟩
  have HB2 := Lib.hid (HB1.out.trans (hb.mono HB1.out.size))
  have HX2 := Lib.hid (HX1.out.trans (hb.mono (by have := HX1.out.size; simpa using this)))
  clear hb b0 b1 b2 b3 b4
  cases r
  · go_wp2_with fail
    refine (awake4 _).mono ?_
    rintro e w3 ⟨rfl, hb⟩
    have HB3 := Lib.hid (HB2.out.trans (hb.mono HB2.out.size))
    clear hb
    go_wp2
    go_ret
    exact ⟨rfl, HB3.out⟩
  · obtain ⟨b0, b1, b2, b3, b4⟩ := BX.out _ HX2.out
    go_wp2_with fail
    refine (C1.out _ (HI.out.on HB2.out)).mono ?_
    rintro e w3 ⟨rfl, hb⟩
    have HB3 := Lib.hid (HB2.out.trans (hb.mono HB2.out.size))
    have HX3 := Lib.hid (HX2.out.trans (hb.mono (by have := HX2.out.size; simpa using this)))
    clear hb b0 b1 b2 b3 b4
    by_cases hE0 : E = 0
    · have e1 : (E != 0) = false := by rw [hE0]; rfl
      clear hE0
      obtain ⟨b0, b1, b2, b3, b4⟩ := BX.out _ HX3.out
      go_wp2_with fail
      refine (C2.out _ (HI.out.on HB3.out)).mono ?_
      rintro e w4 ⟨A, c, rfl, hs, hnc, hcm, hb⟩
      obtain ⟨N, hN⟩ : ∃ N, BT.length = N := ⟨_, rfl⟩
      rw [hN] at hs hnc hlen
      rw [hN]
      obtain ⟨hl1, hl2⟩ := hlen
      obtain ⟨m, hm⟩ : ∃ m, cut % N = m := ⟨_, rfl⟩
      have hmN : m < N := by rw [← hm]; exact Nat.mod_lt _ (by omega)
      have HN := Lib.hid (And.intro hN hm)
      have HB4 := Lib.hid (HB3.out.trans (hb.mono HB3.out.size))
      have r1 := run_upto (P := Try.prog) Try.underlying26 size_u8 A N c (m : Int) m rfl (by omega)
      have HD1 := Lib.hid (decode_bad A m c (BT.take m) w4 (hs.upto (by omega)) (by omega) hcm (fun h => by
        have hh := HH.out
        rw [hcell_take _ _ _ (by omega) h (by rw [hN]; omega), hcell_take _ _ _ (by omega) h (by rw [hN]; omega), hcell_take _ _ _ (by omega) h (by rw [hN]; omega), hcell_take _ _ _ (by omega) h (by rw [hN]; omega)]
        exact ⟨hh.1, hh.2.1, hh.2.2.1, by rw [hh.2.2.2, hN]; omega⟩))
      have HS := Lib.hid hs
      have em : ((cut : Int) % (N : Int)) = (m : Int) := by rw [← hm]; simp
      clear hb hs hN hm b0 b1 b2 b3 b4 e1
      have HM0 := Lib.hid (fun (W : World) => Mid.made W)
      obtain ⟨hz0, hz1⟩ := hz
      go_wp2_with fail
      refine HD1.out.mono ?_
      rintro e w5 ⟨rfl, hb⟩
      have hb6 := hb.trans ((Below.refl w5.heap.size w5).alloc (Nat.le_refl _) (.cells #[.int .u32 0, .slice none 0 0, .string ⟨#[]⟩, .slice none 0 0, .slice none 0 0] 40) |>.mono hb.size)
      have hMa := HM0.out (w5.alloc (.cells #[.int .u32 0, .slice none 0 0, .string ⟨#[]⟩, .slice none 0 0, .slice none 0 0] 40))
      obtain ⟨va, wa, hra, hMb, _⟩ := hMa.append c (((HS.out.below hb6).below ((Below.refl _ _).alloc (by simp; have := hb.size; omega) (.cells #[] 5)))) (by simp only [List.length_nil]; have := HN.out.1; omega) 26
      have esz : (w5.alloc (.cells #[.int .u32 0, .slice none 0 0, .string ⟨#[]⟩, .slice none 0 0, .slice none 0 0] 40)).heap.size = w5.heap.size + 1 := by simp
      rw [esz] at hra
      clear esz
      have hMc := hMb.on ((Below.refl _ _).alloc (Nat.le_refl _) (.cells #[.int .u8 z] 5))
      obtain ⟨vb, wb, hrb, hMd, _⟩ := hMc.append 1 (shows_lit wa [z] 1 _ rfl (by simp; omega) rfl 5) (by simp only [List.nil_append, List.length_cons, List.length_nil]; have := HN.out.1; omega) 26
      rw [List.nil_append] at hMd
      obtain ⟨A2, c2, rfl, hs2, hnc2, hcm2⟩ := hMd.shown
      have hl3 : (BT ++ [z]).length = N + 1 := by rw [List.length_append, HN.out.1]; rfl
      rw [hl3] at hs2 hnc2 hrb
      have HD2 := Lib.hid (decode_bad A2 (N + 1) c2 (BT ++ [z]) wb hs2 hnc2 hcm2 (fun h => by
        have hh := HH.out
        have hb40 : 40 ≤ BT.length := by rw [HN.out.1]; exact hl1
        rw [hcell_more _ _ _ (by omega) hb40, hcell_more _ _ _ (by omega) hb40, hcell_more _ _ _ (by omega) hb40, hcell_more _ _ _ (by omega) hb40]
        exact ⟨hh.1, hh.2.1, hh.2.2.1, by rw [hh.2.2.2, HN.out.1]; omega⟩))
      have hb7 : Below w5.heap.size w5 wb := ((Below.refl w5.heap.size w5).alloc (Nat.le_refl _) (.cells #[.int .u32 0, .slice none 0 0, .string ⟨#[]⟩, .slice none 0 0, .slice none 0 0] 40)).trans (hMd.2.1.mono (by simp))
      have HB7 := Lib.hid (HB4.out.trans ((hb.trans (hb7.mono hb.size)).mono HB4.out.size))
      clear hb hb6 hMa hMb hMc hMd hs2 hl3 hb7
      obtain ⟨M, hM⟩ : ∃ M, N + 1 = M := ⟨_, rfl⟩
      rw [hM] at hrb HD2
      clear hM hnc2
      go_wp2_with (at_builtin; first | (refine Lib.wpList_append_run_sl _ rfl _ _ _ rfl _ _ rfl rfl hra ?_) | (refine Lib.wpList_append_run_sl _ rfl _ _ _ rfl _ _ rfl rfl hrb ?_))
      refine HD2.out.mono ?_
      rintro e w8 ⟨rfl, hb8⟩
      have HB8 := Lib.hid (HB7.out.trans (hb8.mono HB7.out.size))
      clear hb8 hra hrb
      go_wp2
      go_ret
      exact ⟨rfl, HB8.out.alloc HB8.out.size _⟩
    · have e1 : (E != 0) = true := by rw [bne_iff_ne]; exact hE0
      clear hE0
      go_wp2_with fail
      refine (awake4 _).mono ?_
      rintro e w4 ⟨rfl, hb⟩
      have HB4 := Lib.hid (HB3.out.trans (hb.mono HB3.out.size))
      clear hb
      go_wp2
      go_ret
      exact ⟨rfl, HB4.out⟩
end Go.Proofs.Ytnopcnbeklbfoaa

/-! Layer 5: what a formed tree's bytes say, read, is the tree. -/
namespace Go.Proofs.Ytnopcnbeklbfoaa
open Go.RowKit
set_option linter.unusedVariables false
set_option linter.unusedSimpArgs false

/-! ### Names have no nought -/
theorem okM_nz {m : List UInt8} (hm : (0 : UInt8) ∉ m) {c : UInt8} (h : okM m c = true) : c ≠ 0 := by
  rintro rfl
  unfold okM at h
  have e : ¬ 0 ≤ Lib.indexByte m 0 := by
    intro h0
    obtain ⟨k, hk⟩ := Int.eq_ofNat_of_zero_le h0
    obtain ⟨h1, h2⟩ := Lib.indexByte_some hk
    exact hm (List.mem_of_getElem? h1)
  simp [letB, digB, e] at h
theorem madeB_nz {m : List UInt8} (hm : (0 : UInt8) ∉ m) {l : List UInt8} (h : madeB m l = true) : (0 : UInt8) ∉ l := by
  intro h0
  unfold madeB at h
  simp only [Bool.and_eq_true, List.all_eq_true] at h
  exact okM_nz hm (h.2 0 h0) rfl
theorem strB_nz {s : ByteArray} (h : (0 : UInt8) ∉ s.data.toList) : (0 : Int) ∉ strB s := by
  intro h0
  obtain ⟨b, hb, e⟩ := List.mem_map.1 h0
  have e2 : b = 0 := by
    apply UInt8.toNat_inj.1
    simpa using e
  exact h (e2 ▸ hb)
theorem propB_nz {s : ByteArray} (h : propB s = true) : (0 : Int) ∉ strB s := strB_nz (madeB_nz (m := propMarks) (by decide) h)
theorem nodeB_nz {s : ByteArray} (h : nodeB s = true) : (0 : Int) ∉ strB s := by
  apply strB_nz
  unfold nodeB at h
  split at h
  · exact madeB_nz (m := nodeMarks) (by decide) (by unfold baseB at h; simp only [Bool.and_eq_true] at h; exact h.1)
  · rename_i hc
    simp only [Bool.and_eq_true] at h
    rcases cut_or_not s with hn | ⟨i, hi⟩
    · exact absurd hn hc
    · have e : (Lib.indexByte s.data.toList 64).toNat = i := by rw [hi.2]; rfl
      rw [e] at h
      have h1 := madeB_nz (m := nodeMarks) (by decide) (by have := h.1; unfold baseB at this; simp only [Bool.and_eq_true] at this; exact this.1)
      have h2 := madeB_nz (m := nodeMarks) (by decide) h.2
      intro h0
      obtain ⟨k, e0⟩ := List.getElem?_of_mem h0
      have c := (Lib.indexByte_some hi.2).1
      rw [ByteArray.data_extract, Array.toList_extract, List.extract_eq_take_drop] at h1 h2
      rcases Nat.lt_trichotomy k i with hk | hk | hk
      · exact h1 (List.mem_of_getElem? (i := k) (by rw [List.getElem?_take_of_lt (by omega), List.drop_zero]; exact e0))
      · subst hk
        rw [c] at e0
        exact absurd e0 (by decide)
      · have hk2 : k < s.size := (List.getElem?_eq_some_iff.1 e0).1
        exact h2 (List.mem_of_getElem? (i := k - (i + 1)) (by rw [List.getElem?_take_of_lt (by omega), List.getElem?_drop, show i + 1 + (k - (i + 1)) = k by omega]; exact e0))
theorem strOf_strB (s : ByteArray) : strOfNums (strB s) = s := by
  apply ByteArray.ext
  apply Array.ext'
  show ((strB s).map fun n => UInt8.ofNat n.toNat) = s.data.toList
  unfold strB
  rw [List.map_map]
  conv => rhs; rw [← List.map_id s.data.toList]
  apply List.map_congr_left
  intro b _
  simp

/-! ### What stands at a place -/
theorem tokAt_app (a b : List Int) (v : Int) (h : 0 ≤ v) (k : Nat) (hk : k = a.length) : tokAt (a ++ (four v ++ b)) k = some v := by
  subst hk
  unfold tokAt
  rw [if_pos (by simp only [List.length_append, four, List.length_cons, List.length_nil]; omega), numTo_four a b v h]
theorem textFrom_app (a s b : List Int) (h : (0 : Int) ∉ s) (k : Nat) (hk : k = a.length) : textFrom (a ++ (s ++ (0 :: b))) k = some s := by
  subst hk
  unfold textFrom
  rw [List.drop_left]
  rw [if_pos (by simp), List.takeWhile_append_of_pos (fun z hz => by simp; rintro rfl; exact h hz)]
  simp
theorem behind_app (a b : List Int) (k n : Nat) (hk : k = a.length) (hn : n = padN a.length) : behind (a ++ (List.replicate n 0 ++ b)) k = some (k + n) := by
  subst hk hn
  unfold behind
  rw [if_pos]
  refine ⟨by simp only [List.length_append, List.length_replicate]; omega, ?_⟩
  intro x hx
  rw [List.drop_left] at hx
  have e : padN a.length = (List.replicate (padN a.length) (0 : Int)).length := by simp
  rw [List.take_append_of_le_length (by simp)] at hx
  exact List.eq_of_mem_replicate (List.mem_of_mem_take hx)

/-! ### Tokens -/
/-- So many tokens lead from here to there. -/
def Goes (S T : List Int) (st st' : PSt) (m : Nat) : Prop := ∀ f, rootF S T (m + f) st = rootF S T f st'
theorem Goes.refl (S T : List Int) (st : PSt) : Goes S T st st 0 := fun f => by rw [Nat.zero_add]
theorem Goes.trans {S T : List Int} {a b c : PSt} {m k : Nat} (h1 : Goes S T a b m) (h2 : Goes S T b c k) : Goes S T a c (m + k) := fun f => by rw [Nat.add_assoc, h1, h2]
theorem Goes.one {S T : List Int} {st st' : PSt} {k : Int} (ht : tokAt S st.pos = some k) (hs : standB st.below.length st.top.kids.length k = true) (h9 : k ≠ 9) (hr : readF S T st k = .ok st') : Goes S T st st' 1 := fun f => by
  rw [Nat.add_comm 1 f, rootF, ht]
  simp only [hs, hr, if_neg h9, Bool.true_eq_false, if_false]

theorem padN_shift {a b : Nat} (h : a % 4 = 0) : padN (a + b) = padN b := by unfold padN; omega

theorem begin_go {S T pre post : List Int} {nm : ByteArray} {st : PSt} (hS : S = pre ++ ([0, 0, 0, 1] ++ (padL (strB nm ++ [0]) ++ post))) (hp : st.pos = pre.length) (h4 : pre.length % 4 = 0) (hd : st.below.length + 1 ≤ 16)
    (hn : okName nm (st.below.length + 1) = true) (ht : nm ∉ st.top.taken) (hz : (0 : Int) ∉ strB nm) (hst : 0 < st.below.length ∨ st.top.kids.length = 0) :
    Goes S T st ⟨pre.length + (4 + (padL (strB nm ++ [0])).length), PF.new nm, { st.top with taken := st.top.taken ++ [nm] } :: st.below⟩ 1 := by
  have e1 : ([0, 0, 0, 1] : List Int) = four 1 := by decide
  have hx : textFrom S (st.pos + 4) = some (strB nm) := by
    have e : S = (pre ++ [0, 0, 0, 1]) ++ (strB nm ++ (0 :: (List.replicate (padN (strB nm ++ [0]).length) 0 ++ post))) := by rw [hS, padL]; simp
    rw [e]
    exact textFrom_app _ _ _ hz _ (by rw [hp]; simp)
  have hb : behind S (st.pos + 4 + (strB nm).length + 1) = some (pre.length + (4 + (padL (strB nm ++ [0])).length)) := by
    have e : S = (pre ++ ([0, 0, 0, 1] ++ (strB nm ++ [0]))) ++ (List.replicate (padN (strB nm ++ [0]).length) 0 ++ post) := by rw [hS, padL]; simp
    have h := behind_app (pre ++ ([0, 0, 0, 1] ++ (strB nm ++ [0]))) post (st.pos + 4 + (strB nm).length + 1) (padN (strB nm ++ [0]).length) (by rw [hp]; simp; omega) (by
      have l1 : (pre ++ ([0, 0, 0, 1] ++ (strB nm ++ [0]))).length = pre.length + (4 + (strB nm ++ [0]).length) := by simp; omega
      rw [l1, padN_shift h4, padN_shift (by decide)])
    rw [e, h, padL_length, hp]
    simp; omega
  refine Goes.one (k := 1) (by rw [hS, e1]; exact tokAt_app _ _ _ (by decide) _ hp) ?_ (by decide) ?_
  · simp only [standB, if_pos rfl]
    rcases hst with h | h <;> simp [h]
  · have e2 : readF S T st 1 = beginF S st := by simp [readF]
    rw [e2, beginF, hx]
    simp only [hb, strOf_strB]
    rw [if_neg (by omega), if_neg (by rw [hn]; decide), if_neg (by rw [hasS_iff]; exact ht)]

theorem where_split : ∀ (L : List ByteArray) (s : ByteArray), s ∈ L → ∃ a b, textB L = a ++ (strB s ++ (0 :: b)) ∧ whereL L s = a.length
  | [], s, h => by cases h
  | x :: r, s, h => by
    have e : textB (x :: r) = (strB x ++ [0]) ++ textB r := by simp [textB]
    by_cases hx : x = s
    · subst hx
      exact ⟨[], textB r, by rw [e]; simp, by simp [whereL]⟩
    · obtain ⟨a, b, h1, h2⟩ := where_split r s ((List.mem_cons.1 h).resolve_left fun k => hx k.symm)
      refine ⟨(strB x ++ [0]) ++ a, b, by rw [e, h1]; simp, ?_⟩
      rw [whereL, if_neg hx, h2]
      simp only [List.length_append, strB_length, List.length_cons, List.length_nil]

theorem prop_go {S T pre post : List Int} {L : List ByteArray} {p : PV} {st : PSt} (hS : S = pre ++ (propT L p ++ post)) (hT : T = textB L) (hL : p.name ∈ L) (hp : st.pos = pre.length) (h4 : pre.length % 4 = 0)
    (hb : 0 < st.below.length) (hk : st.top.kids.length = 0) (hn : propB p.name = true) (hd : p.name ∉ st.top.props.map Prod.fst) :
    Goes S T st ⟨pre.length + (propT L p).length, { st.top with props := st.top.props ++ [p.pure] }, st.below⟩ 1 := by
  have e1 : ([0, 0, 0, 3] : List Int) = four 3 := by decide
  have hSl : S.length = pre.length + (12 + p.zs.length + padN p.zs.length) + post.length := by
    rw [hS]; simp only [propT, List.length_append, padL_length, four, List.length_cons, List.length_nil]; omega
  have n1 : numTo S (st.pos + 4) 4 = p.zs.length := by
    have e : S = (pre ++ [0, 0, 0, 3]) ++ (four p.zs.length ++ (four (whereL L p.name) ++ padL p.zs ++ post)) := by rw [hS, propT]; simp
    rw [e, show st.pos + 4 = (pre ++ [0, 0, 0, 3]).length by rw [hp]; simp]
    exact numTo_four _ _ _ (by omega)
  have n2 : numTo S (st.pos + 8) 4 = whereL L p.name := by
    have e : S = (pre ++ ([0, 0, 0, 3] ++ four p.zs.length)) ++ (four (whereL L p.name) ++ (padL p.zs ++ post)) := by rw [hS, propT]; simp
    rw [e, show st.pos + 8 = (pre ++ ([0, 0, 0, 3] ++ four p.zs.length)).length by rw [hp]; simp [four]]
    exact numTo_four _ _ _ (by omega)
  have hv : (S.drop (st.pos + 12)).take p.zs.length = p.zs := by
    have e : S = (pre ++ ([0, 0, 0, 3] ++ (four p.zs.length ++ four (whereL L p.name)))) ++ (p.zs ++ (List.replicate (padN p.zs.length) 0 ++ post)) := by rw [hS, propT, padL]; simp
    rw [e, show st.pos + 12 = (pre ++ ([0, 0, 0, 3] ++ (four p.zs.length ++ four (whereL L p.name)))).length by rw [hp]; simp [four], List.drop_left, List.take_left]
  have hb2 : behind S (st.pos + 12 + p.zs.length) = some (pre.length + (propT L p).length) := by
    have e : S = (pre ++ ([0, 0, 0, 3] ++ (four p.zs.length ++ (four (whereL L p.name) ++ p.zs)))) ++ (List.replicate (padN p.zs.length) 0 ++ post) := by rw [hS, propT, padL]; simp
    rw [e, behind_app _ _ _ (padN p.zs.length) (by rw [hp]; simp [four]; omega) ?_]
    · simp only [propT, List.length_append, padL_length, four, List.length_cons, List.length_nil, hp]
      congr 1; omega
    · rw [List.length_append, padN_shift h4]
      have e3 : ([0, 0, 0, 3] ++ (four (p.zs.length : Int) ++ (four (whereL L p.name : Int) ++ p.zs)) : List Int).length = 12 + p.zs.length := by simp [four]; omega
      rw [e3, padN_shift (by decide)]
  obtain ⟨a, b, t1, t2⟩ := where_split L p.name hL
  have ht : textFrom T (whereL L p.name) = some (strB p.name) := by
    rw [hT, t1]; exact textFrom_app _ _ _ (propB_nz hn) _ t2
  refine Goes.one (k := 3) (by rw [hS, propT, e1, List.append_assoc]; exact tokAt_app _ _ _ (by decide) _ hp) ?_ (by decide) ?_
  · simp [standB, hb, hk]
  · have e2 : readF S T st 3 = propF S T st := by simp [readF]
    rw [e2, propF, if_pos (by omega), n1, n2, if_neg (by omega), Int.toNat_natCast, Int.toNat_natCast, hb2]
    simp only [ht, strOf_strB, hv]
    rw [if_neg (by rw [hn]; decide), if_neg (by rw [hasS_iff]; exact hd)]
    rfl

theorem end_go {S T pre post : List Int} {st : PSt} {f : PF} {r : List PF} (hS : S = pre ++ ([0, 0, 0, 2] ++ post)) (hp : st.pos = pre.length) (hb : st.below = f :: r) :
    Goes S T st ⟨pre.length + 4, { f with kids := f.kids ++ [st.top.done] }, r⟩ 1 := by
  have e1 : ([0, 0, 0, 2] : List Int) = four 2 := by decide
  refine Goes.one (k := 2) (by rw [hS, e1]; exact tokAt_app _ _ _ (by decide) _ hp) ?_ (by decide) ?_
  · simp [standB, hb]
  · simp [readF, leaveF, skipF, hb, hp]

/-! ### A node -/
theorem wrongL_zero {d : Int} : ∀ {l : List Nd}, wrongL l d = 0 → ∀ k ∈ l, wrongN k d = 0
  | [], _, k, hk => by cases hk
  | x :: r, h, k, hk => by
    unfold wrongL at h
    by_cases hx : wrongN x d = 0
    · rw [if_pos hx] at h
      rcases List.mem_cons.1 hk with rfl | hk
      · exact hx
      · exact wrongL_zero h k hk
    · rw [if_neg hx] at h
      exact absurd h hx
structure Formed (n : Nd) (d : Int) : Prop where
  deep : d ≤ 16
  name : nameOk n d = true
  props : ∀ p ∈ n.props, propB p.name = true
  once : (n.props.map PV.name).Nodup
  twice : (n.kids.map Nd.name).Nodup
  kids : ∀ k ∈ n.kids, wrongN k (d + 1) = 0
theorem formed_of {n : Nd} {d : Int} (h : wrongN n d = 0) : Formed n d := by
  rw [wrongN_mk] at h
  by_cases ha : aloneE n d = 0
  · rw [if_pos ha] at h
    unfold aloneE at ha
    by_cases h1 : 16 < d
    · rw [if_pos h1] at ha; omega
    rw [if_neg h1] at ha
    by_cases h2 : nameOk n d = false
    · rw [if_pos h2] at ha; omega
    rw [if_neg h2] at ha
    by_cases h3 : n.props.any misP = true
    · rw [if_pos h3] at ha; omega
    rw [if_neg h3] at ha
    by_cases h4 : twiceB (n.props.map PV.name) = true
    · rw [if_pos h4] at ha; omega
    rw [if_neg h4] at ha
    by_cases h5 : twiceB (n.kids.map Nd.name) = true
    · rw [if_pos h5] at ha; omega
    refine ⟨by omega, by simpa using h2, fun p hp => ?_, by simpa [twiceB] using h4, by simpa [twiceB] using h5, wrongL_zero h⟩
    simp only [List.any_eq_true, not_exists, not_and] at h3
    have := h3 p hp
    simpa [misP] using this
  · rw [if_neg ha] at h
    exact absurd h ha
theorem Formed.ok {n : Nd} {d : Nat} (h : Formed n (d : Int)) : okName n.name d = true := by
  have := h.name
  unfold nameOk at this
  unfold okName
  by_cases h1 : d = 1
  · subst h1; simpa using this
  · rw [if_neg h1]; rw [if_neg (by omega)] at this; exact this
theorem Formed.nz {n : Nd} {d : Int} (h : Formed n d) : (0 : Int) ∉ strB n.name := by
  have := h.name
  unfold nameOk at this
  by_cases h1 : d = 1
  · rw [if_pos h1] at this
    have e : n.name.data.toList = [] := by rw [← Lib.toList_data]; simpa using this
    simp [strB, e]
  · rw [if_neg h1] at this
    exact nodeB_nz this

theorem props_go {S T : List Int} {L : List ByteArray} (hT : T = textB L) {f0 : PF} {below : List PF} (hb : 0 < below.length) (hk : f0.kids.length = 0) : ∀ (ps : List PV) (pre post : List Int) (acc : List (ByteArray × List Int)),
    S = pre ++ (ps.flatMap (propT L) ++ post) → (∀ p ∈ ps, p.name ∈ L ∧ propB p.name = true) → pre.length % 4 = 0 → (∀ p ∈ ps, p.name ∉ acc.map Prod.fst) → (ps.map PV.name).Nodup →
    Goes S T ⟨pre.length, { f0 with props := acc }, below⟩ ⟨pre.length + (ps.flatMap (propT L)).length, { f0 with props := acc ++ ps.map PV.pure }, below⟩ ps.length
  | [], pre, post, acc, _, _, _, _, _ => by simpa using Goes.refl S T _
  | p :: r, pre, post, acc, hS, hp, h4, hd, hu => by
    have hS1 : S = pre ++ (propT L p ++ (r.flatMap (propT L) ++ post)) := by rw [hS]; simp
    have g1 := prop_go (st := ⟨pre.length, { f0 with props := acc }, below⟩) hS1 hT (hp p (by simp)).1 rfl h4 hb hk (hp p (by simp)).2 (hd p (by simp))
    rw [List.map_cons, List.nodup_cons] at hu
    have hm : (propT L p).length % 4 = 0 := by
      simp only [propT, List.length_append, padL_length, four, List.length_cons, List.length_nil]
      unfold padN; omega
    have g2 := props_go (S := S) hT hb hk r (pre ++ propT L p) post (acc ++ [p.pure]) (hS1.trans (by simp)) (fun q hq => hp q (by simp [hq])) (by rw [List.length_append]; omega) (fun q hq => by
      rw [List.map_append]
      simp only [List.map_cons, List.map_nil, List.mem_append, List.mem_singleton, not_or]
      refine ⟨hd q (by simp [hq]), ?_⟩
      intro e
      exact hu.1 (by rw [← show q.name = p.name from e]; exact List.mem_map_of_mem hq)) hu.2
    rw [List.length_append] at g2
    have g := g1.trans g2
    simp only [List.flatMap_cons, List.length_append, List.map_cons, List.length_cons, List.append_assoc, List.cons_append, List.nil_append] at g ⊢
    rw [Nat.add_assoc, Nat.add_comm 1 r.length] at g
    exact g

/-- The names of its properties are among those. -/
inductive NamesIn (L : List ByteArray) : Nd → Prop
  | mk (n : Nd) (h : ∀ p ∈ n.props, p.name ∈ L) (hk : ∀ k ∈ n.kids, NamesIn L k) : NamesIn L n
theorem NamesIn.prop {L : List ByteArray} {n : Nd} : NamesIn L n → ∀ p ∈ n.props, p.name ∈ L
  | .mk _ h _ => h
theorem NamesIn.kid {L : List ByteArray} {n : Nd} : NamesIn L n → ∀ k ∈ n.kids, NamesIn L k
  | .mk _ _ h => h
theorem padL_mod4 (b : List Int) : (padL b).length % 4 = 0 := by rw [padL_length]; unfold padN; omega
theorem props_mod4 (L : List ByteArray) : ∀ ps : List PV, (ps.flatMap (propT L)).length % 4 = 0 ∧ 4 * ps.length ≤ (ps.flatMap (propT L)).length
  | [] => by simp
  | p :: r => by
    have h := props_mod4 L r
    have hm : (propT L p).length % 4 = 0 ∧ 4 ≤ (propT L p).length := by
      simp only [propT, List.length_append, padL_length, four, List.length_cons, List.length_nil]
      unfold padN; omega
    rw [List.flatMap_cons, List.length_append, List.length_cons]
    omega

theorem Goes.cast {S T : List Int} {a a' b b' : PSt} {m m' : Nat} (h : Goes S T a b m) (ha : a = a') (hb : b = b') (hm : m = m') : Goes S T a' b' m' := by
  subst ha hb hm; exact h
theorem pst {p p' : Nat} {t : PF} {b : List PF} (h : p = p') : (⟨p, t, b⟩ : PSt) = ⟨p', t, b⟩ := by rw [h]

/-- What a node's tokens do to the reader. -/
def NodeGo (S T : List Int) (L : List ByteArray) (n : Nd) : Prop := ∀ (pre post : List Int) (st : PSt), wrongN n ((st.below.length + 1 : Nat) : Int) = 0 → NamesIn L n → S = pre ++ (nodeN L n ++ post) → pre.length % 4 = 0 → st.pos = pre.length → n.name ∉ st.top.taken → (0 < st.below.length ∨ st.top.kids.length = 0) →
  (nodeN L n).length % 4 = 0 ∧ ∃ m, 4 * m ≤ (nodeN L n).length ∧ Goes S T st ⟨pre.length + (nodeN L n).length, { st.top with kids := st.top.kids ++ [pureN n], taken := st.top.taken ++ [n.name] }, st.below⟩ m

theorem kids_go {S T : List Int} {L : List ByteArray} {f0 : PF} {below : List PF} (hb : 0 < below.length) : ∀ (ks : List Nd) (pre post : List Int) (acc : List PN) (tk : List ByteArray), (∀ k ∈ ks, NodeGo S T L k ∧ wrongN k ((below.length + 1 : Nat) : Int) = 0 ∧ NamesIn L k) →
    S = pre ++ (nodeL L ks ++ post) → pre.length % 4 = 0 → (∀ k ∈ ks, k.name ∉ tk) → (ks.map Nd.name).Nodup →
    (nodeL L ks).length % 4 = 0 ∧ ∃ m tk', 4 * m ≤ (nodeL L ks).length ∧ Goes S T ⟨pre.length, { f0 with kids := acc, taken := tk }, below⟩ ⟨pre.length + (nodeL L ks).length, { f0 with kids := acc ++ ks.map pureN, taken := tk' }, below⟩ m
  | [], pre, post, acc, tk, _, _, _, _, _ => ⟨by simp [nodeL], 0, tk, by simp, by simpa [nodeL] using Goes.refl S T _⟩
  | k :: r, pre, post, acc, tk, hk, hS, h4, hd, hu => by
    have hS1 : S = pre ++ (nodeN L k ++ (nodeL L r ++ post)) := by rw [hS]; simp [nodeL]
    obtain ⟨k1, k2, k3⟩ := hk k (by simp)
    obtain ⟨a1, m1, b1, g1⟩ := k1 pre _ ⟨pre.length, { f0 with kids := acc, taken := tk }, below⟩ k2 k3 hS1 h4 rfl (hd k (by simp)) (.inl hb)
    rw [List.map_cons, List.nodup_cons] at hu
    obtain ⟨a2, m2, tk2, b2, g2⟩ := kids_go (S := S) (T := T) (f0 := f0) hb r (pre ++ nodeN L k) post (acc ++ [pureN k]) (tk ++ [k.name]) (fun q hq => hk q (by simp [hq])) (hS1.trans (by simp)) (by rw [List.length_append]; omega) (fun q hq => by
      simp only [List.mem_append, List.mem_singleton, not_or]
      exact ⟨hd q (by simp [hq]), fun e => hu.1 (by rw [← e]; exact List.mem_map_of_mem hq)⟩) hu.2
    rw [List.length_append] at g2
    have g := g1.trans g2
    refine ⟨by simp only [nodeL, List.length_append]; omega, m1 + m2, tk2, by simp only [nodeL, List.length_append]; omega, ?_⟩
    simp only [nodeL, List.length_append, List.map_cons, List.append_assoc, List.cons_append, List.nil_append, Nat.add_assoc] at g ⊢
    exact g

theorem node_go {S T : List Int} {L : List ByteArray} (hT : T = textB L) : ∀ n : Nd, NodeGo S T L n := by
  refine Nd.ind ?_
  intro n ih pre post st hw hN hS h4 hp ht hst
  have F := formed_of hw
  obtain ⟨nm, pa, pc, ps, ka, kc, ks⟩ := n
  have e : nodeN L (.mk nm pa pc ps ka kc ks) = [0, 0, 0, 1] ++ (padL (strB nm ++ [0]) ++ (ps.flatMap (propT L) ++ (nodeL L ks ++ [0, 0, 0, 2]))) := by simp [nodeN]
  rw [e] at hS ⊢
  have hS1 : S = pre ++ ([0, 0, 0, 1] ++ (padL (strB nm ++ [0]) ++ (ps.flatMap (propT L) ++ (nodeL L ks ++ ([0, 0, 0, 2] ++ post))))) := by rw [hS]; simp
  have p1 := padL_mod4 (strB nm ++ [0])
  have p2 := props_mod4 L ps
  have g1 := begin_go (T := T) hS1 hp h4 (by have := F.deep; omega) F.ok ht F.nz hst
  have g2 := props_go (S := S) (f0 := PF.new nm) (below := { st.top with taken := st.top.taken ++ [nm] } :: st.below) hT (by simp) rfl ps (pre ++ ([0, 0, 0, 1] ++ padL (strB nm ++ [0]))) (nodeL L ks ++ ([0, 0, 0, 2] ++ post)) [] (hS1.trans (by simp)) (fun p hp => ⟨hN.prop p hp, F.props p hp⟩) (by simp only [List.length_append, List.length_cons, List.length_nil]; omega) (by simp) F.once
  obtain ⟨p3, m3, tk3, b3, g3⟩ := kids_go (S := S) (T := T) (L := L) (f0 := { PF.new nm with props := ps.map PV.pure }) (below := { st.top with taken := st.top.taken ++ [nm] } :: st.below) (by simp) ks (pre ++ ([0, 0, 0, 1] ++ (padL (strB nm ++ [0]) ++ ps.flatMap (propT L)))) ([0, 0, 0, 2] ++ post) [] [] (fun k hk => ⟨ih k hk, by have := F.kids k hk; simpa using this, hN.kid k hk⟩) (hS1.trans (by simp)) (by simp only [List.length_append, List.length_cons, List.length_nil]; omega) (by simp) F.twice
  have g4 := end_go (S := S) (T := T) (pre := pre ++ ([0, 0, 0, 1] ++ (padL (strB nm ++ [0]) ++ (ps.flatMap (propT L) ++ nodeL L ks)))) (post := post) (st := ⟨(pre ++ ([0, 0, 0, 1] ++ (padL (strB nm ++ [0]) ++ (ps.flatMap (propT L) ++ nodeL L ks)))).length, { PF.new nm with props := ps.map PV.pure, kids := ks.map pureN, taken := tk3 }, { st.top with taken := st.top.taken ++ [nm] } :: st.below⟩) (hS1.trans (by simp)) rfl rfl
  refine ⟨by simp only [List.length_append, List.length_cons, List.length_nil]; omega, 1 + ps.length + m3 + 1, by simp only [List.length_append, List.length_cons, List.length_nil]; omega, ?_⟩
  have h12 := g1.trans (g2.cast (pst (by simp only [List.length_append, List.length_cons, List.length_nil])) rfl rfl)
  have h123 := h12.trans (g3.cast (pst (by simp only [List.length_append, List.length_cons, List.length_nil]; omega)) rfl rfl)
  have h := h123.trans (g4.cast (pst (by simp only [List.length_append, List.length_cons, List.length_nil]; omega)) rfl rfl)
  refine h.cast rfl ?_ rfl
  have e4 : pureN (.mk nm pa pc ps ka kc ks) = .mk nm (ps.map PV.pure) (ks.map pureN) := pureN_mk _
  rw [e4]
  exact pst (by simp only [List.length_append, List.length_cons, List.length_nil]; omega)

/-- A structure's root. -/
theorem root_back {L : List ByteArray} {n : Nd} (hw : wrongN n 1 = 0) (hN : NamesIn L n) (S : List Int) (hS : S = nodeN L n ++ [0, 0, 0, 9]) : rootF S (textB L) (S.length + 1) start = .ok (pureN n) := by
  obtain ⟨h4, m, hm, g⟩ := node_go (S := S) (L := L) rfl n [] [0, 0, 0, 9] start hw hN (by rw [hS]; simp) (by simp) rfl (by simp [start, PF.new]) (.inr rfl)
  have hl : S.length = (nodeN L n).length + 4 := by rw [hS]; simp
  obtain ⟨r, hr⟩ : ∃ r, S.length + 1 = m + (r + 1) := ⟨S.length - m, by omega⟩
  rw [hr, g]
  have e9 : ([0, 0, 0, 9] : List Int) = four 9 := by decide
  have ht : tokAt S (nodeN L n).length = some 9 := by
    have e : S = nodeN L n ++ (four 9 ++ []) := by rw [hS, e9]; simp
    rw [e]
    exact tokAt_app _ _ _ (by decide) _ rfl
  rw [rootF]
  simp only [start, PF.new, List.length_nil, List.nil_append, List.length_cons, Nat.zero_add]
  rw [ht]
  dsimp only
  rw [if_neg (by decide)]
  have e : ∀ st, readF S (textB L) st 9 = .ok (skipF st) := fun st => by simp [readF]
  rw [e]
  dsimp only
  rw [if_pos rfl]
  exact (if_pos (show (nodeN L n).length + 4 = S.length by omega)).trans rfl

/-! ### The texts hold every name -/
theorem addT_sub {l : List ByteArray} {s x : ByteArray} (h : x ∈ l) : x ∈ addT l s := by
  unfold addT; split
  · exact h
  · exact List.mem_append_left _ h
theorem addT_mem (l : List ByteArray) (s : ByteArray) : s ∈ addT l s := by
  unfold addT; split
  · rename_i h
    unfold hasT at h
    obtain ⟨x, h1, h2⟩ := List.any_eq_true.1 h
    rw [← of_decide_eq_true h2]; exact h1
  · exact List.mem_append_right _ (List.mem_singleton_self _)
theorem fold_sub {x : ByteArray} : ∀ (ns l : List ByteArray), (x ∈ l ∨ x ∈ ns) → x ∈ ns.foldl addT l
  | [], l, h => by simpa using h
  | s :: r, l, h => by
    rw [List.foldl_cons]
    refine fold_sub r _ ?_
    rcases h with h | h
    · exact .inl (addT_sub h)
    · rcases List.mem_cons.1 h with rfl | h
      · exact .inl (addT_mem l x)
      · exact .inr h
theorem NamesIn.mono {L L' : List ByteArray} (hL : ∀ x ∈ L, x ∈ L') : ∀ n : Nd, NamesIn L n → NamesIn L' n := by
  refine Nd.ind ?_
  intro n ih h
  exact .mk n (fun p hp => hL _ (h.prop p hp)) (fun k hk => ih k hk (h.kid k hk))
theorem textsN_all : ∀ (n : Nd) (l : List ByteArray), (∀ x ∈ l, x ∈ textsN n l) ∧ NamesIn (textsN n l) n := by
  refine Nd.ind ?_
  intro n ih l
  obtain ⟨nm, pa, pc, ps, ka, kc, ks⟩ := n
  have hk : ∀ (r : List Nd), (∀ k ∈ r, k ∈ ks) → ∀ l, (∀ x ∈ l, x ∈ textsL r l) ∧ ∀ k ∈ r, NamesIn (textsL r l) k := by
    intro r
    induction r with
    | nil => intro _ l; exact ⟨fun x hx => by simpa [textsL] using hx, fun k hk => by cases hk⟩
    | cons k r ihr =>
      intro hr l
      have h1 := ih k (hr k (by simp)) l
      have h2 := ihr (fun x hx => hr x (by simp [hx])) (textsN k l)
      rw [textsL]
      refine ⟨fun x hx => h2.1 x (h1.1 x hx), fun q hq => ?_⟩
      rcases List.mem_cons.1 hq with rfl | hq
      · exact NamesIn.mono h2.1 _ h1.2
      · exact h2.2 q hq
  have h := hk ks (fun _ h => h) ((ps.map PV.name).foldl addT l)
  rw [textsN]
  exact ⟨fun x hx => h.1 x (fold_sub _ _ (.inl hx)), .mk _ (fun p hp => h.1 _ (fold_sub _ _ (.inr (List.mem_map_of_mem hp)))) (fun k hk' => h.2 k hk')⟩
end Go.Proofs.Ytnopcnbeklbfoaa

/-! Layer 5: what a formed tree's whole bytes say. -/
namespace Go.Proofs.Ytnopcnbeklbfoaa
open Go.RowKit
set_option linter.unusedVariables false
set_option linter.unusedSimpArgs false

theorem numTo_eight (a b : List Int) (v : Int) (h0 : 0 ≤ v) (k : Nat) (hk : k = a.length) : numTo (a ++ (eight v ++ b)) k 8 = v := by
  subst hk
  have e : ∀ i, (a ++ (eight v ++ b)).getD (a.length + i) 0 = (eight v ++ b).getD i 0 := fun i => by
    simp [List.getD, List.getElem?_append_right]
  simp only [numTo, e]
  simp only [eight, four, List.cons_append, List.nil_append, List.getD_cons_zero, List.getD_cons_succ]
  omega

theorem eight_length (v : Int) : (eight v).length = 8 := rfl

theorem resF_go {zs : List Int} : ∀ (rs : List (Int × Int)) (pre post : List Int) (acc : List (Int × Int)) (f : Nat), zs = pre ++ (resL rs ++ (List.replicate 16 0 ++ post)) → (∀ r ∈ rs, 0 ≤ r.1 ∧ 0 ≤ r.2 ∧ ¬ (r.1 = 0 ∧ r.2 = 0)) → acc.length + rs.length ≤ 64 → rs.length < f →
    resF zs f pre.length acc = .ok (acc ++ rs)
  | _, _, _, _, 0, _, _, _, h => by omega
  | [], pre, post, acc, f + 1, hz, _, hl, _ => by
    have e0 : (List.replicate 16 0 : List Int) = eight 0 ++ eight 0 := by decide
    have e1 : zs = pre ++ (eight 0 ++ (eight 0 ++ post)) := by rw [hz, e0]; simp [resL]
    have e2 : zs = (pre ++ eight 0) ++ (eight 0 ++ post) := by rw [e1]; simp
    have n1 : numTo zs pre.length 8 = 0 := by rw [e1]; exact numTo_eight _ _ 0 (by decide) _ rfl
    have n2 : numTo zs (pre.length + 8) 8 = 0 := by rw [e2]; exact numTo_eight _ _ 0 (by decide) _ (by simp [eight_length])
    have hzl : pre.length + 16 ≤ zs.length := by rw [e1]; simp only [List.length_append, eight_length]; omega
    rw [resF, if_pos hzl, n1, n2, if_pos ⟨rfl, rfl⟩, if_neg (by simp at hl; omega), List.append_nil]
  | r :: l, pre, post, acc, f + 1, hz, hr, hl, hf => by
    have e1 : zs = pre ++ (eight r.1 ++ (eight r.2 ++ (resL l ++ (List.replicate 16 0 ++ post)))) := by rw [hz]; simp [resL]
    have e2 : zs = (pre ++ eight r.1) ++ (eight r.2 ++ (resL l ++ (List.replicate 16 0 ++ post))) := by rw [e1]; simp
    have h0 := hr r (by simp)
    have n1 : numTo zs pre.length 8 = r.1 := by rw [e1]; exact numTo_eight _ _ _ h0.1 _ rfl
    have n2 : numTo zs (pre.length + 8) 8 = r.2 := by rw [e2]; exact numTo_eight _ _ _ h0.2.1 _ (by simp [eight_length])
    have hzl : pre.length + 16 ≤ zs.length := by rw [e1]; simp only [List.length_append, eight_length]; omega
    have ih := resF_go (zs := zs) l (pre ++ (eight r.1 ++ eight r.2)) post (acc ++ [r]) f (e1.trans (by simp)) (fun q hq => hr q (by simp [hq])) (by simp only [List.length_append, List.length_cons, List.length_nil] at hl ⊢; omega) (by simp only [List.length_cons] at hf; omega)
    rw [resF, if_pos hzl, n1, n2, if_neg h0.2.2]
    have e3 : (pre ++ (eight r.1 ++ eight r.2)).length = pre.length + 16 := by simp only [List.length_append, eight_length]
    rw [e3] at ih
    rw [ih]; simp

/-- What a tree is in which nothing is wrong. -/
theorem check_zero {t : Tr} (h : checkE t = 0) : wrongN t.root 1 = 0 ∧ t.rs.length ≤ 64 ∧ t.rs.any zeroR = false := by
  unfold checkE at h
  by_cases h1 : wrongN t.root 1 = 0
  · rw [if_pos h1] at h
    unfold manyE at h
    by_cases h2 : 4096 < wrap64 (nodesN t.root) ∨ 8192 < wrap64 (propsN t.root) ∨ 64 < t.rs.length
    · rw [if_pos h2] at h; omega
    · rw [if_neg h2] at h
      by_cases h3 : t.rs.any zeroR = true
      · rw [if_pos h3] at h; omega
      · refine ⟨h1, ?_, by simpa using h3⟩
        exact Nat.le_of_not_lt (fun h4 => h2 (.inr (.inr h4)))
  · rw [if_neg h1] at h; exact absurd h h1

/-- What a formed tree's bytes say is the tree. -/
theorem read_blob (t : Tr) (hb : 0 ≤ t.boot ∧ t.boot ≤ 4294967295) (hr : ∀ r ∈ t.rs, 0 ≤ r.1 ∧ 0 ≤ r.2) (hc : checkE t = 0) (hlen : (blobT t).length ≤ 4294967295) : readAll (blobT t) = .ok (t.rs, pureN t.root) := by
  obtain ⟨h1, h2, h3⟩ := check_zero hc
  have hl : 40 + (reserveT t).length + (structT t).length + (textB (textsT t)).length ≤ 4294967295 := by
    have e := blob_length t
    simp only [headT, List.getD_cons_zero, List.getD_cons_succ] at e
    omega
  have H := blob_head t hb hl
  have hrl : (reserveT t).length = 16 * t.rs.length + 16 := by simp [reserveT, resL_length]
  obtain ⟨F, hF⟩ : ∃ F, fours (fun k => (headT t k : Int)) 10 = F := ⟨_, rfl⟩
  have hF40 : F.length = 40 := by rw [← hF, fours_length]
  have eB : blobT t = F ++ (reserveT t ++ (structT t ++ textB (textsT t))) := by rw [← hF]; rfl
  unfold readAll
  rw [H 4 (by decide), H 2 (by decide), H 9 (by decide), H 3 (by decide), H 8 (by decide)]
  simp only [headT, List.getD_cons_zero, List.getD_cons_succ, Int.toNat_natCast]
  have r1 : resF (blobT t) ((blobT t).length + 1) 40 [] = .ok t.rs := by
    have h := resF_go (zs := blobT t) t.rs F (structT t ++ textB (textsT t)) [] ((blobT t).length + 1) (by rw [eB, reserveT]; simp) (fun r hr' => ⟨(hr r hr').1, (hr r hr').2, fun hz => by
      have : t.rs.any zeroR = true := List.any_eq_true.2 ⟨r, hr', by simp [zeroR, hz.1, hz.2]⟩
      rw [h3] at this; cases this⟩) (by simpa using h2) (by rw [eB]; simp only [List.length_append]; omega)
    rw [hF40] at h
    simpa using h
  rw [r1]
  have p1 : partL (blobT t) (40 + (reserveT t).length) (structT t).length = structT t := by
    have e : blobT t = (F ++ reserveT t) ++ (structT t ++ textB (textsT t)) := by rw [eB]; simp
    rw [partL, e, show 40 + (reserveT t).length = (F ++ reserveT t).length by simp [hF40], List.drop_left, List.take_left]
  have p2 : partL (blobT t) (40 + (reserveT t).length + (structT t).length) (textB (textsT t)).length = textB (textsT t) := by
    have e : blobT t = (F ++ (reserveT t ++ structT t)) ++ textB (textsT t) := by rw [eB]; simp
    rw [partL, e, show 40 + (reserveT t).length + (structT t).length = (F ++ (reserveT t ++ structT t)).length by simp [hF40]; omega, List.drop_left, List.take_length]
  rw [p1, p2]
  dsimp only
  have h := root_back (L := textsT t) h1 (textsN_all t.root []).2 (structT t) rfl
  rw [h]

/-- A formed tree's header is none that is refused. -/
theorem head_blob (t : Tr) (hb : 0 ≤ t.boot ∧ t.boot ≤ 4294967295) (hlen : (blobT t).length ≤ 4294967295) :
    headE (blobT t).length (hcell (blobT t) 0) (hcell (blobT t) 1) (hcell (blobT t) 2) (hcell (blobT t) 3) (hcell (blobT t) 4) (hcell (blobT t) 5) (hcell (blobT t) 6) (hcell (blobT t) 8) (hcell (blobT t) 9) = 0 := by
  have e := blob_length t
  simp only [headT, List.getD_cons_zero, List.getD_cons_succ] at e
  have hl : 40 + (reserveT t).length + (structT t).length + (textB (textsT t)).length ≤ 4294967295 := by omega
  have hrl : (reserveT t).length = 16 * t.rs.length + 16 := by simp [reserveT, resL_length]
  have H := blob_head t hb hl
  rw [H 0 (by decide), H 1 (by decide), H 2 (by decide), H 3 (by decide), H 4 (by decide), H 5 (by decide), H 6 (by decide), H 8 (by decide), H 9 (by decide)]
  simp only [headT, List.getD_cons_zero, List.getD_cons_succ]
  rw [headE, if_pos (by decide), if_pos (by decide), if_pos]
  refine ⟨by rw [e], ?_⟩
  simp only [parts, within, Bool.and_eq_true, decide_eq_true_eq]
  omega
end Go.Proofs.Ytnopcnbeklbfoaa

/-! Texts of bytes that are shown; bytes.Equal. -/
namespace Go.Proofs.Ytnopcnbeklbfoaa
open Go.RowKit
set_option linter.unusedVariables false
set_option linter.unusedSimpArgs false

/-- 'string(b)' of bytes that are shown. -/
theorem run_string {w : World} {B n : Nat} {A : Option Addr} {zs : List Int} (h : Shows w B A n zs) (c : Nat) :
    (convert 26 9 (.slice A n c)).run Try.prog w = .ok (.string (strOfNums zs)) w := by
  rcases Nat.eq_zero_or_pos n with rfl | h0
  · obtain rfl : zs = [] := List.eq_nil_of_length_eq_zero h.1
    rcases A with _ | ⟨b, o, s⟩
    · exact run_convert_bytes_nil w 26 5 Try.underlying26 Try.underlying5 0 c _ Try.underlying9
    · rw [run_convert_bytes_string w 26 9 5 _ 0 c Try.underlying26 Try.underlying5 Try.underlying9,
        run_bytesToString w _ 0 c [] (by simpa using run_loadCells_list (P := Try.prog) w ⟨b, o, s⟩ [] (by simp))]
      rfl
  · obtain ⟨b, o, rfl, _, hc⟩ := h.at_ h0
    exact run_convert_bytes_arg w 26 5 Try.underlying26 Try.underlying5 b o n c zs h.1 hc _ Try.underlying9

theorem nums_inj : ∀ {xs ys : List Int}, (∀ z ∈ xs, 0 ≤ z ∧ z < 256) → (∀ z ∈ ys, 0 ≤ z ∧ z < 256) → (xs.map fun n => UInt8.ofNat n.toNat) = (ys.map fun n => UInt8.ofNat n.toNat) → xs = ys
  | [], [], _, _, _ => rfl
  | [], _ :: _, _, _, h => by simp at h
  | _ :: _, [], _, _, h => by simp at h
  | x :: xs, y :: ys, hx, hy, h => by
    simp only [List.map_cons, List.cons.injEq] at h
    have h1 := hx x (List.mem_cons_self ..)
    have h2 := hy y (List.mem_cons_self ..)
    have h3 := congrArg UInt8.toNat h.1
    simp only [UInt8.toNat_ofNat'] at h3
    rw [nums_inj (fun z hz => hx z (List.mem_cons_of_mem _ hz)) (fun z hz => hy z (List.mem_cons_of_mem _ hz)) h.2]
    congr 1
    omega

/-- Texts of bytes are the same just if the bytes are. -/
theorem str_eqz {xs ys : List Int} (hx : ∀ z ∈ xs, 0 ≤ z ∧ z < 256) (hy : ∀ z ∈ ys, 0 ≤ z ∧ z < 256) : ((strOfNums xs).toList == (strOfNums ys).toList) = decide (xs = ys) := by
  rw [Lib.toList_data, Lib.toList_data, strOfNums_data, strOfNums_data, Bool.eq_iff_iff, beq_iff_eq, decide_eq_true_iff]
  exact ⟨nums_inj hx hy, fun h => by rw [h]⟩
theorem str_eqb (x y : ByteArray) : (x.toList == y.toList) = decide (x = y) := by
  by_cases h : x = y
  · subst h; simp
  · rw [str_ne h, decide_eq_false h]

theorem bequal_any (A A' : Option Addr) (n n' c c' B B' : Nat) (xs ys : List Int) (w : World) (hx : Shows w B A n xs) (hy : Shows w B' A' n' ys) (r : Bool) (hr : decide (xs = ys) = r) :
    Calls Try.prog 37 #[.slice A n c, .slice A' n' c'] w fun e w' => e = .returned (.bool r) ∧ w' = w := by
  have e1 := run_string hx c
  have e2 := run_string hy c'
  have hr' : ((strOfNums xs).toList == (strOfNums ys).toList) = r := (str_eqz hx.2.1 hy.2.1).trans hr
  clear hx hy hr
  go_enter Try.func37, Try.ntmps37
  go_wp2
  go_ret
  exact ⟨rfl, rfl⟩
end Go.Proofs.Ytnopcnbeklbfoaa

/-! Whether two nodes, and all below them, are the same: the functions alone. -/
namespace Go.Proofs.Ytnopcnbeklbfoaa
open Go.RowKit
set_option linter.unusedVariables false
set_option linter.unusedSimpArgs false

/-- Two properties are the same. -/
def sameP (p q : PV) : Bool := decide (p.name = q.name) && decide (p.zs = q.zs)
def all2 {α : Type} (f : α → α → Bool) : List α → List α → Bool
  | [], [] => true
  | p :: l, q :: r => f p q && all2 f l r
  | _, _ => false
theorem all2_len {α : Type} {f : α → α → Bool} : ∀ {l r : List α}, all2 f l r = true → l.length = r.length
  | [], [], _ => rfl
  | [], _ :: _, h => by simp [all2] at h
  | _ :: _, [], h => by simp [all2] at h
  | p :: l, q :: r, h => by
    simp only [all2, Bool.and_eq_true] at h
    simp [all2_len h.2]
theorem all2_at {α : Type} {f : α → α → Bool} : ∀ {l r : List α}, all2 f l r = true → ∀ (k : Nat) (h1 : k < l.length) (h2 : k < r.length), f l[k] r[k] = true
  | p :: l, q :: r, h, 0, _, _ => by simp only [all2, Bool.and_eq_true] at h; exact h.1
  | p :: l, q :: r, h, k + 1, h1, h2 => by
    simp only [all2, Bool.and_eq_true] at h
    exact all2_at h.2 k (by simpa using h1) (by simpa using h2)
theorem all2_mk {α : Type} {f : α → α → Bool} : ∀ {l r : List α}, l.length = r.length → (∀ (k : Nat) (h1 : k < l.length) (h2 : k < r.length), f l[k] r[k] = true) → all2 f l r = true
  | [], [], _, _ => rfl
  | [], _ :: _, h, _ => by simp at h
  | _ :: _, [], h, _ => by simp at h
  | p :: l, q :: r, hl, h => by
    have h0 : f p q = true := h 0 (by simp) (by simp)
    simp only [all2, Bool.and_eq_true]
    exact ⟨h0, all2_mk (by simpa using hl) (fun k h1 h2 => h (k + 1) (by simpa using h1) (by simpa using h2))⟩
theorem all2_bad {α : Type} {f : α → α → Bool} {l r : List α} (k : Nat) (h1 : k < l.length) (h2 : k < r.length) (h : f l[k] r[k] = false) : all2 f l r = false := by
  rcases hb : all2 f l r with _ | _
  · rfl
  · rw [all2_at hb k h1 h2] at h; cases h
theorem all2_lens {α : Type} {f : α → α → Bool} {l r : List α} (h : l.length ≠ r.length) : all2 f l r = false := by
  rcases hb : all2 f l r with _ | _
  · rfl
  · exact absurd (all2_len hb) h

/-- The first k pairs are the same. -/
def Even {α : Type} (f : α → α → Bool) (l r : List α) (k : Nat) : Prop := ∀ j (h1 : j < l.length) (h2 : j < r.length), j < k → f l[j] r[j] = true
theorem Even.zero {α : Type} (f : α → α → Bool) (l r : List α) : Even f l r 0 := fun _ _ _ h => absurd h (Nat.not_lt_zero _)
theorem Even.succ {α : Type} {f : α → α → Bool} {l r : List α} {k : Nat} (h : Even f l r k) (h1 : k < l.length) (h2 : k < r.length) (he : f l[k] r[k] = true) : Even f l r (k + 1) := fun j h1' h2' hj => by
  rcases Nat.lt_succ_iff_lt_or_eq.1 hj with h' | rfl
  · exact h j h1' h2' h'
  · exact he
theorem Even.all {α : Type} {f : α → α → Bool} {l r : List α} {k : Nat} (h : Even f l r k) (hl : l.length = r.length) (hk : ¬ k < l.length) : all2 f l r = true := all2_mk hl fun j h1 h2 => h j h1 h2 (by omega)

mutual
/-- Two nodes, and all below them, are the same. -/
def sameB : Nd → Nd → Bool
  | .mk n _ _ p _ _ k, m => decide (n = m.name) && all2 sameP p m.props && sameL k m.kids
def sameL : List Nd → List Nd → Bool
  | [], [] => true
  | a :: l, b :: r => sameB a b && sameL l r
  | [], _ :: _ => false
  | _ :: _, [] => false
end
theorem sameL_all2 : ∀ l r : List Nd, sameL l r = all2 sameB l r
  | [], [] => rfl
  | a :: l, b :: r => by rw [sameL, all2, sameL_all2 l r]
  | [], _ :: _ => rfl
  | _ :: _, [] => rfl
theorem sameB_mk (n m : Nd) : sameB n m = (decide (n.name = m.name) && all2 sameP n.props m.props && all2 sameB n.kids m.kids) := by
  cases n
  rw [sameB, sameL_all2]
  rfl

/-- Two reserves are the same. -/
def sameR (p q : Int × Int) : Bool := decide (p.1 = q.1) && decide (p.2 = q.2)
/-- Two trees are the same. -/
def sameT (t u : Tr) : Bool := decide (t.boot = u.boot) && all2 sameR t.rs u.rs && sameB t.root u.root

end Go.Proofs.Ytnopcnbeklbfoaa

/-! Layer 5: what hangs on a tree without its addresses alone; how much what is read can be. -/
namespace Go.Proofs.Ytnopcnbeklbfoaa
open Go.RowKit
set_option linter.unusedVariables false
set_option linter.unusedSimpArgs false

/-- Two lists of nodes, pair by pair. -/
inductive Pairs (p : Nd → Nd → Prop) : List Nd → List Nd → Prop
  | nil : Pairs p [] []
  | cons {a b : Nd} {l r : List Nd} (h : p a b) (t : Pairs p l r) : Pairs p (a :: l) (b :: r)
theorem pairs_of {p : Nd → Nd → Prop} : ∀ (l r : List Nd), l.map pureN = r.map pureN → (∀ k ∈ l, ∀ m, pureN k = pureN m → p k m) → Pairs p l r
  | [], [], _, _ => .nil
  | [], _ :: _, h, _ => by simp at h
  | _ :: _, [], h, _ => by simp at h
  | a :: l, b :: r, h, hp => by
    rw [List.map_cons, List.map_cons, List.cons.injEq] at h
    exact .cons (hp a (by simp) b h.1) (pairs_of l r h.2 (fun k hk => hp k (by simp [hk])))
theorem pure_ind {p : Nd → Nd → Prop} (h : ∀ a b : Nd, a.name = b.name → a.props.map PV.pure = b.props.map PV.pure → a.kids.map pureN = b.kids.map pureN → Pairs p a.kids b.kids → p a b) : ∀ a b : Nd, pureN a = pureN b → p a b := by
  refine Nd.ind ?_
  intro a ih b hab
  rw [pureN_mk, pureN_mk, PN.mk.injEq] at hab
  exact h a b hab.1 hab.2.1 hab.2.2 (pairs_of _ _ hab.2.2 ih)
theorem pureN_name (n : Nd) : (pureN n).name = n.name := by rw [pureN_mk]; rfl

theorem names_pure (ps : List PV) : ps.map PV.name = (ps.map PV.pure).map Prod.fst := by rw [List.map_map]; rfl
theorem kidnames_pure (ks : List Nd) : ks.map Nd.name = (ks.map pureN).map PN.name := by
  rw [List.map_map]
  exact List.map_congr_left fun k _ => (pureN_name k).symm
theorem anyMis_pure (ps : List PV) : ps.any misP = (ps.map PV.pure).any fun x => !propB x.1 := by rw [List.any_map]; rfl
theorem toks_pure (L : List ByteArray) (ps : List PV) : ps.flatMap (propT L) = (ps.map PV.pure).flatMap fun x => propT L ⟨x.1, none, 0, x.2⟩ := by
  rw [List.flatMap_map]; rfl

theorem alone_pure {a b : Nd} (h1 : a.name = b.name) (h2 : a.props.map PV.pure = b.props.map PV.pure) (h3 : a.kids.map pureN = b.kids.map pureN) (d : Int) : aloneE a d = aloneE b d := by
  unfold aloneE nameOk
  rw [h1, anyMis_pure, anyMis_pure, h2, names_pure, names_pure, h2, kidnames_pure a.kids, h3, ← kidnames_pure]

theorem wrong_pure : ∀ a b : Nd, pureN a = pureN b → ∀ d, wrongN a d = wrongN b d := by
  refine pure_ind (p := fun a b => ∀ d, wrongN a d = wrongN b d) ?_
  intro a b h1 h2 h3 hk d
  have hl : ∀ (l r : List Nd), Pairs (fun a b => ∀ d, wrongN a d = wrongN b d) l r → ∀ d, wrongL l d = wrongL r d := by
    intro l r h
    induction h with
    | nil => intro d; rfl
    | cons h _ ih => intro d; rw [wrongL, wrongL, h d, ih d]
  rw [wrongN_mk, wrongN_mk, alone_pure h1 h2 h3, hl _ _ hk]
theorem nodesN_mk (n : Nd) : nodesN n = 1 + nodesL n.kids := by cases n; rw [nodesN]; rfl
theorem propsN_mk (n : Nd) : propsN n = n.props.length + propsL n.kids := by cases n; rw [propsN]; rfl
theorem nodeN_mk (L : List ByteArray) (n : Nd) : nodeN L n = [0, 0, 0, 1] ++ padL (strB n.name ++ [0]) ++ n.props.flatMap (propT L) ++ nodeL L n.kids ++ [0, 0, 0, 2] := by cases n; rw [nodeN]; rfl
theorem textsN_mk (n : Nd) (l : List ByteArray) : textsN n l = textsL n.kids ((n.props.map PV.name).foldl addT l) := by cases n; rw [textsN]; rfl
theorem heftN_mk (n : Nd) : heftN n = 16 + n.name.size + (n.props.map heftP).sum + heftL n.kids := by cases n; rw [heftN]; rfl
theorem count_pure : ∀ a b : Nd, pureN a = pureN b → nodesN a = nodesN b ∧ propsN a = propsN b := by
  refine pure_ind (p := fun a b => nodesN a = nodesN b ∧ propsN a = propsN b) ?_
  intro a b h1 h2 h3 hk
  have hl : ∀ (l r : List Nd), Pairs (fun a b => nodesN a = nodesN b ∧ propsN a = propsN b) l r → nodesL l = nodesL r ∧ propsL l = propsL r := by
    intro l r h
    induction h with
    | nil => exact ⟨rfl, rfl⟩
    | cons h _ ih => rw [nodesL, nodesL, propsL, propsL, h.1, h.2, ih.1, ih.2]; exact ⟨rfl, rfl⟩
  have e := congrArg List.length h2
  rw [List.length_map, List.length_map] at e
  rw [nodesN_mk, nodesN_mk, propsN_mk, propsN_mk, (hl _ _ hk).1, (hl _ _ hk).2, e]
  exact ⟨rfl, rfl⟩
theorem tokens_pure (L : List ByteArray) : ∀ a b : Nd, pureN a = pureN b → nodeN L a = nodeN L b := by
  refine pure_ind (p := fun a b => nodeN L a = nodeN L b) ?_
  intro a b h1 h2 h3 hk
  have hl : ∀ (l r : List Nd), Pairs (fun a b => nodeN L a = nodeN L b) l r → nodeL L l = nodeL L r := by
    intro l r h
    induction h with
    | nil => rfl
    | cons h _ ih => rw [nodeL, nodeL, h, ih]
  rw [nodeN_mk, nodeN_mk, h1, toks_pure, toks_pure, h2, hl _ _ hk]
theorem texts_pure : ∀ a b : Nd, pureN a = pureN b → ∀ l, textsN a l = textsN b l := by
  refine pure_ind (p := fun a b => ∀ l, textsN a l = textsN b l) ?_
  intro a b h1 h2 h3 hk l
  have hl : ∀ (l r : List Nd), Pairs (fun a b => ∀ l, textsN a l = textsN b l) l r → ∀ x, textsL l x = textsL r x := by
    intro l r h
    induction h with
    | nil => intro x; rfl
    | cons h _ ih => intro x; rw [textsL, textsL, h x, ih]
  rw [textsN_mk, textsN_mk, names_pure, names_pure, h2, hl _ _ hk]
theorem sameP_pure : ∀ (l r : List PV), l.map PV.pure = r.map PV.pure → all2 sameP l r = true
  | [], [], _ => rfl
  | [], _ :: _, h => by simp at h
  | _ :: _, [], h => by simp at h
  | a :: l, b :: r, h => by
    rw [List.map_cons, List.map_cons, List.cons.injEq] at h
    have h1 : a.name = b.name ∧ a.zs = b.zs := by simpa [PV.pure] using h.1
    rw [all2, sameP, decide_eq_true h1.1, decide_eq_true h1.2, sameP_pure l r h.2]
    rfl
theorem same_pure : ∀ a b : Nd, pureN a = pureN b → sameB a b = true := by
  refine pure_ind (p := fun a b => sameB a b = true) ?_
  intro a b h1 h2 h3 hk
  have hl : ∀ (l r : List Nd), Pairs (fun a b => sameB a b = true) l r → all2 sameB l r = true := by
    intro l r h
    induction h with
    | nil => rfl
    | cons h _ ih => rw [all2, h, ih]; rfl
  rw [sameB_mk, decide_eq_true h1, sameP_pure _ _ h2, hl _ _ hk]
  rfl

/-! ### Trees -/
theorem check_pure {t u : Tr} (hr : t.rs = u.rs) (h : pureN t.root = pureN u.root) : checkE t = checkE u := by
  unfold checkE manyE
  rw [wrong_pure _ _ h, (count_pure _ _ h).1, (count_pure _ _ h).2, hr]
theorem blob_pure {t u : Tr} (hb : t.boot = u.boot) (hr : t.rs = u.rs) (h : pureN t.root = pureN u.root) : blobT t = blobT u := by
  have e1 : textsT t = textsT u := texts_pure _ _ h []
  have e2 : structT t = structT u := by unfold structT; rw [e1, tokens_pure _ _ _ h]
  have e3 : reserveT t = reserveT u := by unfold reserveT; rw [hr]
  have e4 : headT t = headT u := by funext k; unfold headT; rw [e1, e2, e3, hb]
  unfold blobT
  rw [e1, e2, e3, e4]
theorem all2_refl {α : Type} {f : α → α → Bool} (hf : ∀ x, f x x = true) : ∀ l : List α, all2 f l l = true
  | [] => rfl
  | x :: l => by rw [all2, hf x, all2_refl hf l]; rfl
theorem sameT_pure {t u : Tr} (hb : t.boot = u.boot) (hr : t.rs = u.rs) (h : pureN t.root = pureN u.root) : sameT t u = true := by
  rw [sameT, decide_eq_true hb, hr, all2_refl (fun x => by simp [sameR]), same_pure _ _ h]
  rfl

/-! ### How much what is read can be -/
def massQ (x : ByteArray × List Int) : Nat := 12 + (x.2.length + padN x.2.length)
def nameM (s : ByteArray) : Nat := s.size + 1 + padN (s.size + 1)
mutual
/-- How many bytes the tokens of a node are. -/
def massP : PN → Nat
  | .mk nm ps ks => 8 + nameM nm + (ps.map massQ).sum + massK ks
def massK : List PN → Nat
  | [] => 0
  | k :: r => massP k + massK r
end
theorem massK_append : ∀ a b : List PN, massK (a ++ b) = massK a + massK b
  | [], b => by simp [massK]
  | x :: a, b => by simp only [List.cons_append, massK, massK_append a b]; omega
theorem sum_append_one {α : Type} (f : α → Nat) (l : List α) (x : α) : ((l ++ [x]).map f).sum = (l.map f).sum + f x := by simp
theorem mass_toks (L : List ByteArray) : ∀ n : Nd, (nodeN L n).length = massP (pureN n) := by
  refine Nd.ind ?_
  intro n ih
  have hp : ∀ ps : List PV, (ps.flatMap (propT L)).length = ((ps.map PV.pure).map massQ).sum := by
    intro ps
    induction ps with
    | nil => rfl
    | cons p r ih =>
      rw [List.flatMap_cons, List.length_append, ih, List.map_cons, List.map_cons, List.sum_cons]
      have e : massQ p.pure = 12 + (p.zs.length + padN p.zs.length) := rfl
      rw [e]
      simp only [propT, List.length_append, padL_length, four, List.length_cons, List.length_nil]
      omega
  have hl : ∀ (r : List Nd), (∀ k ∈ r, k ∈ n.kids) → (nodeL L r).length = massK (r.map pureN) := by
    intro r
    induction r with
    | nil => intro _; rfl
    | cons k r ihr =>
      intro hr
      rw [nodeL, List.length_append, ih k (hr k (by simp)), ihr (fun x hx => hr x (by simp [hx])), List.map_cons, massK]
  rw [nodeN_mk, pureN_mk, massP]
  simp only [List.length_append, padL_length, List.length_cons, List.length_nil, Nat.zero_add]
  rw [hp, hl _ (fun _ h => h), strB_length, nameM]
  omega

def massF (f : PF) : Nat := 4 + nameM f.name + (f.props.map massQ).sum + massK f.kids
def massS (st : PSt) : Nat := massF st.top + (st.below.map massF).sum
theorem strOf_size (s : List Int) : (strOfNums s).size = s.length := by
  show (strOfNums s).data.toList.length = s.length
  rw [strOfNums_data, List.length_map]
theorem padN_four {a b : Nat} (h : a % 4 = 0) : padN (a + b) = padN b := by unfold padN; omega
theorem mass_read {S T : List Int} {st st' : PSt} {tok : Int} (h4 : st.pos % 4 = 0) (h : readF S T st tok = .ok st') : massS st' + st.pos ≤ massS st + st'.pos ∧ st'.pos % 4 = 0 := by
  unfold readF at h
  split at h
  · unfold beginF at h
    split at h
    · cases h
    · split at h
      · cases h
      · rename_i s hs _ a ha
        have h1 := behind_some ha
        repeat' split at h
        all_goals first | (cases h; done) | skip
        simp only [Except.ok.injEq] at h
        subst h
        have e := padN_four (b := s.length + 1) (show (st.pos + 4) % 4 = 0 by omega)
        have e0 := padN_mod (st.pos + 4 + s.length + 1)
        rw [← Nat.add_assoc] at e
        simp only [massS, massF, PF.new, nameM, List.map_cons, List.map_nil, List.sum_cons, List.sum_nil, massK, strOf_size]
        refine ⟨?_, by omega⟩
        omega
  · split at h
    · unfold propF at h
      split at h
      · split at h
        · cases h
        · split at h
          · cases h
          · rename_i hz a ha
            have h1 := behind_some ha
            repeat' split at h
            all_goals first | (cases h; done) | skip
            rename_i hle _ _ _ _ _ _
            simp only [Except.ok.injEq] at h
            subst h
            generalize hk : (numTo S (st.pos + 4) 4).toNat = k at *
            have e := padN_four (b := k) (show (st.pos + 12) % 4 = 0 by omega)
            have e0 := padN_mod (st.pos + 12 + k)
            have hlen : ((S.drop (st.pos + 12)).take k).length = k := by
              rw [List.length_take, List.length_drop]; omega
            simp only [massS, massF, sum_append_one, massQ, hlen]
            refine ⟨?_, by omega⟩
            omega
      · cases h
    · split at h <;> simp only [Except.ok.injEq] at h <;> subst h
      · unfold leaveF skipF
        split
        · simp only [massS]; omega
        · rename_i f r hb
          simp only [massS, hb, List.map_cons, List.sum_cons, massF, massK_append, massK, PF.done, massP]
          omega
      · simp only [skipF, massS]; omega
theorem stand_last {b k : Nat} (h : standB b k 9 = true) : b = 0 ∧ k = 1 := by
  simpa [standB] using h
theorem mass_root {S T : List Int} : ∀ (f : Nat) (st : PSt) (pn : PN), st.pos % 4 = 0 → rootF S T f st = .ok pn → massP pn + st.pos ≤ massS st + S.length
  | 0, _, _, _, h => by cases h
  | f + 1, st, pn, h4, h => by
    rw [rootF] at h
    split at h
    · cases h
    · rename_i k hk
      by_cases hs : standB st.below.length st.top.kids.length k = false
      · rw [if_pos hs] at h; cases h
      rw [if_neg hs] at h
      split at h
      · cases h
      · rename_i st' hr
        have h1 := mass_read h4 hr
        by_cases h9 : k = 9
        · subst h9
          rw [if_pos rfl] at h
          by_cases hp : st'.pos = S.length
          · rw [if_pos hp] at h
            have e := Except.ok.inj h
            have hs' := stand_last (by simpa using hs)
            have er : st' = skipF st := by
              have : readF S T st 9 = .ok (skipF st) := by simp [readF]
              rw [this] at hr
              exact (Except.ok.inj hr).symm
            have ek : st'.top.kids.length = 1 := by rw [er]; exact hs'.2
            obtain ⟨x, hx⟩ := List.length_eq_one_iff.1 ek
            rw [hx] at e
            have e2 : x = pn := e
            have : massP x ≤ massS st' := by
              simp only [massS, massF, hx, massK]; omega
            rw [← e2]
            omega
          · rw [if_neg hp] at h; cases h
        · rw [if_neg h9] at h
          have := mass_root f st' pn h1.2 h
          omega
theorem mass_all {zs : List Int} {rs : List (Int × Int)} {pn : PN} (h : readAll zs = .ok (rs, pn)) : massP pn ≤ zs.length + 8 ∧ rs.length ≤ 64 := by
  unfold readAll at h
  split at h
  · cases h
  · rename_i rs' hr
    split at h
    · cases h
    · rename_i n hn
      have e := Except.ok.inj h
      simp only [Prod.mk.injEq] at e
      obtain ⟨rfl, rfl⟩ := e
      have h1 := mass_root _ _ _ (show start.pos % 4 = 0 from rfl) hn
      have h2 : massS start = 8 := by decide
      have h3 : start.pos = 0 := rfl
      have h4 : (partL zs (hcell zs 2).toNat (hcell zs 9).toNat).length ≤ zs.length := by
        rw [partL, List.length_take, List.length_drop]; omega
      have h5 : ∀ (f a : Nat) (l r : List (Int × Int)), resF zs f a l = .ok r → r.length ≤ 64 := by
        intro f
        induction f with
        | zero => intro a l r h; cases h
        | succ f ih =>
          intro a l r h
          unfold resF at h
          split at h
          · split at h
            · split at h
              · cases h
              · have := Except.ok.inj h
                subst this
                omega
            · exact ih _ _ r h
          · cases h
      exact ⟨by omega, h5 _ _ _ _ hr⟩
theorem prop_size {s : ByteArray} (h : propB s = true) : s.size ≤ 31 := by
  unfold propB madeB at h
  simp only [Bool.and_eq_true, decide_eq_true_eq] at h
  have : s.data.toList.length = s.size := rfl
  omega
/-- Of a formed node: how heavy it is, and its names, by how many bytes its tokens are. -/
theorem heft_mass : ∀ (n : Nd) (d : Int), wrongN n d = 0 → heftN n ≤ 4 * massP (pureN n) ∧ ∀ l, textSize (textsN n l) ≤ textSize l + 3 * massP (pureN n) := by
  refine Nd.ind (p := fun n => ∀ (d : Int), wrongN n d = 0 → heftN n ≤ 4 * massP (pureN n) ∧ ∀ l, textSize (textsN n l) ≤ textSize l + 3 * massP (pureN n)) ?_
  intro n ih d hw
  have F := formed_of hw
  have hp : ∀ ps : List PV, (∀ p ∈ ps, propB p.name = true) → (ps.map heftP).sum ≤ 4 * ((ps.map PV.pure).map massQ).sum ∧ ∀ l, textSize ((ps.map PV.name).foldl addT l) ≤ textSize l + 3 * ((ps.map PV.pure).map massQ).sum := by
    intro ps
    induction ps with
    | nil => intro _; exact ⟨by simp, fun l => by simp⟩
    | cons p r ihp =>
      intro hq
      obtain ⟨i1, i2⟩ := ihp (fun q h => hq q (by simp [h]))
      have hs := prop_size (hq p (by simp))
      have e : massQ p.pure = 12 + (p.zs.length + padN p.zs.length) := rfl
      have e2 : heftP p = 16 + p.name.size + p.zs.length := rfl
      simp only [List.map_cons, List.sum_cons, List.foldl_cons]
      refine ⟨by omega, fun l => ?_⟩
      have h1 := addT_size l p.name
      have h2 := i2 (addT l p.name)
      omega
  have hl : ∀ (r : List Nd), (∀ k ∈ r, k ∈ n.kids) → heftL r ≤ 4 * massK (r.map pureN) ∧ ∀ l, textSize (textsL r l) ≤ textSize l + 3 * massK (r.map pureN) := by
    intro r
    induction r with
    | nil => intro _; exact ⟨by simp [heftL], fun l => by simp [textsL]⟩
    | cons k r ihr =>
      intro hr
      obtain ⟨a1, a2⟩ := ih k (hr k (by simp)) _ (F.kids k (hr k (by simp)))
      obtain ⟨b1, b2⟩ := ihr (fun x hx => hr x (by simp [hx]))
      rw [List.map_cons, massK, heftL]
      refine ⟨by omega, fun l => ?_⟩
      rw [textsL]
      have h1 := a2 l
      have h2 := b2 (textsN k l)
      omega
  obtain ⟨p1, p2⟩ := hp n.props F.props
  obtain ⟨l1, l2⟩ := hl n.kids (fun _ h => h)
  rw [pureN_mk, massP, heftN_mk]
  have hn : n.name.size + 1 ≤ nameM n.name := by unfold nameM; omega
  refine ⟨by omega, fun l => ?_⟩
  rw [textsN_mk]
  have h1 := p2 l
  have h2 := l2 ((n.props.map PV.name).foldl addT l)
  omega
/-- What is read of few bytes has few. -/
theorem read_small {zs : List Int} {tr : Tr} (h : readAll zs = .ok (tr.rs, pureN tr.root)) (hc : checkE tr = 0) : heftN tr.root ≤ 4 * zs.length + 32 ∧ (blobT tr).length ≤ 4 * zs.length + 1200 := by
  obtain ⟨h1, h2⟩ := mass_all h
  obtain ⟨c1, _, _⟩ := check_zero hc
  obtain ⟨m1, m2⟩ := heft_mass _ _ c1
  have e := blob_length tr
  simp only [headT, List.getD_cons_zero, List.getD_cons_succ] at e
  have e1 : (reserveT tr).length = 16 * tr.rs.length + 16 := by simp [reserveT, resL_length]
  have e2 : (structT tr).length = massP (pureN tr.root) + 4 := by simp [structT, mass_toks]
  have e3 : (textB (textsT tr)).length ≤ 3 * massP (pureN tr.root) := by
    rw [textB_length]
    have := m2 []
    simp only [textSize] at this
    simpa [textsT] using this
  omega
end Go.Proofs.Ytnopcnbeklbfoaa

/-! Layer 4: the reader as it lies in memory: itself, the open nodes, each with rows and sets of its own. -/
namespace Go.Proofs.Ytnopcnbeklbfoaa
open Go.RowKit Go.Maps Go.WideMaps
set_option linter.unusedVariables false
set_option linter.unusedSimpArgs false

section
variable {α : Type} {f : α → List Value} {sz : Nat}
theorem flat_len (hf : ∀ a, (f a).length = sz) : ∀ l : List α, (l.flatMap f).length = l.length * sz
  | [] => by simp
  | a :: l => by rw [List.flatMap_cons, List.length_append, hf, flat_len hf l, List.length_cons, Nat.add_mul, Nat.one_mul, Nat.add_comm]
theorem flat_at (hf : ∀ a, (f a).length = sz) : ∀ (l : List α) (i r : Nat) (hi : i < l.length), r < sz → (l.flatMap f)[i * sz + r]? = (f l[i])[r]?
  | a :: l, 0, r, _, hr => by
    rw [List.flatMap_cons, Nat.zero_mul, Nat.zero_add, List.getElem?_append_left (by rw [hf]; exact hr)]
    rfl
  | a :: l, i + 1, r, hi, hr => by
    have e : (i + 1) * sz + r = (i * sz + r) + sz := by rw [Nat.add_mul, Nat.one_mul]; omega
    rw [List.flatMap_cons, e, List.getElem?_append_right (by rw [hf]; omega), hf, Nat.add_sub_cancel, flat_at hf l i r (by simpa using hi) hr]
    rfl
/-- The last element's cells, and one of them written. -/
theorem flat_last (hf : ∀ a, (f a).length = sz) (l : List α) (a : α) (r : Nat) (hr : r < sz) : ((l ++ [a]).flatMap f)[l.length * sz + r]? = (f a)[r]? := by
  have := flat_at hf (l ++ [a]) l.length r (by simp) hr
  simpa using this
theorem flat_set (hf : ∀ a, (f a).length = sz) (l : List α) (a b : α) (r : Nat) (v : Value) (hr : r < sz) (hb : f b = (f a).set r v) : ((l ++ [a]).flatMap f).set (l.length * sz + r) v = (l ++ [b]).flatMap f := by
  simp only [List.flatMap_append, List.flatMap_cons, List.flatMap_nil, List.append_nil]
  rw [List.set_append_right _ _ (by rw [flat_len hf]; omega), flat_len hf, hb]
  congr 2
  omega
end

/-- The cells of a property, of a node. -/
def pC (p : PV) : List Value := [.string p.name, p.val]
def kC (k : Nd) : List Value := [.string k.name, k.pv, k.kv]

/-- All rows of a node lie in blocks of which D says so. -/
inductive Nd.At (D : Nat → Prop) : Nd → Prop where
  | mk (n : Nd) (h1 : 0 < n.props.length → ∀ b o, n.pa = some ⟨b, o, none⟩ → D b) (h2 : ∀ p ∈ n.props, 0 < p.zs.length → ∀ b o, p.addr = some ⟨b, o, none⟩ → D b)
      (h3 : 0 < n.kids.length → ∀ b o, n.ka = some ⟨b, o, none⟩ → D b) (h4 : ∀ k ∈ n.kids, Nd.At D k) : Nd.At D n
theorem Nd.At.parts {D : Nat → Prop} {n : Nd} (h : n.At D) : (0 < n.props.length → ∀ b o, n.pa = some ⟨b, o, none⟩ → D b) ∧ (∀ p ∈ n.props, 0 < p.zs.length → ∀ b o, p.addr = some ⟨b, o, none⟩ → D b) ∧
    (0 < n.kids.length → ∀ b o, n.ka = some ⟨b, o, none⟩ → D b) ∧ (∀ k ∈ n.kids, Nd.At D k) := by
  cases h with | mk _ h1 h2 h3 h4 => exact ⟨h1, h2, h3, h4⟩
/-- A property's value likewise. -/
def PV.At (D : Nat → Prop) (p : PV) : Prop := 0 < p.zs.length → ∀ b o, p.addr = some ⟨b, o, none⟩ → D b

section
variable {w w' : World} {D D' : Nat → Prop}
theorem shows_at {B n : Nat} {A : Option Addr} {zs : List Int} (h : Shows w B A n zs) (ha : 0 < n → ∀ b o, A = some ⟨b, o, none⟩ → D b) (hk : ∀ a : Addr, D a.block → w'.cell? a = w.cell? a) : Shows w' B A n zs :=
  ⟨h.1, h.2.1, fun h0 => by
    obtain ⟨b, o, e, hb, hc⟩ := h.2.2 h0
    exact ⟨b, o, e, hb, fun i hi => (hk _ (ha h0 b o e)).trans (hc i hi)⟩⟩
theorem PV.In.at_ {B : Nat} {p : PV} (h : p.In w B) (ha : p.At D) (hk : ∀ a : Addr, D a.block → w'.cell? a = w.cell? a) : p.In w' B := ⟨h.1, shows_at h.2.1 ha hk, h.2.2⟩
theorem Nd.In.at_ {B : Nat} (hk : ∀ a : Addr, D a.block → w'.cell? a = w.cell? a) {n : Nd} : n.In w B → n.At D → n.In w' B :=
  Nd.ind (p := fun n => n.In w B → n.At D → n.In w' B) (fun n ih h ha => by
    obtain ⟨h1, h2, h3, h4⟩ := ha.parts
    refine .mk n h.name_le h.plen.1 h.plen.2 h.klen.1 h.klen.2 (fun h0 => ?_) (fun p hp => (h.prop hp).at_ (h2 p hp) hk) (fun h0 => ?_) (fun k hk' => ih k hk' (h.kid hk') (h4 k hk'))
    · obtain ⟨b, o, e, hb, hc⟩ := h.prow h0
      exact ⟨b, o, e, hb, fun i hi => ⟨(hk _ (h1 h0 b o e)).trans (hc i hi).1, (hk _ (h1 h0 b o e)).trans (hc i hi).2⟩⟩
    · obtain ⟨b, o, e, hb, hc⟩ := h.krow h0
      exact ⟨b, o, e, hb, fun i hi => ⟨(hk _ (h3 h0 b o e)).trans (hc i hi).1, (hk _ (h3 h0 b o e)).trans (hc i hi).2.1, (hk _ (h3 h0 b o e)).trans (hc i hi).2.2⟩⟩) n
theorem PV.At.mono {p : PV} (h : p.At D) (hD : ∀ b, D b → D' b) : p.At D' := fun h0 b o e => hD b (h h0 b o e)
theorem Nd.At.mono (hD : ∀ b, D b → D' b) {n : Nd} : n.At D → n.At D' :=
  Nd.ind (p := fun n => n.At D → n.At D') (fun n ih h => by
    obtain ⟨h1, h2, h3, h4⟩ := h.parts
    exact .mk n (fun h0 b o e => hD b (h1 h0 b o e)) (fun p hp h0 b o e => hD b (h2 p hp h0 b o e)) (fun h0 b o e => hD b (h3 h0 b o e)) (fun k hk => ih k hk (h4 k hk))) n
end

/-- An open node as it lies: its cells, the rows that it leads to, the two sets' blocks. -/
structure Fr where
  name : ByteArray
  pa : Option Addr
  pc : Nat
  props : List PV
  ka : Option Addr
  kc : Nat
  kids : List Nd
  pm : Nat
  km : Nat
  had : List ByteArray
  taken : List ByteArray
def Fr.pv (f : Fr) : Value := .slice f.pa f.props.length f.pc
def Fr.kv (f : Fr) : Value := .slice f.ka f.kids.length f.kc
def Fr.cells (f : Fr) : List Value := [.string f.name, f.pv, f.kv, .map (some f.pm), .map (some f.km)]
def Fr.pure (f : Fr) : PF := ⟨f.name, f.props.map PV.pure, f.kids.map pureN, f.taken⟩
def Fr.node (f : Fr) : Nd := .mk f.name f.pa f.pc f.props f.ka f.kc f.kids
theorem Fr.node_pure (f : Fr) : pureN f.node = f.pure.done := by rw [pureN_mk]; rfl
theorem Fr.cells_len (f : Fr) : f.cells.length = 5 := rfl

/-- A set of names. -/
def setS (l : List ByteArray) : DataW Unit := Sn l l.length
theorem setS_nil : setS [] = .map [] := Sn_zero []
theorem setS_snoc (l : List ByteArray) (s : ByteArray) : setS (l ++ [s]) = (setS l).put (keyL s) (.agg []) := by
  unfold setS
  have h := Sn_succ (l ++ [s]) l.length (by simp)
  have e : (l ++ [s]).length = l.length + 1 := by simp
  rw [e, h]
  have e2 : (l ++ [s])[l.length]'(by simp) = s := by simp
  rw [e2]
  congr 1
  unfold Sn
  simp
theorem setS_has (l : List ByteArray) (s : ByteArray) : Maps.has (setS l) (keyL s) = hasS l s := by
  unfold setS
  cases h : hasS l s
  · exact has_no (by simpa using hasS_false.1 h)
  · exact (has_Sn l l.length s).2 (by simpa using hasS_iff.1 h)

/-- What no open node's rows lie in: blocks that are done with. -/
def Done (B : Nat) (w : World) (L : Nat → Nat) (b : Nat) : Prop := B ≤ b ∧ b < w.heap.size ∧ L b = 0

structure FrOk (w : World) (B : Nat) (L : Nat → Nat) (i : Nat) (f : Fr) : Prop where
  name : f.name.size ≤ 1048576
  prow : w.ownsRow B 52 2 f.pv f.props.length (f.props.flatMap pC)
  krow : w.ownsRow B 38 3 f.kv f.kids.length (f.kids.flatMap kC)
  pmap : w.ownsMap Try.prog 9 unitElem f.pm f.had.length (setS f.had)
  kmap : w.ownsMap Try.prog 9 unitElem f.km f.taken.length (setS f.taken)
  lp : ∀ g, f.pv.ownBlock = some g → L g = 4 * i + 3
  lk : ∀ g, f.kv.ownBlock = some g → L g = 4 * i + 4
  lpm : L f.pm = 4 * i + 5
  lkm : L f.km = 4 * i + 6
  bpm : B ≤ f.pm
  bkm : B ≤ f.km
  props : ∀ p ∈ f.props, p.In w w.heap.size ∧ p.At (Done B w L)
  kids : ∀ k ∈ f.kids, k.In w w.heap.size ∧ k.At (Done B w L)

theorem done_of {B : Nat} {w w' : World} {L L' : Nat → Nat} (hs : w.heap.size ≤ w'.heap.size) (hL : ∀ b, b < w.heap.size → L b = 0 → L' b = 0) (b : Nat) (h : Done B w L b) : Done B w' L' b := ⟨h.1, Nat.lt_of_lt_of_le h.2.1 hs, hL b h.2.1 h.2.2⟩

/-- What is done with isn't touched where only a block that isn't is written. -/
theorem done_cell {B : Nat} {w w' : World} {L : Nat → Nat} {row : Option Nat} (hg : w.grownBy w' row) (hr : ∀ X, row = some X → L X ≠ 0) (a : Addr) (h : Done B w L a.block) : w'.cell? a = w.cell? a :=
  World.cell?_of_block (hg.block a.block h.2.1 (fun e => hr _ e.symm h.2.2))

theorem FrOk.kept {w w' : World} {B i : Nat} {L L' : Nat → Nat} {f : Fr} {row : Option Nat} (h : FrOk w B L i f) (hg : w.grownBy w' row) (hr : ∀ X, row = some X → L X ≠ 0 ∧ L X ≠ 4 * i + 3 ∧ L X ≠ 4 * i + 4 ∧ L X ≠ 4 * i + 5 ∧ L X ≠ 4 * i + 6)
    (hL : ∀ b, b < w.heap.size → L b = 0 ∨ L b = 4 * i + 3 ∨ L b = 4 * i + 4 ∨ L b = 4 * i + 5 ∨ L b = 4 * i + 6 → L' b = L b) : FrOk w' B L' i f := by
  have hcell := done_cell (B := B) hg (fun X e => (hr X e).1)
  have hD := done_of (B := B) (w := w) (w' := w') (L := L) (L' := L') hg.size (fun b hb h0 => (hL b hb (.inl h0)).trans h0)
  refine ⟨h.name, h.prow.kept hg ?_, h.krow.kept hg ?_, h.pmap.kept hg ?_, h.kmap.kept hg ?_, fun g e => ?_, fun g e => ?_, ?_, ?_, h.bpm, h.bkm, fun p hp => ?_, fun k hk => ?_⟩
  · cases e : f.pv.ownBlock with
    | none => exact .inl rfl
    | some g => exact .inr (fun e2 => (hr g e2.symm).2.1 (h.lp g e))
  · cases e : f.kv.ownBlock with
    | none => exact .inl rfl
    | some g => exact .inr (fun e2 => (hr g e2.symm).2.2.1 (h.lk g e))
  · exact fun e => (hr _ e.symm).2.2.2.1 h.lpm
  · exact fun e => (hr _ e.symm).2.2.2.2 h.lkm
  · have h1 := h.lp g e
    rw [hL g (h.prow.lt g e).2 (.inr (.inl h1))]; exact h1
  · have h1 := h.lk g e
    rw [hL g (h.krow.lt g e).2 (.inr (.inr (.inl h1)))]; exact h1
  · rw [hL _ h.pmap.lt (.inr (.inr (.inr (.inl h.lpm))))]; exact h.lpm
  · rw [hL _ h.kmap.lt (.inr (.inr (.inr (.inr h.lkm))))]; exact h.lkm
  · have h1 := h.props p hp
    exact ⟨(h1.1.at_ h1.2 hcell).more hg.size, h1.2.mono hD⟩
  · have h1 := h.kids k hk
    exact ⟨(Nd.In.at_ hcell h1.1 h1.2).more hg.size, h1.2.mono hD⟩

/-- The reader: its own block R (the structure, the texts, where it stands, the open nodes), the open nodes' row, the open nodes from the outermost on. -/
structure Rdr (w : World) (B R : Nat) (Sv Tv : Value) (pos : Nat) (ov : Value) (fs : List Fr) (L : Nat → Nat) : Prop where
  rd : w.ownsRow B 91 4 (.slice (some ⟨R, 0, none⟩) 1 1) 1 [Sv, Tv, .int .i64 pos, ov]
  lr : L R = 1
  row : w.ownsRow B 97 5 ov fs.length (fs.flatMap Fr.cells)
  lo : ∀ g, ov.ownBlock = some g → L g = 2
  ok : ∀ i (h : i < fs.length), FrOk w B L i fs[i]
  base : B ≤ w.heap.size

section
variable {w w' : World} {B R pos : Nat} {Sv Tv ov : Value} {fs : List Fr} {L : Nat → Nat}
theorem Rdr.cells (h : Rdr w B R Sv Tv pos ov fs L) : w.cell? ⟨R, 0, none⟩ = some Sv ∧ w.cell? ⟨R, 1, none⟩ = some Tv ∧ w.cell? ⟨R, 2, none⟩ = some (.int .i64 pos) ∧ w.cell? ⟨R, 3, none⟩ = some ov :=
  ⟨h.rd.cellAt 0 (by omega), h.rd.cellAt 1 (by omega), h.rd.cellAt 2 (by omega), h.rd.cellAt 3 (by omega)⟩
theorem Rdr.free (h : Rdr w B R Sv Tv pos ov fs L) (j : Nat) : w.frozen? ⟨R, j, none⟩ = false := h.rd.frozenAt j
theorem Rdr.rlt (h : Rdr w B R Sv Tv pos ov fs L) : B ≤ R ∧ R < w.heap.size := h.rd.lt R rfl
/-- What only lays new blocks, or writes others. -/
theorem Rdr.kept {L' : Nat → Nat} {row : Option Nat} (h : Rdr w B R Sv Tv pos ov fs L) (hg : w.grownBy w' row) (hr : ∀ X, row = some X → 4 * fs.length + 3 ≤ L X) (hL : ∀ b, b < w.heap.size → L' b = L b) : Rdr w' B R Sv Tv pos ov fs L' := by
  have hR : row ≠ some R := fun e => by have := hr R e; have := h.lr; omega
  refine ⟨h.rd.kept hg (.inr (fun e => hR e.symm)), (hL R h.rlt.2).trans h.lr, h.row.kept hg ?_, fun g e => (hL g (h.row.lt g e).2).trans (h.lo g e), fun i hi => (h.ok i hi).kept hg (fun X e => ?_) (fun b hb _ => hL b hb), Nat.le_trans h.base hg.size⟩
  · cases e : ov.ownBlock with
    | none => exact .inl rfl
    | some g => exact .inr (fun e2 => by have h1 := hr g e2.symm; have h2 := h.lo g e; omega)
  · have := hr X e
    omega
theorem Rdr.on (h : Rdr w B R Sv Tv pos ov fs L) (hg : w.grownBy w' none) : Rdr w' B R Sv Tv pos ov fs L := h.kept hg (fun X e => by cases e) (fun _ _ => rfl)
theorem below_grown {B : Nat} (hg : Below B w w') (hB : w.heap.size ≤ B) : w.grownBy w' none := ⟨hg.os, hg.tape, hg.output, Nat.le_trans (Nat.le_refl _) hg.size, fun k hk _ => hg.block k (Nat.lt_of_lt_of_le hk hB)⟩
theorem Rdr.under (h : Rdr w B R Sv Tv pos ov fs L) (hg : Below w.heap.size w w') : Rdr w' B R Sv Tv pos ov fs L := h.on (below_grown hg (Nat.le_refl _))
/-- The reader goes to another place. -/
theorem Rdr.go (h : Rdr w B R Sv Tv pos ov fs L) (pos' : Nat) : Rdr (w.setCell ⟨R, 2, none⟩ (.int .i64 pos')) B R Sv Tv pos' ov fs L ∧ w.grownBy (w.setCell ⟨R, 2, none⟩ (.int .i64 pos')) (some R) := by
  obtain ⟨h1, h2⟩ := h.rd.stored 2 (.int .i64 pos')
  refine ⟨⟨h1, h.lr, h.row.kept h2 ?_, h.lo, fun i hi => (h.ok i hi).kept h2 (fun X e => ?_) (fun _ _ _ => rfl), Nat.le_trans h.base h2.size⟩, h2⟩
  · cases e : ov.ownBlock with
    | none => exact .inl rfl
    | some g => exact .inr (fun e2 => by
                                     have h3 := h.lo g e
                                     have h4 := h.lr
                                     have h5 : g = R := by simpa using e2
                                     rw [h5] at h3; omega)
  · have h4 := h.lr
    have h5 : X = R := by simpa using e.symm
    rw [h5]
    omega

theorem ok_low {l : List Fr} {f : Fr} (h : ∀ i (h : i < (l ++ [f]).length), FrOk w B L i (l ++ [f])[i]) (i : Nat) (hi : i < l.length) : FrOk w B L i l[i] := by
  have := h i (by simp; omega)
  rwa [List.getElem_append_left hi] at this
theorem ok_top {l : List Fr} {f : Fr} (h : ∀ i (h : i < (l ++ [f]).length), FrOk w B L i (l ++ [f])[i]) : FrOk w B L l.length f := by
  have := h l.length (by simp)
  simpa using this
theorem ok_mk {l : List Fr} {f : Fr} (h1 : ∀ i (h : i < l.length), FrOk w B L i l[i]) (h2 : FrOk w B L l.length f) (i : Nat) (hi : i < (l ++ [f]).length) : FrOk w B L i (l ++ [f])[i] := by
  rcases Nat.lt_or_ge i l.length with h | h
  · rw [List.getElem_append_left h]; exact h1 i h
  · have e : i = l.length := by simp at hi; omega
    subst e
    simpa using h2

/-- The label of one block is another. -/
def lab (L : Nat → Nat) (b k : Nat) : Nat → Nat := fun x => if x = b then k else L x
theorem lab_same (L : Nat → Nat) (b k : Nat) : lab L b k b = k := by simp [lab]
theorem lab_other (L : Nat → Nat) (b k x : Nat) (h : x ≠ b) : lab L b k x = L x := by simp [lab, h]
end
end Go.Proofs.Ytnopcnbeklbfoaa

/-! Layer 4: the reader enters a node: in memory. -/
namespace Go.Proofs.Ytnopcnbeklbfoaa
open Go.RowKit Go.Maps Go.WideMaps
set_option linter.unusedVariables false
set_option linter.unusedSimpArgs false

theorem info_open : (Try.prog.info? 97).map (fun i => (i.zero, i.size, i.bytes)) = some (some (.agg #[.string ⟨#[]⟩, .slice none 0 0, .slice none 0 0, .map none, .map none]), 5, 80) := by kernel_rfl

theorem cells_new (w : World) (cs : List Value) (t : TypeId) : ∀ j u, cs[j]? = some u → (w.alloc (.cells cs.toArray t)).cell? ((⟨w.heap.size, 0, none⟩ : Addr).add j) = some u := by
  intro j u hj
  have e : (⟨w.heap.size, 0, none⟩ : Addr).add j = ⟨w.heap.size, j, none⟩ := by rw [addr_add, Nat.zero_add]
  rw [e, World.cell?_alloc_new]
  simpa using hj

def Fr.new (s : ByteArray) (p k : Nat) : Fr := ⟨s, none, 0, [], none, 0, [], p, k, [], []⟩

theorem Rdr.push {w : World} {B R pos : Nat} {Sv Tv ov : Value} {fs : List Fr} {L : Nat → Nat} (h : Rdr w B R Sv Tv pos ov fs L) (hn : fs.length ≤ 1048576) (s : ByteArray) (hs : s.size ≤ 1048576) (ty : TypeId) :
    ∃ v' w', (Builtin.append_ #[89, 89] ty #[ov, .slice (some ⟨w.heap.size + 1 + 1, 0, none⟩) 1 1]).run Try.prog
        (((w.alloc (.map #[] 0)).alloc (.map #[] 0)).alloc (.cells #[.string s, .slice none 0 0, .slice none 0 0, .map (some w.heap.size), .map (some (w.heap.size + 1))] 97)) = .ok v' w' ∧
      (∃ L', Rdr (w'.setCell ⟨R, 3, none⟩ v') B R Sv Tv pos v' (fs ++ [Fr.new s w.heap.size (w.heap.size + 1)]) L') ∧ Below B w (w'.setCell ⟨R, 3, none⟩ v') ∧ w'.cell? ⟨R, 3, none⟩ = some ov ∧ w'.frozen? ⟨R, 3, none⟩ = false := by
  obtain ⟨i0, hi0, hz0, hz1, hz2⟩ := info_parts info_open
  obtain ⟨w1, e1⟩ : ∃ w1, w1 = w.alloc (.map #[] 0) := ⟨_, rfl⟩
  obtain ⟨w2, e2⟩ : ∃ w2, w2 = w1.alloc (.map #[] 0) := ⟨_, rfl⟩
  obtain ⟨w3, e3⟩ : ∃ w3, w3 = w2.alloc (.cells #[.string s, .slice none 0 0, .slice none 0 0, .map (some w.heap.size), .map (some (w.heap.size + 1))] 97) := ⟨_, rfl⟩
  have s1 : w1.heap.size = w.heap.size + 1 := by rw [e1]; simp
  have s2 : w2.heap.size = w.heap.size + 2 := by rw [e2]; simp [s1]
  have s3 : w3.heap.size = w.heap.size + 3 := by rw [e3]; simp [s2]
  have g1 : w.grownBy w1 none := by rw [e1]; exact World.grownBy_alloc _ _ _
  have g2 : w1.grownBy w2 none := by rw [e2]; exact World.grownBy_alloc _ _ _
  have g3 : w2.grownBy w3 none := by rw [e3]; exact World.grownBy_alloc _ _ _
  have k1 : w.grownBy w3 none := (g1.trans g2).trans g3
  have r3 : w3.ownsRow B 97 5 ov fs.length (fs.flatMap Fr.cells) := h.row.kept k1 (by cases e : ov.ownBlock <;> simp)
  obtain ⟨v', w4, hrun, hown, k2, _, hat⟩ := run_append_own_at (P := Try.prog) w3 B 89 ty 97 i0 _ 5 80 Try.underlying89 hi0 hz0 hz1 hz2 rfl (by omega) ov fs.length (fs.flatMap Fr.cells) r3
    ⟨w.heap.size + 2, 0, none⟩ 1 1 [.string s, .slice none 0 0, .slice none 0 0, .map (some w.heap.size), .map (some (w.heap.size + 1))] rfl (by rw [e3, ← s2]; exact cells_new w2 _ _) (fun u hu => by
      simp only [List.mem_cons, List.not_mem_nil, or_false] at hu
      rcases hu with rfl | rfl | rfl | rfl | rfl <;> rfl) (by unfold maxLen; omega) (by omega) (by have := h.base; omega)
  have hov : ∀ g, ov.ownBlock = some g → L g = 2 := h.lo
  have hR := h.rlt
  have hRo : some R ≠ ov.ownBlock := fun e => by have h1 := h.lo R e.symm; have h2 := h.lr; omega
  have rd3 : w3.ownsRow B 91 4 (.slice (some ⟨R, 0, none⟩) 1 1) 1 [Sv, Tv, .int .i64 pos, ov] := h.rd.kept k1 (.inr (by simp [Value.ownBlock]))
  have rd4 := rd3.kept k2 (.inr hRo)
  obtain ⟨rd5, k3⟩ := rd4.stored 3 v'
  obtain ⟨L', hL'⟩ : ∃ L', L' = lab (lab (lab L w.heap.size (4 * fs.length + 5)) (w.heap.size + 1) (4 * fs.length + 6)) w3.heap.size 2 := ⟨_, rfl⟩
  have hold : ∀ b, b < w.heap.size → L' b = L b := fun b hb => by rw [hL', lab_other _ _ _ _ (by omega), lab_other _ _ _ _ (by omega), lab_other _ _ _ _ (by omega)]
  have hl1 : L' w.heap.size = 4 * fs.length + 5 := by rw [hL', lab_other _ _ _ _ (by omega), lab_other _ _ _ _ (by omega), lab_same]
  have hl2 : L' (w.heap.size + 1) = 4 * fs.length + 6 := by rw [hL', lab_other _ _ _ _ (by omega), lab_same]
  have hl3 : L' w3.heap.size = 2 := by rw [hL', lab_same]
  have hvo : ∀ g, ov.ownBlock = some g → g < w.heap.size ∧ L' g = 2 := fun g e => by
    have h1 := (h.row.lt g e).2
    exact ⟨h1, (hold g h1).trans (h.lo g e)⟩
  have hv' : ∀ g, v'.ownBlock = some g → L' g = 2 ∧ g ≠ R := fun g e => by
    rcases hat with h1 | h1
    · rw [h1] at e
      exact ⟨(hvo g e).2, fun e2 => hRo (by rw [e, e2])⟩
    · rw [h1] at e
      have : g = w3.heap.size := by simpa using e.symm
      rw [this]
      exact ⟨hl3, by omega⟩
  have hL2 : ∀ X, ov.ownBlock = some X → L' X = 2 := fun X e => (hvo X e).2
  have hL3 : ∀ X, some R = some X → L' X = 1 := fun X e => by
    have e2 : R = X := by simpa using e
    rw [← e2, hold R hR.2]; exact h.lr
  refine ⟨v', w4, ?_, ⟨L', ⟨?_, ?_, ?_, ?_, ?_, ?_⟩⟩, ?_, ?_, ?_⟩
  · rw [← hrun, e3, e2, e1]
  · simpa using rd5
  · rw [hold R hR.2]; exact h.lr
  · have h1 := hown.kept k3 (by
      cases e : v'.ownBlock with
      | none => exact .inl rfl
      | some g => exact .inr (fun e2 => (hv' g e).2 (by simpa using e2)))
    have e5 : (fs ++ [Fr.new s w.heap.size (w.heap.size + 1)]).length = fs.length + 1 := by simp
    rw [e5, List.flatMap_append]
    simpa [Fr.cells, Fr.new, Fr.pv, Fr.kv] using h1
  · exact fun g e => (hv' g e).1
  · refine ok_mk (fun i hi => ?_) ?_
    · have f1 := (h.ok i hi).kept (L' := L') k1 (fun X e => by cases e) (fun b hb _ => hold b hb)
      have f2 := f1.kept (L' := L') k2 (fun X e => by have := hL2 X e; omega) (fun _ _ _ => rfl)
      exact f2.kept (L' := L') k3 (fun X e => by have := hL3 X e; omega) (fun _ _ _ => rfl)
    · have m1 : w1.ownsMap Try.prog 9 unitElem w.heap.size 0 (setS []) := by rw [setS_nil, e1]; exact World.ownsMap_made _ _ _ _
      have m2 : w2.ownsMap Try.prog 9 unitElem (w.heap.size + 1) 0 (setS []) := by rw [setS_nil, e2, ← s1]; exact World.ownsMap_made _ _ _ _
      have n1 : ∀ {b : Nat}, b = w.heap.size ∨ b = w.heap.size + 1 → some b ≠ ov.ownBlock := fun hb e => by have := (hvo _ e.symm).1; omega
      have n2 : ∀ {b : Nat}, b = w.heap.size ∨ b = w.heap.size + 1 → some b ≠ some R := fun {b} hb e => (by have h9 : b = R := (Option.some.inj e); omega)
      refine ⟨hs, World.ownsRow_nil _ _ _ _, World.ownsRow_nil _ _ _ _, ?_, ?_, fun g e => (by cases e), fun g e => (by cases e), hl1, hl2, h.base, Nat.le_succ_of_le h.base, fun p hp => (by cases hp), fun p hp => (by cases hp)⟩
      · exact ((m1.kept (g2.trans g3) (by simp)).kept k2 (n1 (.inl rfl))).kept k3 (n2 (.inl rfl))
      · exact ((m2.kept g3 (by simp)).kept k2 (n1 (.inr rfl))).kept k3 (n2 (.inr rfl))
  · have := k3.size; have := k2.size; have := h.base; omega
  · have b1 : Below B w w3 := ⟨k1.os, k1.tape, k1.output, k1.size, fun k hk => k1.block k (by have := h.base; omega) (by simp)⟩
    have b2 : Below B w w4 := b1.grown k2 (by have := h.base; omega) (fun k e => (h.row.lt k e).1)
    exact b2.grown k3 (by have := h.base; have := k2.size; omega) (fun k e => (by have h9 : R = k := (Option.some.inj e); omega))
  · exact rd4.cellAt 3 (by omega)
  · exact rd4.frozenAt 3
end Go.Proofs.Ytnopcnbeklbfoaa

/-! Layer 4: reader.enter, reader.innermost. -/
namespace Go.Proofs.Ytnopcnbeklbfoaa
open Go.RowKit Go.Maps Go.WideMaps
set_option linter.unusedVariables false
set_option linter.unusedSimpArgs false

/-- The open nodes' row, as a slice. -/
theorem Rdr.slice {w : World} {B R pos : Nat} {Sv Tv ov : Value} {fs : List Fr} {L : Nat → Nat} (h : Rdr w B R Sv Tv pos ov fs L) (hn : 0 < fs.length) : ∃ g c, ov = .slice (some ⟨g, 0, none⟩) fs.length c ∧ fs.length ≤ c ∧ c ≤ 9223372036854775807 := by
  rcases h.row.2 with ⟨rfl, h0⟩ | ⟨g, cap, cur, rfl, _, _, h1, h2, _⟩
  · omega
  · exact ⟨g, cap, rfl, h1, h2⟩
set_option maxRecDepth 20000 in
set_option maxHeartbeats 1000000 in
theorem enter_any {w : World} {B R pos : Nat} {Sv Tv ov : Value} {fs : List Fr} {L : Nat → Nat} (h : Rdr w B R Sv Tv pos ov fs L) (hn : fs.length ≤ 1048576) (s : ByteArray) (hs : s.size ≤ 1048576) :
    Calls Try.prog 46 #[.pointer (some ⟨R, 0, none⟩), .string s] w fun e w' => e = .returned (.tuple #[]) ∧ (∃ v' L' p k, Rdr w' B R Sv Tv pos v' (fs ++ [Fr.new s p k]) L') ∧ Below B w w' := by
  have hmm := @run_makeMap Try.prog
  obtain ⟨v', w', hrun, ⟨L', hR⟩, hB, hc, hf⟩ := h.push hn s hs 89
  obtain ⟨g, c, rfl, _⟩ := hR.slice (by simp)
  simp only [List.length_append, List.length_cons, List.length_nil, Nat.zero_add] at hrun hR hB hc hf
  obtain ⟨_, _, _, c3⟩ := h.cells
  have hlt := h.rlt.2
  have HR := Lib.hid hrun
  have HX := Lib.hid hR
  have HB := Lib.hid hB
  clear h hrun hR hB
  go_enter Try.func46, Try.ntmps46
  go_wp2_with (first | (at_builtin; refine Lib.wpList_append_run_sl _ rfl _ _ 89 rfl _ _ rfl rfl HR.out ?_) | fail)
  go_end0
  exact ⟨rfl, ⟨_, L', _, _, HX.out⟩, HB.out⟩

set_option maxHeartbeats 1000000 in
theorem innermost_any {w : World} {B R pos g c : Nat} {Sv Tv : Value} {fs : List Fr} {f : Fr} {L : Nat → Nat} (h : Rdr w B R Sv Tv pos (.slice (some ⟨g, 0, none⟩) (fs.length + 1) c) (fs ++ [f]) L) (hn : fs.length ≤ 1048576) (hc : fs.length + 1 ≤ c) (hcm : c ≤ 9223372036854775807) :
    Calls Try.prog 49 #[.pointer (some ⟨R, 0, none⟩)] w fun e w' => e = .returned (.pointer (some ⟨g, fs.length * 5, none⟩)) ∧ ∃ q, w' = w.drewN q := by
  obtain ⟨_, _, _, c3⟩ := h.cells
  obtain ⟨k, hk⟩ : ∃ k, fs.length = k := ⟨_, rfl⟩
  rw [hk] at hn hc c3 ⊢
  clear h
  go_enter Try.func49, Try.ntmps49
  go_wp2
  go_quiet (fail)
  go_wp2
  go_ret
  exact ⟨rfl, _, rfl⟩
end Go.Proofs.Ytnopcnbeklbfoaa
