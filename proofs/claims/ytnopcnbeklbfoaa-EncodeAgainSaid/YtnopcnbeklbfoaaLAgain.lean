/-
  Layer 5, EncodeAgain: what any bytes are decoded as is encoded, laid out as it should be, decoded as the same, and encoded as the same bytes.
-/
import Derived.Test.YtnopcnbeklbfoaaBase7
import Derived.Deep.DrawnRows
namespace Go.Proofs.Ytnopcnbeklbfoaa
open Go.RowKit
set_option linter.unusedVariables false
set_option linter.unusedSimpArgs false
attribute [local go_sem ↓] Go.wp_at_zero Go.wp_at_succ

/-- Encode of a formed tree whose bytes are known, and are not too many. -/
theorem encode_ok (t : Tr) (BT : List Int) (hBT : blobT t = BT) (hc : checkE t = 0) (hl : BT.length ≤ 1048576) (hz : heftN t.root ≤ 268435456) (w : World) (hin : t.In w w.heap.size) :
    Calls Try.prog 18 #[t.val] w fun e w' => (∃ A c, e = .returned (.tuple #[.slice A BT.length c, .int .i64 0]) ∧ Shows w' w'.heap.size A BT.length BT ∧ BT.length ≤ c ∧ c ≤ 9223372036854775807) ∧ Below w.heap.size w w' := by
  subst hBT
  exact (encode_any t w hin hz).mono fun e w' h => ⟨h.1.2.2 hc hl, h.2⟩
/-- Layout of bytes that are laid out so, or not. -/
theorem layout_is (A : Option Addr) (n c : Nat) (zs : List Int) (w : World) (hs : Shows w w.heap.size A n zs) (hnc : n ≤ c) (hc : c ≤ 9223372036854775807) (r : Bool) (hr : r = true ↔ LayP zs) :
    Calls Try.prog 19 #[.slice A n c] w fun e w' => e = .returned (.bool r) ∧ Below w.heap.size w w' :=
  (layout_any A n c zs w hs hnc hc).mono fun e w' h => by
    obtain ⟨⟨q, h1, h2⟩, h3⟩ := h
    have : q = r := by rw [Bool.eq_iff_iff]; exact h2.trans hr.symm
    exact ⟨by rw [h1, this], h3⟩
/-- Decode of bytes that are read as a tree. -/
theorem decode_ok (A : Option Addr) (n c : Nat) (zs : List Int) (w : World) (hs : Shows w w.heap.size A n zs) (hnc : n ≤ c) (hc : c ≤ 9223372036854775807) (t : Tr) (ht : ReadT zs t) :
    Calls Try.prog 16 #[.slice A n c] w fun e w' => (∃ tr : Tr, tr.In w' w'.heap.size ∧ ReadT zs tr ∧ e = .returned (.tuple #[tr.val, .int .i64 0])) ∧ Below w.heap.size w w' :=
  (decode_any A n c zs w hs hnc hc).mono fun e w' h => by
    obtain ⟨⟨E, _, _, hno⟩ | h1, h2⟩ := h
    · exact absurd ht (hno t)
    · exact ⟨h1, h2⟩
theorem str_same (s : ByteArray) : (s.toList == s.toList) = true := by simp

set_option maxRecDepth 20000 in
set_option maxHeartbeats 8000000 in
theorem encodeAgain_true (A : Option Addr) (n c : Nat) (zs : List Int) (w : World) (hs : Shows w w.heap.size A n zs) (hnc : n ≤ c) (hc : c ≤ 9223372036854775807) :
    Calls Try.prog 7 #[.slice A n c] w fun e w' => e = .returned (.bool true) ∧ Below w.heap.size w w' := by
  have hl := hs.1
  have HS := Lib.hid hs
  have HHL := Lib.hid hl
  clear hs hl
  go_enter Try.func7, Try.ntmps7
  go_wp2_with fail
  refine (awake5 _).mono ?_
  rintro e w1 ⟨rfl, hb⟩
  have HB1 := Lib.hid hb
  have HS1 := Lib.hid ((HS.out.below hb).more hb.size)
  clear hb
  by_cases hbig : 200000 < n
  · have k1 : decide ((200000 : Int) < (n : Int)) = true := decide_eq_true (by omega)
    clear hbig
    go_wp2_with fail
    refine (awake5 _).mono ?_
    rintro e w2 ⟨rfl, hb⟩
    have HB2 := Lib.hid (HB1.out.trans (hb.mono HB1.out.size))
    clear hb
    go_wp2
    go_ret
    exact ⟨rfl, HB2.out⟩
  · have k1 : decide ((200000 : Int) < (n : Int)) = false := decide_eq_false (by omega)
    have HN := Lib.hid hbig
    have CD := Lib.hid (decode_any A n c zs w1 HS1.out hnc hc)
    clear hbig
    go_wp2_with fail
    refine CD.out.mono ?_
    rintro e w2 ⟨⟨E, hE, rfl, hno⟩ | ⟨tr, hin2, hrd, rfl⟩, hb⟩
    · have n1 : (E != 0) = true := by rw [bne_iff_ne]; exact hE
      have hX := hb.alloc hb.size (.cells #[.int .u32 0, .slice none 0 0, .string ⟨#[]⟩, .slice none 0 0, .slice none 0 0] 40)
      have HB2 := Lib.hid (HB1.out.trans (hX.mono HB1.out.size))
      have CL := Lib.hid (layout_is A n c zs _ ((HS1.out.below hX).more hX.size) hnc hc false ⟨fun h => absurd h (by decide), fun ⟨tr, h, _⟩ => absurd h (hno tr)⟩)
      clear hE hno hb hX
      go_wp2_with fail
      refine CL.out.mono ?_
      rintro e w3 ⟨rfl, hb⟩
      have HB3 := Lib.hid (HB2.out.trans (hb.mono HB2.out.size))
      clear hb
      go_wp2
      go_ret
      exact ⟨rfl, HB3.out⟩
    · obtain ⟨BT, hBT⟩ : ∃ BT, blobT tr = BT := ⟨_, rfl⟩
      obtain ⟨hs1, hs2⟩ := hrd.small
      have hn1 := HHL.out
      have hn2 := HN.out
      have hbl : BT.length ≤ 1048576 := by rw [← hBT]; omega
      have HRT := Lib.hid (show ReadT BT tr from by rw [← hBT]; exact read_own hin2.boot hin2.pos hrd.check (by rw [hBT]; exact hbl))
      have HLP := Lib.hid (show LayP BT from ⟨tr, HRT.out, hBT.symm⟩)
      have CE := Lib.hid (fun W h => encode_ok tr BT hBT hrd.check hbl (by omega) W h)
      have HLB : Hid (LayP zs ↔ zs = BT) := Lib.hid ⟨fun ⟨t, h1, h2⟩ => h2.trans ((h1.blob hrd).trans hBT), fun h => ⟨tr, hrd, h.trans hBT.symm⟩⟩
      have CS := Lib.hid (fun (u : Tr) (k : ReadT BT u) W (h1 : tr.In W W.heap.size) (h2 : u.In W W.heap.size) => reftree_any tr u W h1 h2 true (by obtain ⟨a, b, d⟩ := HRT.out.one k; exact sameT_pure a b d))
      have HBU := Lib.hid (fun (u : Tr) (k : ReadT BT u) => show blobT u = BT ∧ checkE u = 0 ∧ heftN u.root ≤ 268435456 from ⟨(k.blob HRT.out).trans hBT, k.check, by have := k.small.1; omega⟩)
      have HIT := Lib.hid hin2
      have HBL := Lib.hid hbl
      have DOK := Lib.hid (fun A n c w h1 h2 h3 => decode_ok A n c BT w h1 h2 h3 tr HRT.out)
      have HB2 := Lib.hid (HB1.out.trans (hb.mono HB1.out.size))
      clear hs1 hs2 hn1 hn2 hbl hBT hrd hin2 hb CD
      obtain ⟨boot, ra, rc, rs, ⟨nm, pa, pc, ps, ka, kc, ks⟩⟩ := tr
      simp only [Tr.val, Tr.rv, Nd.pv, Nd.kv, Nd.name, Nd.pa, Nd.pc, Nd.props, Nd.ka, Nd.kc, Nd.kids] at CE CS ⊢
      have HN2 := Lib.hid ((Below.refl w2.heap.size w2).alloc (Nat.le_refl _) (.cells #[.int .u32 boot, .slice ra rs.length rc, .string nm, .slice pa ps.length pc, .slice ka ks.length kc] 40))
      have HB3 := Lib.hid (HB2.out.trans (HN2.out.mono HB2.out.size))
      have BX := Lib.hid (box_cells w2 (.int .u32 boot) (.slice ra rs.length rc) (.string nm) (.slice pa ps.length pc) (.slice ka ks.length kc))
      obtain ⟨b0, b1, b2, b3, b4⟩ := BX.out _ (Below.refl _ _)
      go_wp2_with fail
      refine (CE.out _ (HIT.out.on HN2.out)).mono ?_
      rintro e w4 ⟨⟨A4, c4, rfl, hs4, hc4, hc4'⟩, hb⟩
      have HX4 := Lib.hid (hb.mono (B' := w2.heap.size + 1) (by simp))
      have HB4 := Lib.hid (HB3.out.trans (hb.mono HB3.out.size))
      have HS4 := Lib.hid hs4
      clear hb b0 b1 b2 b3 b4 hs4
      go_wp2_with fail
      refine (DOK.out A4 BT.length c4 w4 HS4.out hc4 hc4').mono ?_
      rintro e w5 ⟨⟨u, hin5, hru, rfl⟩, hb⟩
      obtain ⟨u1, u2, u3⟩ := HBU.out u hru
      have CE5 := Lib.hid (fun W h => encode_ok u BT u1 u2 HBL.out u3 W h)
      have CS5 := Lib.hid (CS.out u hru)
      have HX5 := Lib.hid (HX4.out.trans (hb.mono (by have := HX4.out.size; simpa using this)))
      have HB5 := Lib.hid (HB4.out.trans (hb.mono HB4.out.size))
      have HS5 := Lib.hid ((HS4.out.below hb).more hb.size)
      have HIU := Lib.hid hin5
      clear hb u1 u2 u3 hru hin5
      obtain ⟨boot', ra', rc', rs', ⟨nm', pa', pc', ps', ka', kc', ks'⟩⟩ := u
      simp only [Tr.val, Tr.rv, Nd.pv, Nd.kv, Nd.name, Nd.pa, Nd.pc, Nd.props, Nd.ka, Nd.kc, Nd.kids] at CE5 CS5 ⊢
      have HN5 := Lib.hid ((Below.refl w5.heap.size w5).alloc (Nat.le_refl _) (.cells #[.int .u32 boot', .slice ra' rs'.length rc', .string nm', .slice pa' ps'.length pc', .slice ka' ks'.length kc'] 40))
      have HB6 := Lib.hid (HB5.out.trans (HN5.out.mono HB5.out.size))
      have HX6 := Lib.hid (HX5.out.trans (HN5.out.mono (by have := HX5.out.size; simpa using this)))
      have HS6 := Lib.hid ((HS5.out.below HN5.out).more HN5.out.size)
      have BX5 := Lib.hid (box_cells w5 (.int .u32 boot') (.slice ra' rs'.length rc') (.string nm') (.slice pa' ps'.length pc') (.slice ka' ks'.length kc'))
      obtain ⟨b0, b1, b2, b3, b4⟩ := BX5.out _ (Below.refl _ _)
      go_wp2_with fail
      refine (CE5.out _ (HIU.out.on HN5.out)).mono ?_
      rintro e w7 ⟨⟨A7, c7, rfl, hs7, hc7, hc7'⟩, hb⟩
      have HY7 := Lib.hid (hb.mono (B' := w5.heap.size + 1) (by simp))
      have HB7 := Lib.hid (HB6.out.trans (hb.mono HB6.out.size))
      have HX7 := Lib.hid (HX6.out.trans (hb.mono (by have := HX6.out.size; simpa using this)))
      have HS7 := Lib.hid ((HS6.out.below hb).more hb.size)
      have HT7 := Lib.hid hs7
      clear hb b0 b1 b2 b3 b4 hs7
      go_wp2_with fail
      have HD7 := Lib.hid (Below.drew (Below.refl w7.heap.size w7))
      have HSS : Hid (∀ W, Below w7.heap.size w7 W → (W.cell? ⟨w2.heap.size, 0, none⟩ = some (.int .u32 boot) ∧ W.cell? ⟨w2.heap.size, 1, none⟩ = some (.slice ra rs.length rc) ∧ W.cell? ⟨w2.heap.size, 2, none⟩ = some (.string nm) ∧ W.cell? ⟨w2.heap.size, 3, none⟩ = some (.slice pa ps.length pc) ∧ W.cell? ⟨w2.heap.size, 4, none⟩ = some (.slice ka ks.length kc) ∧ W.cell? ⟨w5.heap.size, 0, none⟩ = some (.int .u32 boot') ∧ W.cell? ⟨w5.heap.size, 1, none⟩ = some (.slice ra' rs'.length rc') ∧ W.cell? ⟨w5.heap.size, 2, none⟩ = some (.string nm') ∧ W.cell? ⟨w5.heap.size, 3, none⟩ = some (.slice pa' ps'.length pc') ∧ W.cell? ⟨w5.heap.size, 4, none⟩ = some (.slice ka' ks'.length kc') ∧ (convert 26 9 (.slice A4 BT.length c4)).run Try.prog W = .ok (.string (strOfNums BT)) W ∧ (convert 26 9 (.slice A7 BT.length c7)).run Try.prog W = .ok (.string (strOfNums BT)) W ∧ (convert 26 9 (.slice A n c)).run Try.prog W = .ok (.string (strOfNums zs)) W)) := Lib.hid (fun W hW => by
        obtain ⟨b0, b1, b2, b3, b4⟩ := BX.out W (HX7.out.trans (hW.mono (by have := HX7.out.size; simpa using this)))
        obtain ⟨c0, c1, c2, c3, c4⟩ := BX5.out W (HY7.out.trans (hW.mono (by have := HY7.out.size; simpa using this)))
        exact ⟨b0, b1, b2, b3, b4, c0, c1, c2, c3, c4, run_string (HS7.out.below hW) _, run_string (HT7.out.below hW) _, run_string ((HS.out.below HB7.out).below (hW.mono HB7.out.size)) _⟩)
      obtain ⟨q, hq⟩ : ∃ q, decide (zs = BT) = q := ⟨_, rfl⟩
      have qq : (q == q) = true := by simp
      have e1 : ((strOfNums zs).toList == (strOfNums BT).toList) = q := (str_eqz HS.out.2.1 HS7.out.2.1).trans hq
      have CL1 := Lib.hid (layout_is A4 BT.length c4 BT w7.drew ((HS7.out.below HD7.out).more HD7.out.size) hc4 hc4' true ⟨fun _ => HLP.out, fun _ => rfl⟩)
      have HQ := Lib.hid (show q = true ↔ LayP zs from by rw [← hq, decide_eq_true_iff]; exact HLB.out.symm)
      clear hq
      refine wp_region_held_drew (S := fun W => W.cell? ⟨w2.heap.size, 0, none⟩ = some (.int .u32 boot) ∧ W.cell? ⟨w2.heap.size, 1, none⟩ = some (.slice ra rs.length rc) ∧ W.cell? ⟨w2.heap.size, 2, none⟩ = some (.string nm) ∧ W.cell? ⟨w2.heap.size, 3, none⟩ = some (.slice pa ps.length pc) ∧ W.cell? ⟨w2.heap.size, 4, none⟩ = some (.slice ka ks.length kc) ∧ W.cell? ⟨w5.heap.size, 0, none⟩ = some (.int .u32 boot') ∧ W.cell? ⟨w5.heap.size, 1, none⟩ = some (.slice ra' rs'.length rc') ∧ W.cell? ⟨w5.heap.size, 2, none⟩ = some (.string nm') ∧ W.cell? ⟨w5.heap.size, 3, none⟩ = some (.slice pa' ps'.length pc') ∧ W.cell? ⟨w5.heap.size, 4, none⟩ = some (.slice ka' ks'.length kc') ∧ (convert 26 9 (.slice A4 BT.length c4)).run Try.prog W = .ok (.string (strOfNums BT)) W ∧ (convert 26 9 (.slice A7 BT.length c7)).run Try.prog W = .ok (.string (strOfNums BT)) W ∧ (convert 26 9 (.slice A n c)).run Try.prog W = .ok (.string (strOfNums zs)) W) (by kernel_rfl) (HSS.out _ HD7.out) (fun hHeld => ?_)
      refine held_take 0 rfl (by kernel_rfl) (by kernel_rfl) (by kernel_rfl) (fun _ _ _ h => h) (by rfl) hHeld (v := ?_) (fun w hSw => ?_) (fun _ => ?_)
      rotate_left
      · ((try dsimp only at hSw); go_simp; (try with_reducible rfl))
      simp only [Act.put, List.setIfInBounds_toArray, List.set_cons_zero, List.set_cons_succ]
      refine held_take 1 rfl (by kernel_rfl) (by kernel_rfl) (by kernel_rfl) (fun _ _ _ h => h) (by rfl) hHeld (v := ?_) (fun w hSw => ?_) (fun _ => ?_)
      rotate_left
      · ((try dsimp only at hSw); go_simp; (try with_reducible rfl))
      simp only [Act.put, List.setIfInBounds_toArray, List.set_cons_zero, List.set_cons_succ]
      refine held_take 2 rfl (by kernel_rfl) (by kernel_rfl) (by kernel_rfl) (fun _ _ _ h => h) (by rfl) hHeld (v := ?_) (fun w hSw => ?_) (fun _ => ?_)
      rotate_left
      · ((try dsimp only at hSw); go_simp; (try with_reducible rfl))
      simp only [Act.put, List.setIfInBounds_toArray, List.set_cons_zero, List.set_cons_succ]
      refine held_take 3 rfl (by kernel_rfl) (by kernel_rfl) (by kernel_rfl) (fun _ _ _ h => h) (by rfl) hHeld (v := ?_) (fun w hSw => ?_) (fun _ => ?_)
      rotate_left
      · ((try dsimp only at hSw); go_simp; (try with_reducible rfl))
      simp only [Act.put, List.setIfInBounds_toArray, List.set_cons_zero, List.set_cons_succ]
      refine held_take 4 rfl (by kernel_rfl) (by kernel_rfl) (by kernel_rfl) (fun _ _ _ h => h) (by rfl) hHeld (v := ?_) (fun w hSw => ?_) (fun _ => ?_)
      rotate_left
      · ((try dsimp only at hSw); go_simp; (try with_reducible rfl))
      simp only [Act.put, List.setIfInBounds_toArray, List.set_cons_zero, List.set_cons_succ]
      refine held_take 5 rfl (by kernel_rfl) (by kernel_rfl) (by kernel_rfl) (fun _ _ _ h => h) (by rfl) hHeld (v := ?_) (fun w hSw => ?_) (fun _ => ?_)
      rotate_left
      · ((try dsimp only at hSw); go_simp; (try with_reducible rfl))
      simp only [Act.put, List.setIfInBounds_toArray, List.set_cons_zero, List.set_cons_succ]
      refine held_take 6 rfl (by kernel_rfl) (by kernel_rfl) (by kernel_rfl) (fun _ _ _ h => h) (by rfl) hHeld (v := ?_) (fun w hSw => ?_) (fun _ => ?_)
      rotate_left
      · ((try dsimp only at hSw); go_simp; (try with_reducible rfl))
      simp only [Act.put, List.setIfInBounds_toArray, List.set_cons_zero, List.set_cons_succ]
      refine held_take 7 rfl (by kernel_rfl) (by kernel_rfl) (by kernel_rfl) (fun _ _ _ h => h) (by rfl) hHeld (v := ?_) (fun w hSw => ?_) (fun _ => ?_)
      rotate_left
      · ((try dsimp only at hSw); go_simp; (try with_reducible rfl))
      simp only [Act.put, List.setIfInBounds_toArray, List.set_cons_zero, List.set_cons_succ]
      refine held_take 8 rfl (by kernel_rfl) (by kernel_rfl) (by kernel_rfl) (fun _ _ _ h => h) (by rfl) hHeld (v := ?_) (fun w hSw => ?_) (fun _ => ?_)
      rotate_left
      · ((try dsimp only at hSw); go_simp; (try with_reducible rfl))
      simp only [Act.put, List.setIfInBounds_toArray, List.set_cons_zero, List.set_cons_succ]
      refine held_take 9 rfl (by kernel_rfl) (by kernel_rfl) (by kernel_rfl) (fun _ _ _ h => h) (by rfl) hHeld (v := ?_) (fun w hSw => ?_) (fun _ => ?_)
      rotate_left
      · ((try dsimp only at hSw); go_simp; (try with_reducible rfl))
      simp only [Act.put, List.setIfInBounds_toArray, List.set_cons_zero, List.set_cons_succ]
      refine held_take 10 rfl (by kernel_rfl) (by kernel_rfl) (by kernel_rfl) (fun _ _ _ h => h) (by rfl) hHeld (v := ?_) (fun w hSw => ?_) (fun _ => ?_)
      rotate_left
      · ((try dsimp only at hSw); go_simp; (try with_reducible rfl))
      simp only [Act.put, List.setIfInBounds_toArray, List.set_cons_zero, List.set_cons_succ]
      refine held_take 11 rfl (by kernel_rfl) (by kernel_rfl) (by kernel_rfl) (fun _ _ _ h => h) (by rfl) hHeld (v := ?_) (fun w hSw => ?_) (fun _ => ?_)
      rotate_left
      · ((try dsimp only at hSw); go_simp; (try with_reducible rfl))
      simp only [Act.put, List.setIfInBounds_toArray, List.set_cons_zero, List.set_cons_succ]
      refine held_call 12 (by kernel_rfl) rfl (by rfl) (fun K hK => ?_)
      go_simp
      refine (CL1.out).mono ?_
      rintro e w8 ⟨rfl, hb⟩
      have HZ8 := Lib.hid (HD7.out.trans (hb.mono HD7.out.size))
      clear hb
      dsimp only
      refine hK.out _ _ (HSS.out _ HZ8.out) (fun hHeld => ?_)
      clear hK K
      refine held_take 13 rfl (by kernel_rfl) (by kernel_rfl) (by kernel_rfl) (fun _ _ _ h => h) (by rfl) hHeld (v := ?_) (fun w hSw => ?_) (fun _ => ?_)
      rotate_left
      · ((try dsimp only at hSw); go_simp; (try with_reducible rfl))
      simp only [Act.put, List.setIfInBounds_toArray, List.set_cons_zero, List.set_cons_succ]
      refine held_take 14 rfl (by kernel_rfl) (by kernel_rfl) (by kernel_rfl) (fun _ _ _ h => h) (by rfl) hHeld (v := ?_) (fun w hSw => ?_) (fun _ => ?_)
      rotate_left
      · ((try dsimp only at hSw); go_simp; (try with_reducible rfl))
      simp only [Act.put, List.setIfInBounds_toArray, List.set_cons_zero, List.set_cons_succ]
      refine held_take 15 rfl (by kernel_rfl) (by kernel_rfl) (by kernel_rfl) (fun _ _ _ h => h) (by rfl) hHeld (v := ?_) (fun w hSw => ?_) (fun _ => ?_)
      rotate_left
      · ((try dsimp only at hSw); go_simp; (try with_reducible rfl))
      simp only [Act.put, List.setIfInBounds_toArray, List.set_cons_zero, List.set_cons_succ]
      refine held_take 16 rfl (by kernel_rfl) (by kernel_rfl) (by kernel_rfl) (fun _ _ _ h => h) (by rfl) hHeld (v := ?_) (fun w hSw => ?_) (fun _ => ?_)
      rotate_left
      · ((try dsimp only at hSw); go_simp; (try with_reducible rfl))
      simp only [Act.put, List.setIfInBounds_toArray, List.set_cons_zero, List.set_cons_succ]
      refine held_call 17 (by kernel_rfl) rfl (by rfl) (fun K hK => ?_)
      go_simp
      refine (CS5.out w8 (HIT.out.on (HN2.out.trans ((HX7.out.trans (HZ8.out.mono (by have := HX7.out.size; simpa using this))).mono (by omega)))) (HIU.out.on (HN5.out.trans ((HY7.out.trans (HZ8.out.mono (by have := HY7.out.size; simpa using this))).mono (by omega))))).mono ?_
      rintro e w9 ⟨rfl, hb⟩
      have HZ9 := Lib.hid (HZ8.out.trans (hb.mono HZ8.out.size))
      clear hb
      dsimp only
      refine hK.out _ _ (HSS.out _ HZ9.out) (fun hHeld => ?_)
      clear hK K
      refine held_take 18 rfl (by kernel_rfl) (by kernel_rfl) (by kernel_rfl) (fun _ _ _ h => h) (by rfl) hHeld (v := ?_) (fun w hSw => ?_) (fun _ => ?_)
      rotate_left
      · ((try dsimp only at hSw); go_simp; (try with_reducible rfl))
      simp only [Act.put, List.setIfInBounds_toArray, List.set_cons_zero, List.set_cons_succ]
      refine held_take 19 rfl (by kernel_rfl) (by kernel_rfl) (by kernel_rfl) (fun _ _ _ h => h) (by rfl) hHeld (v := ?_) (fun w hSw => ?_) (fun _ => ?_)
      rotate_left
      · ((try dsimp only at hSw); go_simp; (try with_reducible rfl))
      simp only [Act.put, List.setIfInBounds_toArray, List.set_cons_zero, List.set_cons_succ]
      refine held_take 20 rfl (by kernel_rfl) (by kernel_rfl) (by kernel_rfl) (fun _ _ _ h => h) (by rfl) hHeld (v := ?_) (fun w hSw => ?_) (fun _ => ?_)
      rotate_left
      · ((try dsimp only at hSw); go_simp; (try with_reducible rfl))
      simp only [Act.put, List.setIfInBounds_toArray, List.set_cons_zero, List.set_cons_succ]
      refine held_take 21 rfl (by kernel_rfl) (by kernel_rfl) (by kernel_rfl) (fun _ _ _ h => h) (by rfl) hHeld (v := ?_) (fun w hSw => ?_) (fun _ => ?_)
      rotate_left
      · ((try dsimp only at hSw); go_simp; (try with_reducible rfl))
      simp only [Act.put, List.setIfInBounds_toArray, List.set_cons_zero, List.set_cons_succ]
      refine held_take 22 rfl (by kernel_rfl) (by kernel_rfl) (by kernel_rfl) (fun _ _ _ h => h) (by rfl) hHeld (v := ?_) (fun w hSw => ?_) (fun _ => ?_)
      rotate_left
      · ((try dsimp only at hSw); go_simp; (try with_reducible rfl))
      simp only [Act.put, List.setIfInBounds_toArray, List.set_cons_zero, List.set_cons_succ]
      refine held_take 23 rfl (by kernel_rfl) (by kernel_rfl) (by kernel_rfl) (fun _ _ _ h => h) (by rfl) hHeld (v := ?_) (fun w hSw => ?_) (fun _ => ?_)
      rotate_left
      · ((try dsimp only at hSw); go_simp; (try with_reducible rfl))
      simp only [Act.put, List.setIfInBounds_toArray, List.set_cons_zero, List.set_cons_succ]
      refine held_take 24 rfl (by kernel_rfl) (by kernel_rfl) (by kernel_rfl) (fun _ _ _ h => h) (by rfl) hHeld (v := ?_) (fun w hSw => ?_) (fun _ => ?_)
      rotate_left
      · ((try dsimp only at hSw); go_simp; (try with_reducible rfl))
      simp only [Act.put, List.setIfInBounds_toArray, List.set_cons_zero, List.set_cons_succ]
      refine held_take 25 rfl (by kernel_rfl) (by kernel_rfl) (by kernel_rfl) (fun _ _ _ h => h) (by rfl) hHeld (v := ?_) (fun w hSw => ?_) (fun _ => ?_)
      rotate_left
      · ((try dsimp only at hSw); go_simp; (try with_reducible rfl))
      simp only [Act.put, List.setIfInBounds_toArray, List.set_cons_zero, List.set_cons_succ]
      refine held_take 26 rfl (by kernel_rfl) (by kernel_rfl) (by kernel_rfl) (fun _ _ _ h => h) (by rfl) hHeld (v := ?_) (fun w hSw => ?_) (fun _ => ?_)
      rotate_left
      · ((try dsimp only at hSw); go_simp; (try with_reducible rfl))
      simp only [Act.put, List.setIfInBounds_toArray, List.set_cons_zero, List.set_cons_succ]
      refine held_take 27 rfl (by kernel_rfl) (by kernel_rfl) (by kernel_rfl) (fun _ _ _ h => h) (by rfl) hHeld (v := ?_) (fun w hSw => ?_) (fun _ => ?_)
      rotate_left
      · ((try dsimp only at hSw); go_simp; (try with_reducible rfl))
      simp only [Act.put, List.setIfInBounds_toArray, List.set_cons_zero, List.set_cons_succ]
      refine held_take 29 rfl (by kernel_rfl) (by kernel_rfl) (by kernel_rfl) (fun _ _ _ h => h) (by rfl) hHeld (v := ?_) (fun w hSw => ?_) (fun _ => ?_)
      rotate_left
      · ((try dsimp only at hSw); go_simp; (try with_reducible rfl))
      simp only [Act.put, List.setIfInBounds_toArray, List.set_cons_zero, List.set_cons_succ]
      refine held_take 30 rfl (by kernel_rfl) (by kernel_rfl) (by kernel_rfl) (fun _ _ _ h => h) (by rfl) hHeld (v := ?_) (fun w hSw => ?_) (fun _ => ?_)
      rotate_left
      · ((try dsimp only at hSw); go_simp; (try with_reducible rfl))
      simp only [Act.put, List.setIfInBounds_toArray, List.set_cons_zero, List.set_cons_succ]
      refine held_take 31 rfl (by kernel_rfl) (by kernel_rfl) (by kernel_rfl) (fun _ _ _ h => h) (by rfl) hHeld (v := ?_) (fun w hSw => ?_) (fun _ => ?_)
      rotate_left
      · ((try dsimp only at hSw); go_simp; (try with_reducible rfl))
      simp only [Act.put, List.setIfInBounds_toArray, List.set_cons_zero, List.set_cons_succ]
      refine held_take 32 rfl (by kernel_rfl) (by kernel_rfl) (by kernel_rfl) (fun _ _ _ h => h) (by rfl) hHeld (v := ?_) (fun w hSw => ?_) (fun _ => ?_)
      rotate_left
      · ((try dsimp only at hSw); go_simp; (try with_reducible rfl))
      simp only [Act.put, List.setIfInBounds_toArray, List.set_cons_zero, List.set_cons_succ]
      refine held_take 33 rfl (by kernel_rfl) (by kernel_rfl) (by kernel_rfl) (fun _ _ _ h => h) (by rfl) hHeld (v := ?_) (fun w hSw => ?_) (fun _ => ?_)
      rotate_left
      · ((try dsimp only at hSw); go_simp; (try with_reducible rfl))
      simp only [Act.put, List.setIfInBounds_toArray, List.set_cons_zero, List.set_cons_succ]
      have CL3 := Lib.hid (layout_is A n c zs w9 ((((HS.out.below HB7.out).more HB7.out.size).below HZ9.out).more HZ9.out.size) hnc hc q HQ.out)
      refine held_call 28 (by kernel_rfl) rfl (by rfl) (fun K hK => ?_)
      go_simp
      refine (CL3.out).mono ?_
      rintro e w10 ⟨rfl, hb⟩
      have HZ10 := Lib.hid (HZ9.out.trans (hb.mono HZ9.out.size))
      clear hb
      dsimp only
      refine hK.out _ _ (HSS.out _ HZ10.out) (fun hHeld => ?_)
      clear hK K
      refine held_take 34 rfl (by kernel_rfl) (by kernel_rfl) (by kernel_rfl) (fun _ _ _ h => h) (by rfl) hHeld (v := ?_) (fun w hSw => ?_) (fun _ => ?_)
      rotate_left
      · ((try dsimp only at hSw); go_simp; (try with_reducible rfl))
      simp only [Act.put, List.setIfInBounds_toArray, List.set_cons_zero, List.set_cons_succ]
      refine held_take 35 rfl (by kernel_rfl) (by kernel_rfl) (by kernel_rfl) (fun _ _ _ h => h) (by rfl) hHeld (v := ?_) (fun w hSw => ?_) (fun _ => ?_)
      rotate_left
      · ((try dsimp only at hSw); go_simp; (try with_reducible rfl))
      simp only [Act.put, List.setIfInBounds_toArray, List.set_cons_zero, List.set_cons_succ]
      refine held_take 36 rfl (by kernel_rfl) (by kernel_rfl) (by kernel_rfl) (fun _ _ _ h => h) (by rfl) hHeld (v := ?_) (fun w hSw => ?_) (fun _ => ?_)
      rotate_left
      · ((try dsimp only at hSw); go_simp; (try with_reducible rfl))
      simp only [Act.put, List.setIfInBounds_toArray, List.set_cons_zero, List.set_cons_succ]
      refine wpAnyH_done (by kernel_rfl) ?_ _
      clear hHeld
      have HBZ := Lib.hid (HB7.out.trans (HZ10.out.mono HB7.out.size))
      go_wp2
      go_ret
      exact ⟨rfl, HBZ.out⟩
end Go.Proofs.Ytnopcnbeklbfoaa
