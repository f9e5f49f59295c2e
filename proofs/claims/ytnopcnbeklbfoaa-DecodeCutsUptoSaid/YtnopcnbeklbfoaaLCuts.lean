/-
  Layer 4, DecodeCuts: of a formed tree's bytes that are cut off, or have others behind them, nothing is read.
-/
import Derived.Test.YtnopcnbeklbfoaaDBlob
import Derived.Test.YtnopcnbeklbfoaaTCheck
namespace Go.Proofs.Ytnopcnbeklbfoaa
open Go.RowKit
set_option linter.unusedVariables false
set_option linter.unusedSimpArgs false

/-- Bytes whose header is not theirs. -/
theorem decode_bad (A : Option Addr) (n c : Nat) (zs : List Int) (w : World) (hs : Shows w w.heap.size A n zs) (hnc : n ≤ c) (hc : c ≤ 9223372036854775807)
    (h : 40 ≤ n → hcell zs 0 = 3490578157 ∧ hcell zs 5 = 17 ∧ hcell zs 6 = 16 ∧ hcell zs 1 ≠ n) :
    Calls Try.prog 16 #[.slice A n c] w fun e w' => e = .returned (.tuple #[.agg #[.int .u32 0, .slice none 0 0, .string ⟨#[]⟩, .slice none 0 0, .slice none 0 0], .int .i64 4]) ∧ Below w.heap.size w w' := by
  by_cases h1 : 40 ≤ n ∧ n ≤ 1048576
  · obtain ⟨a0, a5, a6, a1⟩ := h h1.1
    refine decode_err A n c (hcell zs) w 4 (by decide) (fun o => ?_)
    refine header_yes A n c zs (w.alloc o) ((hs.below ((Below.refl _ _).alloc (Nat.le_refl _) o)).more (by simp)) h1.1 h1.2 hnc (by unfold maxLen; exact hc) 4 ?_
    rw [headE, if_pos a0, if_pos ⟨a5, a6⟩, if_neg (fun k => a1 k.1)]
  · exact decode_err A n c (fun _ => 0) w 4 (by decide) (fun o => (header_no A n c (fun _ => 0) (w.alloc o) (by omega) (by omega)).mono fun e w' k => ⟨k.1, by rw [k.2]; exact (Below.refl _ _).alloc (Nat.le_refl _) _⟩)

theorem numTo_more (zs ys : List Int) (a : Nat) : ∀ k, a + k ≤ zs.length → numTo (zs ++ ys) a k = numTo zs a k
  | 0, _ => rfl
  | k + 1, h => by
    have ih := numTo_more zs ys a k (by omega)
    simp only [numTo, ih]
    congr 1
    simp [List.getD, List.getElem?_append_left (show a + k < zs.length by omega)]
theorem hcell_more (zs ys : List Int) (k : Nat) (hk : k < 10) (h : 40 ≤ zs.length) : hcell (zs ++ ys) k = hcell zs k := numTo_more zs ys (k * 4) 4 (by omega)
theorem hcell_take (zs : List Int) (m k : Nat) (hk : k < 10) (h : 40 ≤ m) (hm : m ≤ zs.length) : hcell (zs.take m) k = hcell zs k := by
  have e := hcell_more (zs.take m) (zs.drop m) k hk (by rw [List.length_take]; omega)
  rw [List.take_append_drop] at e
  exact e.symm

/-- A blob's first cells. -/
theorem blob_head (t : Tr) (hb : 0 ≤ t.boot ∧ t.boot ≤ 4294967295) (h : 40 + (reserveT t).length + (structT t).length + (textB (textsT t)).length ≤ 4294967295) (k : Nat) (hk : k < 10) : hcell (blobT t) k = headT t k := by
  have hall : ∀ j, j < 10 → (headT t j : Int) ≤ 4294967295 := by
    intro j hj
    rcases (by omega : j = 0 ∨ j = 1 ∨ j = 2 ∨ j = 3 ∨ j = 4 ∨ j = 5 ∨ j = 6 ∨ j = 7 ∨ j = 8 ∨ j = 9) with rfl | rfl | rfl | rfl | rfl | rfl | rfl | rfl | rfl | rfl
    all_goals simp only [headT, List.getD_cons_zero, List.getD_cons_succ]
    all_goals omega
  have hf : ∀ i, 0 ≤ (if i < 10 then (headT t i : Int) else 0) ∧ (if i < 10 then (headT t i : Int) else 0) ≤ 4294967295 := by
    intro i
    by_cases hi : i < 10
    · rw [if_pos hi]; exact ⟨by omega, hall i hi⟩
    · rw [if_neg hi]; omega
  have e : fours (fun k => (headT t k : Int)) 10 = fours (fun i => if i < 10 then (headT t i : Int) else 0) 10 := by
    unfold fours
    rw [List.flatMap_def, List.flatMap_def]
    refine congrArg List.flatten (List.map_congr_left fun j hj => ?_)
    simp only [if_pos (List.mem_range.1 hj)]
  rw [blobT, e, hcell_fours (fun i => if i < 10 then (headT t i : Int) else 0) hf _ k hk, if_pos hk]
theorem blob_length (t : Tr) : (blobT t).length = headT t 1 := by
  simp only [blobT, List.length_append, fours_length, headT, List.getD_cons_zero, List.getD_cons_succ]
  omega
theorem headT_lit (t : Tr) : headT t 0 = 3490578157 ∧ headT t 5 = 17 ∧ headT t 6 = 16 := ⟨rfl, rfl, rfl⟩

theorem Mid.made (W : World) : Mid W.heap.size W (W.alloc (.cells #[] 5)) (.slice (some ⟨W.heap.size, 0, none⟩) 0 0) [] :=
  ⟨World.ownsRow_made W #[] 0 (Nat.le_refl _) (Nat.zero_le _) rfl, (Below.refl _ _).alloc (Nat.le_refl _) _, by simp, by simp⟩

set_option maxRecDepth 100000 in
set_option maxHeartbeats 8000000 in
theorem decodeCuts_true (t : Tr) (cut : Nat) (z : Int) (w : World) (hin : t.In w w.heap.size) (hheft : heftN t.root ≤ 1073741824) (hrs : t.rs.length ≤ 1048576) (hcut : cut ≤ 65535) (hz : 0 ≤ z ∧ z < 256) :
    Calls Try.prog 4 #[t.val, .int .u16 cut, .int .u8 z] w fun e w' => e = .returned (.bool true) ∧ Below w.heap.size w w' := by
  obtain ⟨E, hE⟩ : ∃ E, checkE t = E := ⟨_, rfl⟩
  have C0 := Lib.hid (fun w h => few_any t w h)
  have C1 := Lib.hid (fun w h => refcheck_any t w h E hE)
  have C2 := Lib.hid (fun w h => blob_any t w h hheft hrs)
  obtain ⟨BT, hBT⟩ : ∃ BT, blobT t = BT := ⟨_, rfl⟩
  have hlen : 40 ≤ BT.length ∧ BT.length ≤ 4294967295 := by
    have h1 := textsN_size t.root []
    have h2 := nodeN_length (textsT t) t.root
    have h3 := textB_length (textsT t)
    rw [← hBT, blob_length]
    simp only [headT, List.getD_cons_zero, List.getD_cons_succ, structT, reserveT, List.length_append, resL_length, List.length_replicate, List.length_cons, List.length_nil]
    simp only [textsT, textSize] at h1 h2 h3 ⊢
    omega
  have hHC : ∀ k, k < 10 → hcell BT k = headT t k := fun k hk => by
    rw [← hBT]
    refine blob_head t hin.boot ?_ k hk
    have h := blob_length t
    rw [hBT] at h
    simp only [headT, List.getD_cons_zero, List.getD_cons_succ] at h
    omega
  have HH := Lib.hid (show hcell BT 0 = 3490578157 ∧ hcell BT 5 = 17 ∧ hcell BT 6 = 16 ∧ hcell BT 1 = BT.length from ⟨by rw [hHC 0 (by omega)]; rfl, by rw [hHC 5 (by omega)]; rfl, by rw [hHC 6 (by omega)]; rfl, by rw [hHC 1 (by omega), ← blob_length, hBT]⟩)
  rw [hBT] at C2
  have HI := Lib.hid hin
  clear hE hin hheft hrs hBT hHC
  obtain ⟨boot, ra, rc, rs, ⟨nm, pa, pc, ps, ka, kc, ks⟩⟩ := t
  show Calls _ _ #[.agg #[.int .u32 boot, .slice ra rs.length rc, .string nm, .slice pa ps.length pc, .slice ka ks.length kc], .int .u16 cut, .int .u8 z] _ _
  have HB := Lib.hid ((Below.refl w.heap.size w).alloc (Nat.le_refl _) (.cells #[.int .u32 boot, .slice ra rs.length rc, .string nm, .slice pa ps.length pc, .slice ka ks.length kc] 40))
  have BX := Lib.hid (fun (W : World) (h : Below (w.heap.size + 1) (w.alloc (.cells #[.int .u32 boot, .slice ra rs.length rc, .string nm, .slice pa ps.length pc, .slice ka ks.length kc] 40)) W) => show W.cell? ⟨w.heap.size, 0, none⟩ = some (.int .u32 boot) ∧ W.cell? ⟨w.heap.size, 1, none⟩ = some (.slice ra rs.length rc) ∧ W.cell? ⟨w.heap.size, 2, none⟩ = some (.string nm) ∧ W.cell? ⟨w.heap.size, 3, none⟩ = some (.slice pa ps.length pc) ∧ W.cell? ⟨w.heap.size, 4, none⟩ = some (.slice ka ks.length kc) from
    ⟨(h.cell (Nat.lt_succ_self _)).trans (World.cell?_alloc_new _ _ _ _), (h.cell (Nat.lt_succ_self _)).trans (World.cell?_alloc_new _ _ _ _), (h.cell (Nat.lt_succ_self _)).trans (World.cell?_alloc_new _ _ _ _), (h.cell (Nat.lt_succ_self _)).trans (World.cell?_alloc_new _ _ _ _), (h.cell (Nat.lt_succ_self _)).trans (World.cell?_alloc_new _ _ _ _)⟩)
  go_enter Try.func4, Try.ntmps4
  go_wp2_with fail
  refine (awake4 _).mono ?_
  rintro e w1 ⟨rfl, hb⟩
  have HB1 := Lib.hid (HB.out.trans (hb.mono HB.out.size))
  have HX1 := Lib.hid (hb.mono (B' := w.heap.size + 1) (by simp))
  obtain ⟨b0, b1, b2, b3, b4⟩ := BX.out _ HX1.out
  clear hb
  go_wp2_with fail
  refine (C0.out _ (HI.out.on HB1.out)).mono ?_
  rintro e w2 ⟨⟨r, rfl⟩, hb⟩
  have HB2 := Lib.hid (HB1.out.trans (hb.mono HB1.out.size))
  have HX2 := Lib.hid (HX1.out.trans (hb.mono (by have := HX1.out.size; simpa using this)))
  clear hb b0 b1 b2 b3 b4
  cases r
  · go_wp2_with fail
    refine (awake4 _).mono ?_
    rintro e w3 ⟨rfl, hb⟩
    have HB3 := Lib.hid (HB2.out.trans (hb.mono HB2.out.size))
    clear hb
    go_wp2
    go_ret
    exact ⟨rfl, HB3.out⟩
  · obtain ⟨b0, b1, b2, b3, b4⟩ := BX.out _ HX2.out
    go_wp2_with fail
    refine (C1.out _ (HI.out.on HB2.out)).mono ?_
    rintro e w3 ⟨rfl, hb⟩
    have HB3 := Lib.hid (HB2.out.trans (hb.mono HB2.out.size))
    have HX3 := Lib.hid (HX2.out.trans (hb.mono (by have := HX2.out.size; simpa using this)))
    clear hb b0 b1 b2 b3 b4
    by_cases hE0 : E = 0
    · have e1 : (E != 0) = false := by rw [hE0]; rfl
      clear hE0
      obtain ⟨b0, b1, b2, b3, b4⟩ := BX.out _ HX3.out
      go_wp2_with fail
      refine (C2.out _ (HI.out.on HB3.out)).mono ?_
      rintro e w4 ⟨A, c, rfl, hs, hnc, hcm, hb⟩
      obtain ⟨N, hN⟩ : ∃ N, BT.length = N := ⟨_, rfl⟩
      rw [hN] at hs hnc hlen
      rw [hN]
      obtain ⟨hl1, hl2⟩ := hlen
      obtain ⟨m, hm⟩ : ∃ m, cut % N = m := ⟨_, rfl⟩
      have hmN : m < N := by rw [← hm]; exact Nat.mod_lt _ (by omega)
      have HN := Lib.hid (And.intro hN hm)
      have HB4 := Lib.hid (HB3.out.trans (hb.mono HB3.out.size))
      have r1 := run_upto (P := Try.prog) Try.underlying26 size_u8 A N c (m : Int) m rfl (by omega)
      have HD1 := Lib.hid (decode_bad A m c (BT.take m) w4 (hs.upto (by omega)) (by omega) hcm (fun h => by
        have hh := HH.out
        rw [hcell_take _ _ _ (by omega) h (by rw [hN]; omega), hcell_take _ _ _ (by omega) h (by rw [hN]; omega), hcell_take _ _ _ (by omega) h (by rw [hN]; omega), hcell_take _ _ _ (by omega) h (by rw [hN]; omega)]
        exact ⟨hh.1, hh.2.1, hh.2.2.1, by rw [hh.2.2.2, hN]; omega⟩))
      have HS := Lib.hid hs
      have em : ((cut : Int) % (N : Int)) = (m : Int) := by rw [← hm]; simp
      clear hb hs hN hm b0 b1 b2 b3 b4 e1
      have HM0 := Lib.hid (fun (W : World) => Mid.made W)
      obtain ⟨hz0, hz1⟩ := hz
      go_wp2_with fail
      refine HD1.out.mono ?_
      rintro e w5 ⟨rfl, hb⟩
      have hb6 := hb.trans ((Below.refl w5.heap.size w5).alloc (Nat.le_refl _) (.cells #[.int .u32 0, .slice none 0 0, .string ⟨#[]⟩, .slice none 0 0, .slice none 0 0] 40) |>.mono hb.size)
      have hMa := HM0.out (w5.alloc (.cells #[.int .u32 0, .slice none 0 0, .string ⟨#[]⟩, .slice none 0 0, .slice none 0 0] 40))
      obtain ⟨va, wa, hra, hMb, _⟩ := hMa.append c (((HS.out.below hb6).below ((Below.refl _ _).alloc (by simp; have := hb.size; omega) (.cells #[] 5)))) (by simp only [List.length_nil]; have := HN.out.1; omega) 26
      have esz : (w5.alloc (.cells #[.int .u32 0, .slice none 0 0, .string ⟨#[]⟩, .slice none 0 0, .slice none 0 0] 40)).heap.size = w5.heap.size + 1 := by simp
      rw [esz] at hra
      clear esz
      have hMc := hMb.on ((Below.refl _ _).alloc (Nat.le_refl _) (.cells #[.int .u8 z] 5))
      obtain ⟨vb, wb, hrb, hMd, _⟩ := hMc.append 1 (shows_lit wa [z] 1 _ rfl (by simp; omega) rfl 5) (by simp only [List.nil_append, List.length_cons, List.length_nil]; have := HN.out.1; omega) 26
      rw [List.nil_append] at hMd
      obtain ⟨A2, c2, rfl, hs2, hnc2, hcm2⟩ := hMd.shown
      have hl3 : (BT ++ [z]).length = N + 1 := by rw [List.length_append, HN.out.1]; rfl
      rw [hl3] at hs2 hnc2 hrb
      have HD2 := Lib.hid (decode_bad A2 (N + 1) c2 (BT ++ [z]) wb hs2 hnc2 hcm2 (fun h => by
        have hh := HH.out
        have hb40 : 40 ≤ BT.length := by rw [HN.out.1]; exact hl1
        rw [hcell_more _ _ _ (by omega) hb40, hcell_more _ _ _ (by omega) hb40, hcell_more _ _ _ (by omega) hb40, hcell_more _ _ _ (by omega) hb40]
        exact ⟨hh.1, hh.2.1, hh.2.2.1, by rw [hh.2.2.2, HN.out.1]; omega⟩))
      have hb7 : Below w5.heap.size w5 wb := ((Below.refl w5.heap.size w5).alloc (Nat.le_refl _) (.cells #[.int .u32 0, .slice none 0 0, .string ⟨#[]⟩, .slice none 0 0, .slice none 0 0] 40)).trans (hMd.2.1.mono (by simp))
      have HB7 := Lib.hid (HB4.out.trans ((hb.trans (hb7.mono hb.size)).mono HB4.out.size))
      clear hb hb6 hMa hMb hMc hMd hs2 hl3 hb7
      obtain ⟨M, hM⟩ : ∃ M, N + 1 = M := ⟨_, rfl⟩
      rw [hM] at hrb HD2
      clear hM hnc2
      go_wp2_with (at_builtin; first | (refine Lib.wpList_append_run_sl _ rfl _ _ _ rfl _ _ rfl rfl hra ?_) | (refine Lib.wpList_append_run_sl _ rfl _ _ _ rfl _ _ rfl rfl hrb ?_))
      refine HD2.out.mono ?_
      rintro e w8 ⟨rfl, hb8⟩
      have HB8 := Lib.hid (HB7.out.trans (hb8.mono HB7.out.size))
      clear hb8 hra hrb
      go_wp2
      go_ret
      exact ⟨rfl, HB8.out.alloc HB8.out.size _⟩
    · have e1 : (E != 0) = true := by rw [bne_iff_ne]; exact hE0
      clear hE0
      go_wp2_with fail
      refine (awake4 _).mono ?_
      rintro e w4 ⟨rfl, hb⟩
      have HB4 := Lib.hid (HB3.out.trans (hb.mono HB3.out.size))
      clear hb
      go_wp2
      go_ret
      exact ⟨rfl, HB4.out⟩
end Go.Proofs.Ytnopcnbeklbfoaa
