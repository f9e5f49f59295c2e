/-
  The document's blob: a tree's bytes.
-/
import Derived.Test.YtnopcnbeklbfoaaDNode
import Derived.Test.YtnopcnbeklbfoaaDFours
import Derived.Test.YtnopcnbeklbfoaaTRes
import Derived.Lib.AppendStr
namespace Go.Proofs.Ytnopcnbeklbfoaa
open Go.RowKit
set_option linter.unusedVariables false
set_option linter.unusedSimpArgs false

/-- The eight bytes of a number. -/
def eight (v : Int) : List Int := four (v / 4294967296) ++ four (v % 4294967296)
/-- The reserves' bytes. -/
def resL (rs : List (Int × Int)) : List Int := rs.flatMap fun r => eight r.1 ++ eight r.2
theorem resL_next (rs : List (Int × Int)) (j : Nat) (h : j < rs.length) : resL (rs.take (j + 1)) = resL (rs.take j) ++ (eight rs[j].1 ++ eight rs[j].2) := by
  unfold resL
  rw [take_next rs j h, List.flatMap_append]; simp
theorem resL_length (rs : List (Int × Int)) : (resL rs).length = 16 * rs.length := by
  induction rs with
  | nil => rfl
  | cons r l ih =>
    have e : resL (r :: l) = (eight r.1 ++ eight r.2) ++ resL l := by simp [resL]
    rw [e, List.length_append, ih]
    simp only [eight, four, List.length_append, List.length_cons, List.length_nil]
    omega
/-- The texts' bytes. -/
def textB (l : List ByteArray) : List Int := l.flatMap fun s => strB s ++ [0]
theorem textB_next (l : List ByteArray) (j : Nat) (h : j < l.length) : textB (l.take (j + 1)) = textB (l.take j) ++ (strB l[j] ++ [0]) := by
  unfold textB
  rw [take_next l j h, List.flatMap_append]; simp
theorem textB_length (l : List ByteArray) : (textB l).length = textSize l := by
  induction l with
  | nil => rfl
  | cons s r ih =>
    have e : textB (s :: r) = (strB s ++ [0]) ++ textB r := by simp [textB]
    rw [e, List.length_append, ih]
    simp only [textSize, List.length_append, strB_length, List.length_cons, List.length_nil]

/-! ### How heavy the texts are -/
theorem addT_size (l : List ByteArray) (s : ByteArray) : textSize (addT l s) ≤ textSize l + (s.size + 1) := by
  unfold addT
  split
  · omega
  · rw [textSize_append]; simp only [textSize]; omega
theorem fold_size : ∀ (ps : List PV) (l : List ByteArray), textSize ((ps.map PV.name).foldl addT l) ≤ textSize l + (ps.map heftP).sum
  | [], l => by simp
  | p :: ps, l => by
    have h1 := addT_size l p.name
    have h2 := fold_size ps (addT l p.name)
    simp only [List.map_cons, List.foldl_cons, List.sum_cons]
    have h3 : heftP p = 16 + p.name.size + p.zs.length := rfl
    omega
theorem textsN_size : ∀ (n : Nd) (l : List ByteArray), textSize (textsN n l) ≤ textSize l + heftN n := by
  refine Nd.ind ?_
  intro n ih l
  obtain ⟨nm, pa, pc, ps, ka, kc, ks⟩ := n
  have hl : ∀ (r : List Nd), (∀ k ∈ r, k ∈ ks) → ∀ l, textSize (textsL r l) ≤ textSize l + heftL r := by
    intro r
    induction r with
    | nil => intro _ l; simp [textsL]
    | cons k r ihr =>
      intro hr l
      have h1 := ih k (hr k (by simp)) l
      have h2 := ihr (fun x hx => hr x (by simp [hx])) (textsN k l)
      simp only [textsL, heftL]
      omega
  have h1 := fold_size ps l
  have h2 := hl ks (fun _ h => h) ((ps.map PV.name).foldl addT l)
  simp only [textsN, heftN]
  omega
theorem propsN_heft : ∀ n : Nd, propsN n ≤ heftN n := by
  refine Nd.ind ?_
  intro n ih
  obtain ⟨nm, pa, pc, ps, ka, kc, ks⟩ := n
  have hl : ∀ (r : List Nd), (∀ k ∈ r, k ∈ ks) → propsL r ≤ heftL r := by
    intro r
    induction r with
    | nil => intro _; simp [propsL]
    | cons k r ihr =>
      intro hr
      have h1 := ih k (hr k (by simp))
      have h2 := ihr (fun x hx => hr x (by simp [hx]))
      simp only [propsL, heftL]
      omega
  have h0 : ps.length ≤ (ps.map heftP).sum := by
    clear ih hl
    induction ps with
    | nil => simp
    | cons p r ih =>
      have h3 : heftP p = 16 + p.name.size + p.zs.length := rfl
      simp only [List.length_cons, List.map_cons, List.sum_cons]
      omega
  have h2 := hl ks (fun _ h => h)
  simp only [propsN, heftN]
  omega

/-! ### The whole -/
def textsT (t : Tr) : List ByteArray := textsN t.root []
def structT (t : Tr) : List Int := nodeN (textsT t) t.root ++ [0, 0, 0, 9]
def reserveT (t : Tr) : List Int := resL t.rs ++ List.replicate 16 0
/-- The ten cells of a tree's header. -/
def headT (t : Tr) (k : Nat) : Nat := [3490578157, 40 + (reserveT t).length + (structT t).length + (textB (textsT t)).length, 40 + (reserveT t).length, 40 + (reserveT t).length + (structT t).length, 40, 17, 16, t.boot.toNat, (textB (textsT t)).length, (structT t).length].getD k 0
/-- A tree's bytes. -/
def blobT (t : Tr) : List Int := fours (fun k => (headT t k : Int)) 10 ++ (reserveT t ++ (structT t ++ textB (textsT t)))

theorem Mid.appendStr {B : Nat} {W0 W : World} {v : Value} {zs : List Int} (h : Mid B W0 W v zs) (s : ByteArray) (hbig : zs.length + s.size ≤ 140737488351232) (ty : TypeId) :
    ∃ v' W', (Builtin.append_ #[26, 9] ty #[v, .string s]).run Try.prog W = .ok v' W' ∧ Mid B W0 W' v' (zs ++ strB s) := by
  obtain ⟨i0, hi0, hz0, hz1, hz2⟩ := info_parts info_u8
  obtain ⟨v', W', h1, h2, h3, _⟩ := Lib.run_append_own_string (P := Try.prog) W B 26 9 ty 5 i0 Try.underlying26 Try.underlying9 hi0 hz0 hz1 hz2 v _ _ h.1 s (by unfold maxLen; omega) (by omega) h.2.2.1
  have hb := h.2.1.grown h3 h.2.2.1 (fun q hq => (h.1.lt q hq).1)
  refine ⟨v', W', h1, ?_, hb, Nat.le_trans h.2.2.1 h3.size, fun z hz => (List.mem_append.1 hz).elim (h.2.2.2 z) (strB_byte s z)⟩
  rw [List.length_append, strB_length, u8s, List.map_append]
  have e : Lib.strCells s = u8s (strB s) := by simp [Lib.strCells, strB]
  rw [e] at h2
  exact h2
theorem Mid.appendZeros {B : Nat} {W0 W : World} {v : Value} {zs : List Int} (h : Mid B W0 W v zs) (m : Nat) (hbig : zs.length + m ≤ 140737488351232) (ty : TypeId) :
    ∃ v' W', (Builtin.append_ #[26, 3] ty #[v, .int .i64 (m : Int)]).run Try.prog W = .ok v' W' ∧ Mid B W0 W' v' (zs ++ List.replicate m 0) := by
  obtain ⟨i0, hi0, hz0, hz1, hz2⟩ := info_parts info_u8
  obtain ⟨v', W', h1, h2, h3⟩ := run_append_zeros W i0 hi0 hz0 hz1 hz2 B v _ _ h.1 m hbig h.2.2.1 ty
  have hb := h.2.1.grown h3 h.2.2.1 (fun q hq => (h.1.lt q hq).1)
  refine ⟨v', W', h1, ?_, hb, Nat.le_trans h.2.2.1 h3.size, bytes_more h.2.2.2 m⟩
  rw [List.length_append, List.length_replicate, u8s, List.map_append]
  exact h2
theorem Mid.start (W : World) : Mid W.heap.size W W (.slice none 0 0) [] := ⟨World.ownsRow_nil _ _ _ _, Below.refl _ _, Nat.le_refl _, by simp⟩
/-- A row that is through is only read from here on. -/
theorem Mid.shown {B : Nat} {W0 W : World} {v : Value} {zs : List Int} (h : Mid B W0 W v zs) : ∃ A c, v = .slice A zs.length c ∧ Shows W W.heap.size A zs.length zs ∧ zs.length ≤ c ∧ c ≤ 9223372036854775807 := owned_shows h.1 h.2.2.2
theorem doccell_int (x : Int) (w : World) (h0 : 0 ≤ x) (h1 : x ≤ 4294967295) :
    Calls Try.prog 28 #[.int .i64 x] w fun e w' => ∃ g, e = .returned (.slice (some ⟨g, 0, none⟩) 4 4) ∧ Shows w' w'.heap.size (some ⟨g, 0, none⟩) 4 (four x) ∧ Below w.heap.size w w' := by
  obtain ⟨v, rfl⟩ := Int.eq_ofNat_of_zero_le h0
  exact doccell_any v w (by omega)

set_option maxRecDepth 100000 in
set_option maxHeartbeats 8000000 in
theorem blob_any (t : Tr) (w : World) (hin : t.In w w.heap.size) (hheft : heftN t.root ≤ 1073741824) (hrs : t.rs.length ≤ 1048576) :
    Calls Try.prog 15 #[t.val, .int .i64 0, .int .i64 0] w fun e w' => ∃ A c, e = .returned (.slice A (blobT t).length c) ∧ Shows w' w'.heap.size A (blobT t).length (blobT t) ∧ (blobT t).length ≤ c ∧ c ≤ 9223372036854775807 ∧ Below w.heap.size w w' := by
  have HI := Lib.hid hin
  obtain ⟨TL, hTL⟩ : ∃ TL, textsT t = TL := ⟨_, rfl⟩
  obtain ⟨SL, hSL⟩ : ∃ SL, structT t = SL := ⟨_, rfl⟩
  obtain ⟨RL, hRL⟩ : ∃ RL, reserveT t = RL := ⟨_, rfl⟩
  obtain ⟨XL, hXL⟩ : ∃ XL, textB TL = XL := ⟨_, rfl⟩
  have hts : textSize TL ≤ 1073741824 := by
    have h := textsN_size t.root []
    have e : textsN t.root [] = TL := hTL
    rw [e] at h
    simp only [textSize] at h
    omega
  have hxl : XL.length ≤ 1073741824 := by rw [← hXL, textB_length]; exact hts
  have hsl : SL.length ≤ 1073741828 := by
    have h := nodeN_length (textsT t) t.root
    rw [← hSL]
    simp only [structT, List.length_append, List.length_cons, List.length_nil]
    omega
  have hrl : RL.length ≤ 16777232 := by
    rw [← hRL]
    simp only [reserveT, List.length_append, resL_length, List.length_replicate]
    omega
  have hb0 := hin.boot
  obtain ⟨hrc, hrc2, _⟩ := hin.len
  have HTEXT := Lib.hid (fun (w1 : World) (h : t.In w1 w1.heap.size) => (texts_any t.root w1.heap.size w1.heap.size (.slice none 0 0) [] w1 h.root (Nat.le_refl _) (Nat.le_refl _) (World.ownsRow_nil _ _ _ _) (by have := propsN_heft t.root; simp only [List.length_nil]; omega)).mono (fun e w' (hh : TOut w1 w1.heap.size (.slice none 0 0) (textsN t.root []) e w') => show (∃ A c, e = .returned (.slice A TL.length c) ∧ TL.length ≤ c ∧ c ≤ 9223372036854775807 ∧ TRow w' w'.heap.size A TL) ∧ Below w1.heap.size w1 w' from by
      obtain ⟨v', rfl, h1, h2, h3⟩ := hh
      have e : textsN t.root [] = TL := hTL
      rw [e] at h1
      obtain ⟨A, c, rfl, h4, h5, h6⟩ := trow_of_own h1
      exact ⟨⟨A, c, rfl, h4, h5, h6⟩, ⟨h2.os, h2.tape, h2.output, h2.size, fun i hi => h2.block i hi (by simp [Value.ownBlock])⟩⟩))
  have HNODE := Lib.hid (fun (w1 : World) (A : Option Addr) (c : Nat) (h : t.In w1 w1.heap.size) (hr : TRow w1 w1.heap.size A TL) (h1 : TL.length ≤ c) (h2 : c ≤ 9223372036854775807) => node_any TL t.root A TL.length c w1 h.root hr rfl h1 h2 (by omega) (by omega))
  have HSL : Hid (nodeN TL t.root ++ [0, 0, 0, 9] = SL) := by show _ = _; rw [← hSL, structT, hTL]
  have HRL : Hid (resL t.rs ++ List.replicate 16 0 = RL) := hRL
  have HXL := Lib.hid hXL
  have HEAD := Lib.hid (fun k => show headT t k = [3490578157, 40 + RL.length + SL.length + XL.length, 40 + RL.length, 40 + RL.length + SL.length, 40, 17, 16, t.boot.toNat, XL.length, SL.length].getD k 0 from by rw [headT, hRL, hSL, hTL, hXL])
  have HBLOB : Hid (blobT t = fours (fun k => (headT t k : Int)) 10 ++ (RL ++ (SL ++ XL))) := by show _ = _; rw [blobT, hRL, hSL, hTL, hXL]
  clear hheft hin hTL hSL hRL hXL
  generalize hBT : blobT t = BT at *
  generalize hHT : headT t = HT at *
  obtain ⟨boot, ra, rc, rs, root⟩ := t
  obtain ⟨nm, pa, pc, ps, ka, kc, ks⟩ := root
  replace hb0 : 0 ≤ boot ∧ boot ≤ 4294967295 := hb0
  obtain ⟨hb1, hb2⟩ := hb0
  replace hrs : rs.length ≤ 1048576 := hrs
  replace hrc : rs.length ≤ rc := hrc
  replace hrc2 : rc ≤ 9223372036854775807 := hrc2
  clear hBT hHT
  show Calls _ _ #[.agg #[.int .u32 boot, .slice ra rs.length rc, .string nm, .slice pa ps.length pc, .slice ka ks.length kc], .int .i64 0, .int .i64 0] _ _
  have HB0 := Lib.hid ((Below.refl w.heap.size w).alloc (Nat.le_refl _) (.cells #[.int .u32 boot, .slice ra rs.length rc, .string nm, .slice pa ps.length pc, .slice ka ks.length kc] 40))
  have BX := Lib.hid (fun (W : World) (h : Below (w.heap.size + 1) (w.alloc (.cells #[.int .u32 boot, .slice ra rs.length rc, .string nm, .slice pa ps.length pc, .slice ka ks.length kc] 40)) W) => show W.cell? ⟨w.heap.size, 0, none⟩ = some (.int .u32 boot) ∧ W.cell? ⟨w.heap.size, 1, none⟩ = some (.slice ra rs.length rc) ∧ W.cell? ⟨w.heap.size, 2, none⟩ = some (.string nm) ∧ W.cell? ⟨w.heap.size, 3, none⟩ = some (.slice pa ps.length pc) ∧ W.cell? ⟨w.heap.size, 4, none⟩ = some (.slice ka ks.length kc) from
    ⟨(h.cell (Nat.lt_succ_self _)).trans (World.cell?_alloc_new _ _ _ _), (h.cell (Nat.lt_succ_self _)).trans (World.cell?_alloc_new _ _ _ _), (h.cell (Nat.lt_succ_self _)).trans (World.cell?_alloc_new _ _ _ _), (h.cell (Nat.lt_succ_self _)).trans (World.cell?_alloc_new _ _ _ _), (h.cell (Nat.lt_succ_self _)).trans (World.cell?_alloc_new _ _ _ _)⟩)
  go_enter Try.func15, Try.ntmps15
  go_wp2_with fail
  refine (HTEXT.out _ (HI.out.on HB0.out)).mono ?_
  rintro e w1 ⟨⟨lA, lc, rfl, hl1, hl2, hl3⟩, hb⟩
  have HX1 := Lib.hid (hb.mono (B' := w.heap.size + 1) (by simp))
  have HB1 := Lib.hid (HB0.out.trans (HX1.out.mono (Nat.le_succ _)))
  obtain ⟨x0, x1, x2, x3, x4⟩ := BX.out _ HX1.out
  have HN := Lib.hid (HNODE.out w1 lA lc (HI.out.on HB1.out) hl3 hl1 hl2)
  have HL := Lib.hid hl3
  obtain ⟨TN, hTN⟩ : ∃ TN, TL.length = TN := ⟨_, rfl⟩
  rw [hTN] at hl1 HN
  have HTN := Lib.hid hTN
  rw [HTN.out]
  clear hb hl3 hTN
  go_wp2_with fail
  refine HN.out.mono ?_
  rintro e w2 ⟨sv0, rfl, hown, hb, hz⟩
  have hM0 : Mid w1.heap.size w1 w2 sv0 (nodeN TL (.mk nm pa pc ps ka kc ks)) := ⟨hown, hb, hb.size, hz⟩
  have HM0 := Lib.hid hM0
  have HX2 := Lib.hid (HX1.out.trans (hb.mono (by have := HX1.out.size; simpa using this)))
  clear hown hb hz hM0 x0 x1 x2 x3 x4
  obtain ⟨x0, x1, x2, x3, x4⟩ := BX.out _ HX2.out
  go_wp2_with fail
  go_loop [8, 29] (fun s i => s = sv0 ∧ i = .int .i64 0) (fun _ _ => 0)
  case atStart => exact ⟨rfl, rfl⟩
  case round =>
    obtain ⟨rfl, rfl⟩ := hrel
    have hM1 := HM0.out.on ((Below.refl _ _).alloc (Nat.le_refl _) (.cells #[.int .u8 0, .int .u8 0, .int .u8 0, .int .u8 9] 5))
    obtain ⟨sv, w3, hrun3, hM3, _⟩ := hM1.append 4 (four_new w2 0 0 0 9 (by simp)) (by have h := HSL.out; have h2 := congrArg List.length h; simp only [List.length_append] at h2; omega) 26
    rw [HSL.out] at hM3
    obtain ⟨sA, sc, rfl, hs1, hs2, hs3⟩ := hM3.shown
    obtain ⟨SN, hSN⟩ : ∃ SN, SL.length = SN := ⟨_, rfl⟩
    rw [hSN] at hrun3 hs1 hs2 hsl
    have HSN := Lib.hid hSN
    have HX3 := Lib.hid (HX1.out.trans (hM3.2.1.mono (by have := HX1.out.size; simpa using this)))
    have HL3 := Lib.hid (HL.out.under hM3.2.1)
    have hz3 : w1.heap.size ≤ w3.heap.size := hM3.2.1.size
    have HS3 := Lib.hid hs1
    have hw3 : w.heap.size + 1 ≤ w3.heap.size := by have := HX3.out.size; simpa using this
    have HXA := Lib.hid (fun W (h : Below w3.heap.size w3 W) => HX3.out.trans (h.mono hw3))
    have HBA := Lib.hid (fun W (h : Below w3.heap.size w3 W) => HB0.out.trans ((HXA.out W h).mono (Nat.le_succ _)))
    clear hM1 hM3 hs1 hSN x0 x1 x2 x3 x4
    obtain ⟨x0, x1, x2, x3, x4⟩ := BX.out _ HX3.out
    go_wp2_with (at_builtin; refine Lib.wpList_append_run_sl _ rfl _ _ _ rfl _ _ rfl rfl hrun3 ?_)
    clear hrun3 x0 x1 x2 x3 x4
    go_loopw [9, 41] (fun v i wr => ∃ k : Nat, k ≤ rs.length ∧ i = .int .i64 k ∧ Mid w3.heap.size w3 wr v (resL (rs.take k))) (fun _ i _ => rs.length - (intOf i).toNat)
    case atStart => exact ⟨0, Nat.zero_le _, rfl, Mid.start w3⟩
    case round =>
      obtain ⟨k, hk, rfl, hmid⟩ := hrel
      have HM := Lib.hid hmid
      obtain ⟨x0, x1, x2, x3, x4⟩ := BX.out _ (HXA.out _ hmid.2.1)
      by_cases hlt : k < rs.length
      · obtain ⟨b, o, e, hbb, c0, c1⟩ := (HI.out.under (HBA.out _ hmid.2.1)).rcell (i := k) hlt
        have hnum := HI.out.nums rs[k] (List.getElem_mem hlt)
        have HRK := Lib.hid (fun W (h : Below w3.heap.size w3 W) => show W.cell? ⟨b, o + k * 2, none⟩ = some (.int .u64 rs[k].1) ∧ W.cell? ⟨b, o + k * 2 + 1, none⟩ = some (.int .u64 rs[k].2) from by
          obtain ⟨b', o', e', _, d0, d1⟩ := (HI.out.under (HBA.out _ h)).rcell (i := k) hlt
          obtain ⟨rfl, rfl⟩ : b' = b ∧ o' = o := by rw [e] at e'; injection e' with e'; injection e' with e1 e2; exact ⟨e1.symm, e2.symm⟩
          exact ⟨d0, d1⟩)
        obtain rfl : ra = _ := e
        replace c0 : _ = some (Value.int .u64 rs[k].1) := c0
        replace c1 : _ = some (Value.int .u64 rs[k].2) := c1
        have HNX := Lib.hid (resL_next rs k hlt)
        have hln : (resL (rs.take k)).length ≤ 16777216 := by rw [resL_length, List.length_take]; omega
        obtain ⟨x, hx⟩ : ∃ x, rs[k].1 = x := ⟨_, rfl⟩
        obtain ⟨y, hy⟩ : ∃ y, rs[k].2 = y := ⟨_, rfl⟩
        rw [hx] at c0 hnum HNX
        rw [hy] at c1 hnum HNX
        have HRK2 : Hid (∀ W, Below w3.heap.size w3 W → W.cell? ⟨b, o + k * 2, none⟩ = some (.int .u64 x) ∧ W.cell? ⟨b, o + k * 2 + 1, none⟩ = some (.int .u64 y)) := fun W h => by have := HRK.out W h; rw [hx, hy] at this; exact this
        obtain ⟨⟨hx0, hx1⟩, hy0, hy1⟩ := hnum
        generalize resL (rs.take k) = Z at *
        clear hmid hx hy HRK
        go_wp2_with fail
        refine wp_region_held_drew (S := fun W => W.cell? ⟨w.heap.size, 1, none⟩ = some (.slice (some ⟨b, o, none⟩) rs.length rc) ∧ W.cell? ⟨b, o + k * 2, none⟩ = some (.int .u64 x) ∧ W.cell? ⟨b, o + k * 2 + 1, none⟩ = some (.int .u64 y)) (by kernel_rfl) ⟨x1, c0, c1⟩ (fun hHeld => ?_)
        have HS := Lib.hid (fun W (h : Below w3.heap.size w3 W) => show W.cell? ⟨w.heap.size, 1, none⟩ = some (.slice (some ⟨b, o, none⟩) rs.length rc) ∧ W.cell? ⟨b, o + k * 2, none⟩ = some (.int .u64 x) ∧ W.cell? ⟨b, o + k * 2 + 1, none⟩ = some (.int .u64 y) from ⟨(BX.out _ (HXA.out _ h)).2.1, HRK2.out W h⟩)
        refine held_take 0 rfl (by kernel_rfl) (by kernel_rfl) (by kernel_rfl) (fun _ _ _ h => h) (by rfl) hHeld (v := ?_) (fun w hSw => ?_) (fun _ => ?_)
        rotate_left
        · ((try dsimp only at hSw); go_simp; (try with_reducible rfl))
        simp only [Act.put, List.setIfInBounds_toArray, List.set_cons_zero, List.set_cons_succ]
        refine held_take 1 rfl (by kernel_rfl) (by kernel_rfl) (by kernel_rfl) (fun _ _ _ h => h) (by rfl) hHeld (v := ?_) (fun w hSw => ?_) (fun _ => ?_)
        rotate_left
        · ((try dsimp only at hSw); go_simp; (try with_reducible rfl))
        simp only [Act.put, List.setIfInBounds_toArray, List.set_cons_zero, List.set_cons_succ]
        refine held_take 2 rfl (by kernel_rfl) (by kernel_rfl) (by kernel_rfl) (fun _ _ _ h => h) (by rfl) hHeld (v := ?_) (fun w hSw => ?_) (fun _ => ?_)
        rotate_left
        · ((try dsimp only at hSw); go_simp; (try with_reducible rfl))
        simp only [Act.put, List.setIfInBounds_toArray, List.set_cons_zero, List.set_cons_succ]
        refine held_take 3 rfl (by kernel_rfl) (by kernel_rfl) (by kernel_rfl) (fun _ _ _ h => h) (by rfl) hHeld (v := ?_) (fun w hSw => ?_) (fun _ => ?_)
        rotate_left
        · ((try dsimp only at hSw); go_simp; (try with_reducible rfl))
        simp only [Act.put, List.setIfInBounds_toArray, List.set_cons_zero, List.set_cons_succ]
        refine held_take 4 rfl (by kernel_rfl) (by kernel_rfl) (by kernel_rfl) (fun _ _ _ h => h) (by rfl) hHeld (v := ?_) (fun w hSw => ?_) (fun _ => ?_)
        rotate_left
        · ((try dsimp only at hSw); go_simp; (try with_reducible rfl))
        simp only [Act.put, List.setIfInBounds_toArray, List.set_cons_zero, List.set_cons_succ]
        refine held_take 5 rfl (by kernel_rfl) (by kernel_rfl) (by kernel_rfl) (fun _ _ _ h => h) (by rfl) hHeld (v := ?_) (fun w hSw => ?_) (fun _ => ?_)
        rotate_left
        · ((try dsimp only at hSw); go_simp; (try with_reducible rfl))
        simp only [Act.put, List.setIfInBounds_toArray, List.set_cons_zero, List.set_cons_succ]
        refine held_take 6 rfl (by kernel_rfl) (by kernel_rfl) (by kernel_rfl) (fun _ _ _ h => h) (by rfl) hHeld (v := ?_) (fun w hSw => ?_) (fun _ => ?_)
        rotate_left
        · ((try dsimp only at hSw); go_simp; (try with_reducible rfl))
        simp only [Act.put, List.setIfInBounds_toArray, List.set_cons_zero, List.set_cons_succ]
        refine held_take 9 rfl (by kernel_rfl) (by kernel_rfl) (by kernel_rfl) (fun _ _ _ h => h) (by rfl) hHeld (v := ?_) (fun w hSw => ?_) (fun _ => ?_)
        rotate_left
        · ((try dsimp only at hSw); go_simp; (try with_reducible rfl))
        simp only [Act.put, List.setIfInBounds_toArray, List.set_cons_zero, List.set_cons_succ]
        refine held_take 10 rfl (by kernel_rfl) (by kernel_rfl) (by kernel_rfl) (fun _ _ _ h => h) (by rfl) hHeld (v := ?_) (fun w hSw => ?_) (fun _ => ?_)
        rotate_left
        · ((try dsimp only at hSw); go_simp; (try with_reducible rfl))
        simp only [Act.put, List.setIfInBounds_toArray, List.set_cons_zero, List.set_cons_succ]
        refine held_take 11 rfl (by kernel_rfl) (by kernel_rfl) (by kernel_rfl) (fun _ _ _ h => h) (by rfl) hHeld (v := ?_) (fun w hSw => ?_) (fun _ => ?_)
        rotate_left
        · ((try dsimp only at hSw); go_simp; (try with_reducible rfl))
        simp only [Act.put, List.setIfInBounds_toArray, List.set_cons_zero, List.set_cons_succ]
        refine held_take 12 rfl (by kernel_rfl) (by kernel_rfl) (by kernel_rfl) (fun _ _ _ h => h) (by rfl) hHeld (v := ?_) (fun w hSw => ?_) (fun _ => ?_)
        rotate_left
        · ((try dsimp only at hSw); go_simp; (try with_reducible rfl))
        simp only [Act.put, List.setIfInBounds_toArray, List.set_cons_zero, List.set_cons_succ]
        refine held_take 13 rfl (by kernel_rfl) (by kernel_rfl) (by kernel_rfl) (fun _ _ _ h => h) (by rfl) hHeld (v := ?_) (fun w hSw => ?_) (fun _ => ?_)
        rotate_left
        · ((try dsimp only at hSw); go_simp; (try with_reducible rfl))
        simp only [Act.put, List.setIfInBounds_toArray, List.set_cons_zero, List.set_cons_succ]
        refine held_take 14 rfl (by kernel_rfl) (by kernel_rfl) (by kernel_rfl) (fun _ _ _ h => h) (by rfl) hHeld (v := ?_) (fun w hSw => ?_) (fun _ => ?_)
        rotate_left
        · ((try dsimp only at hSw); go_simp; (try with_reducible rfl))
        simp only [Act.put, List.setIfInBounds_toArray, List.set_cons_zero, List.set_cons_succ]
        refine held_call 7 (by kernel_rfl) rfl (by rfl) (fun K hK => ?_)
        go_simp
        refine (bytes_eight x _ hx0 hx1).mono ?_
        rintro e w5 ⟨g5, rfl, hs5, hb5⟩
        have hM5 := HM.out.drew.on hb5
        dsimp only
        refine hK.out _ _ (HS.out _ hM5.2.1) (fun hHeld => ?_)
        clear hK K
        obtain ⟨v6, w6, hrun6, hM6, _⟩ := hM5.append 8 hs5 (by simp only [List.length_append, List.length_cons, List.length_nil, four]; omega) 26
        clear hs5 hb5 hM5
        refine held_call 8 (by kernel_rfl) rfl (by rfl) (fun K hK => ?_)
        refine Lib.wp_append_run_sl _ _ _ _ rfl _ _ rfl rfl hrun6 ?_
        refine hK.out _ _ (HS.out _ hM6.2.1) (fun hHeld => ?_)
        clear hK K hrun6
        simp only [Act.put, List.setIfInBounds_toArray, List.set_cons_zero, List.set_cons_succ]
        refine held_call 15 (by kernel_rfl) rfl (by rfl) (fun K hK => ?_)
        go_simp
        refine (bytes_eight y _ hy0 hy1).mono ?_
        rintro e w7 ⟨g7, rfl, hs7, hb7⟩
        have hM7 := hM6.on hb7
        dsimp only
        refine hK.out _ _ (HS.out _ hM7.2.1) (fun hHeld => ?_)
        clear hK K
        obtain ⟨v8, w8, hrun8, hM8, _⟩ := hM7.append 8 hs7 (by simp only [List.length_append, List.length_cons, List.length_nil, four]; omega) 26
        clear hs7 hb7 hM7 hM6
        refine held_call 16 (by kernel_rfl) rfl (by rfl) (fun K hK => ?_)
        refine Lib.wp_append_run_sl _ _ _ _ rfl _ _ rfl rfl hrun8 ?_
        refine hK.out _ _ (HS.out _ hM8.2.1) (fun hHeld => ?_)
        clear hK K hrun8
        simp only [Act.put, List.setIfInBounds_toArray, List.set_cons_zero, List.set_cons_succ]
        refine held_take 17 rfl (by kernel_rfl) (by kernel_rfl) (by kernel_rfl) (fun _ _ _ h => h) (by rfl) hHeld (v := ?_) (fun w hSw => ?_) (fun _ => ?_)
        rotate_left
        · ((try dsimp only at hSw); go_simp; (try with_reducible rfl))
        simp only [Act.put, List.setIfInBounds_toArray, List.set_cons_zero, List.set_cons_succ]
        refine wpAnyH_done (by kernel_rfl) ?_ _
        have HM8 := Lib.hid hM8
        clear hM8 hHeld c0 c1 x0 x1 x2 x3 x4
        go_wp2
        go_roundw
        case rel => exact ⟨k + 1, by omega, by go_num, by rw [HNX.out, ← List.append_assoc]; exact HM8.out⟩
        case measure => simp [intOf]; omega
      · obtain rfl : k = rs.length := by omega
        have hte : rs.take rs.length = rs := List.take_length
        rw [hte] at HM
        obtain ⟨rv, w4, hrun4, hM4⟩ := HM.out.appendZeros 16 (by rw [resL_length]; omega) 26
        rw [HRL.out] at hM4
        obtain ⟨rA, rcc, rfl, hr1, hr2, hr3⟩ := hM4.shown
        obtain ⟨RN, hRN⟩ : ∃ RN, RL.length = RN := ⟨_, rfl⟩
        rw [hRN] at hrun4 hr1 hr2 hrl
        have HRN := Lib.hid hRN
        have HX4 := Lib.hid (HXA.out _ hM4.2.1)
        have HL4 := Lib.hid ((HL3.out.more hz3).under hM4.2.1)
        have HS4 := Lib.hid (HS3.out.below hM4.2.1)
        have hz4 : w3.heap.size ≤ w4.heap.size := hM4.2.1.size
        have HR4 := Lib.hid hr1
        have hw4 : w.heap.size + 1 ≤ w4.heap.size := by omega
        have HXB := Lib.hid (fun W (h : Below w4.heap.size w4 W) => HX4.out.trans (h.mono hw4))
        clear hmid hM4 hr1 hRN hte x0 x1 x2 x3 x4
        go_wp2_with (at_builtin; refine Lib.wpList_append_run _ rfl _ _ _ _ rfl _ _ rfl rfl _ _ hrun4 ?_)
        clear hrun4
        go_loopw [10, 66] (fun v i wr => ∃ k : Nat, k ≤ TN ∧ i = .int .i64 k ∧ Mid w4.heap.size w4 wr v (textB (TL.take k))) (fun _ i _ => TN - (intOf i).toNat)
        case atStart => exact ⟨0, Nat.zero_le _, rfl, Mid.start w4⟩
        case round =>
          obtain ⟨k, hk, rfl, hmid⟩ := hrel
          have HM := Lib.hid hmid
          by_cases hlt : k < TN
          · have hlk : k < TL.length := by rw [HTN.out]; exact hlt
            obtain ⟨g, rfl, hg, hcells⟩ := (HL4.out.more hz4).under hmid.2.1 (by omega)
            have hcell := hcells k hlk
            have HNX := Lib.hid (textB_next TL k hlk)
            have hb1 : (textB (TL.take k)).length + (TL[k].size + 1) ≤ 1073741824 := by
              have h1 := textSize_next TL k hlk
              have h2 := textSize_take TL (k + 1)
              rw [textB_length]
              omega
            obtain ⟨y, hy⟩ : ∃ y, TL[k] = y := ⟨_, rfl⟩
            rw [hy] at hcell HNX hb1
            generalize textB (TL.take k) = Z at *
            obtain ⟨v5, w5, hrun5, hM5⟩ := hmid.appendStr y (by omega) 26
            have hM6 := hM5.on ((Below.refl _ _).alloc (Nat.le_refl _) (.cells #[.int .u8 0] 5))
            obtain ⟨v7, w7, hrun7, hM7, _⟩ := hM6.append 1 (shows_lit w5 [0] 1 _ rfl (by simp) rfl 5) (by simp only [List.length_append, strB_length, List.length_cons, List.length_nil]; omega) 26
            have HM7 := Lib.hid hM7
            clear hcells hy hmid hM5 hM6 hM7
            go_wp2_with (at_builtin; first | (refine Lib.wpList_append_run _ rfl _ _ _ _ rfl _ _ rfl rfl _ _ hrun5 ?_) | (refine Lib.wpList_append_run_sl _ rfl _ _ _ rfl _ _ rfl rfl hrun7 ?_))
            clear hrun5 hrun7
            go_roundw
            case rel => exact ⟨k + 1, by omega, by go_num, by rw [HNX.out, ← List.append_assoc]; exact HM7.out⟩
            case measure => simp [intOf]; omega
          · obtain rfl : k = TN := by omega
            have hte : TL.take k = TL := List.take_of_length_le (by rw [HTN.out]; exact Nat.le_refl _)
            rw [hte, HXL.out] at HM hmid
            obtain ⟨xA, xc, rfl, hx1, hx2, hx3⟩ := hmid.shown
            obtain ⟨XN, hXN⟩ : ∃ XN, XL.length = XN := ⟨_, rfl⟩
            rw [hXN] at hx1 hx2 hxl HM
            have HXN := Lib.hid hXN
            have HX5 := Lib.hid (HXB.out _ hmid.2.1)
            have HS5 := Lib.hid ((HS4.out.more hz4).below hmid.2.1)
            have HR5 := Lib.hid (HR4.out.below hmid.2.1)
            have HXX := Lib.hid hx1
            have hz5 : w4.heap.size ≤ wr.heap.size := hmid.2.1.size
            have hw5 : w.heap.size < wr.heap.size := by omega
            obtain ⟨x0, x1, x2, x3, x4⟩ := BX.out _ HX5.out
            have hmk : ∀ w, (Instr.makeSlice 26 (.int .i64 0) (.int .i64 0)).run Try.prog w = .ok (.slice (some ⟨w.heap.size, 0, none⟩) 0 0) (w.alloc (.cells (madeCells #[.int .u8 0] 0) 5)) := fun w => make_bytes 0 (by omega) w
            clear hmid hx1 hXN hte HM
            rw [HXN.out]
            have hHD : ∀ j, j < 10 → (#[.int .i64 3490578157, .int .i64 (40 + (RN : Int) + (SN : Int) + (XN : Int)), .int .i64 (40 + (RN : Int)), .int .i64 (40 + (RN : Int) + (SN : Int)), .int .i64 40, .int .i64 17, .int .i64 16, .int .i64 boot, .int .i64 (XN : Int), .int .i64 (SN : Int)] : Array Value)[j]? = some (.int .i64 (HT j)) ∧ HT j ≤ 4294967295 := by
              intro j hj
              have h := HEAD.out j
              rw [HRN.out, HSN.out, HXN.out] at h
              rcases (by omega : j = 0 ∨ j = 1 ∨ j = 2 ∨ j = 3 ∨ j = 4 ∨ j = 5 ∨ j = 6 ∨ j = 7 ∨ j = 8 ∨ j = 9) with rfl | rfl | rfl | rfl | rfl | rfl | rfl | rfl | rfl | rfl
              all_goals simp only [List.getD_cons_zero, List.getD_cons_succ] at h
              all_goals rw [h]
              all_goals refine ⟨congrArg (fun z => some (Value.int .i64 z)) ?_, ?_⟩
              all_goals omega
            have HCE := Lib.hid (fun j (hj : j < 10) W (h : Below ((wr.alloc (.cells (madeCells #[.int .u8 0] 0) 5)).alloc (.cells #[.int .i64 3490578157, .int .i64 (40 + (RN : Int) + (SN : Int) + (XN : Int)), .int .i64 (40 + (RN : Int)), .int .i64 (40 + (RN : Int) + (SN : Int)), .int .i64 40, .int .i64 17, .int .i64 16, .int .i64 boot, .int .i64 (XN : Int), .int .i64 (SN : Int)] 3)).heap.size ((wr.alloc (.cells (madeCells #[.int .u8 0] 0) 5)).alloc (.cells #[.int .i64 3490578157, .int .i64 (40 + (RN : Int) + (SN : Int) + (XN : Int)), .int .i64 (40 + (RN : Int)), .int .i64 (40 + (RN : Int) + (SN : Int)), .int .i64 40, .int .i64 17, .int .i64 16, .int .i64 boot, .int .i64 (XN : Int), .int .i64 (SN : Int)] 3)) W) => (h.cell (p := ⟨wr.heap.size + 1, j, none⟩) (by simp)).trans ((World.cell?_alloc_at (w := wr.alloc (.cells (madeCells #[.int .u8 0] 0) 5)) #[.int .i64 3490578157, .int .i64 (40 + (RN : Int) + (SN : Int) + (XN : Int)), .int .i64 (40 + (RN : Int)), .int .i64 (40 + (RN : Int) + (SN : Int)), .int .i64 40, .int .i64 17, .int .i64 16, .int .i64 boot, .int .i64 (XN : Int), .int .i64 (SN : Int)] 3 (wr.heap.size + 1) j (by simp)).trans (hHD j hj).1))
            have HLE := Lib.hid (fun j (hj : j < 10) => (hHD j hj).2)
            have HW := Lib.hid (fun W (h : Below ((wr.alloc (.cells (madeCells #[.int .u8 0] 0) 5)).alloc (.cells #[.int .i64 3490578157, .int .i64 (40 + (RN : Int) + (SN : Int) + (XN : Int)), .int .i64 (40 + (RN : Int)), .int .i64 (40 + (RN : Int) + (SN : Int)), .int .i64 40, .int .i64 17, .int .i64 16, .int .i64 boot, .int .i64 (XN : Int), .int .i64 (SN : Int)] 3)).heap.size ((wr.alloc (.cells (madeCells #[.int .u8 0] 0) 5)).alloc (.cells #[.int .i64 3490578157, .int .i64 (40 + (RN : Int) + (SN : Int) + (XN : Int)), .int .i64 (40 + (RN : Int)), .int .i64 (40 + (RN : Int) + (SN : Int)), .int .i64 40, .int .i64 17, .int .i64 16, .int .i64 boot, .int .i64 (XN : Int), .int .i64 (SN : Int)] 3)) W) => (((Below.refl wr.heap.size wr).alloc (Nat.le_refl _) (.cells (madeCells #[.int .u8 0] 0) 5)).alloc (by simp) (.cells #[.int .i64 3490578157, .int .i64 (40 + (RN : Int) + (SN : Int) + (XN : Int)), .int .i64 (40 + (RN : Int)), .int .i64 (40 + (RN : Int) + (SN : Int)), .int .i64 40, .int .i64 17, .int .i64 16, .int .i64 boot, .int .i64 (XN : Int), .int .i64 (SN : Int)] 3)).trans (h.mono (by simp; omega)))
            have HBW := Lib.hid (fun W (h : Below ((wr.alloc (.cells (madeCells #[.int .u8 0] 0) 5)).alloc (.cells #[.int .i64 3490578157, .int .i64 (40 + (RN : Int) + (SN : Int) + (XN : Int)), .int .i64 (40 + (RN : Int)), .int .i64 (40 + (RN : Int) + (SN : Int)), .int .i64 40, .int .i64 17, .int .i64 16, .int .i64 boot, .int .i64 (XN : Int), .int .i64 (SN : Int)] 3)).heap.size ((wr.alloc (.cells (madeCells #[.int .u8 0] 0) 5)).alloc (.cells #[.int .i64 3490578157, .int .i64 (40 + (RN : Int) + (SN : Int) + (XN : Int)), .int .i64 (40 + (RN : Int)), .int .i64 (40 + (RN : Int) + (SN : Int)), .int .i64 40, .int .i64 17, .int .i64 16, .int .i64 boot, .int .i64 (XN : Int), .int .i64 (SN : Int)] 3)) W) => HB0.out.trans ((HX5.out.trans ((HW.out W h).mono hw5)).mono (Nat.le_succ _)))
            have HSP := Lib.hid (fun (W : World) => show Shows W 0 (some ⟨wr.heap.size, 0, none⟩) 0 [] from ⟨rfl, by simp, fun h => absurd h (Nat.lt_irrefl 0)⟩)
            clear hHD
            go_wp2_with fail
            clear x0 x1 x2 x3 x4 hmk
            go_loopw [17, 110] (fun v i W => ∃ j : Nat, j ≤ 10 ∧ i = .int .i64 j ∧ Mid ((wr.alloc (.cells (madeCells #[.int .u8 0] 0) 5)).alloc (.cells #[.int .i64 3490578157, .int .i64 (40 + (RN : Int) + (SN : Int) + (XN : Int)), .int .i64 (40 + (RN : Int)), .int .i64 (40 + (RN : Int) + (SN : Int)), .int .i64 40, .int .i64 17, .int .i64 16, .int .i64 boot, .int .i64 (XN : Int), .int .i64 (SN : Int)] 3)).heap.size ((wr.alloc (.cells (madeCells #[.int .u8 0] 0) 5)).alloc (.cells #[.int .i64 3490578157, .int .i64 (40 + (RN : Int) + (SN : Int) + (XN : Int)), .int .i64 (40 + (RN : Int)), .int .i64 (40 + (RN : Int) + (SN : Int)), .int .i64 40, .int .i64 17, .int .i64 16, .int .i64 boot, .int .i64 (XN : Int), .int .i64 (SN : Int)] 3)) W v (fours (fun k => (HT k : Int)) j)) (fun _ i _ => 10 - (intOf i).toNat)
            case atStart => exact ⟨0, Nat.zero_le _, rfl, Mid.start _⟩
            case round =>
              obtain ⟨j, hj, rfl, hmid⟩ := hrel
              have HM := Lib.hid hmid
              by_cases hlt : j < 10
              · have hcj := HCE.out j hlt _ hmid.2.1
                have hle := HLE.out j hlt
                have HNX := Lib.hid (fours_succ (fun k => (HT k : Int)) j)
                have hln : (fours (fun k => (HT k : Int)) j).length ≤ 40 := by rw [fours_length]; omega
                generalize HT j = y at *
                have HC := Lib.hid (fun W => doccell_any y W hle)
                clear hmid
                go_wp2_with fail
                refine (HC.out _).mono ?_
                rintro e w8 ⟨g8, rfl, hs8, hb8⟩
                obtain ⟨v9, w9, hrun9, hM9, _⟩ := (HM.out.on hb8).append 4 hs8 (by simp only [four, List.length_cons, List.length_nil]; omega) 26
                have HM9 := Lib.hid hM9
                clear hs8 hb8 hM9
                go_wp2_with (at_builtin; refine Lib.wpList_append_run_sl _ rfl _ _ _ rfl _ _ rfl rfl hrun9 ?_)
                clear hrun9
                go_roundw
                case rel => exact ⟨j + 1, by omega, by go_num, by rw [HNX.out]; exact HM9.out⟩
                case measure => simp [intOf]; omega
              · obtain rfl : j = 10 := by omega
                have hf10 := fours_length (fun k => (HT k : Int)) 10
                generalize hFH : fours (fun k => (HT k : Int)) 10 = FH at *
                have HFH := Lib.hid hFH
                have hlR := HRN.out
                have hlS := HSN.out
                have hlX := HXN.out
                obtain ⟨v1, y1, hr1, hm1, _⟩ := hmid.append 0 (HSP.out _) (by simp only [List.length_nil]; omega) 26
                obtain ⟨v2, y2, hr2', hm2, _⟩ := hm1.append rcc (HR5.out.below ((HW.out _ hm1.2.1).mono hz5)) (by simp only [List.length_append, List.length_nil]; omega) 26
                obtain ⟨v3, y3, hr3', hm3, _⟩ := hm2.append 0 (HSP.out _) (by simp only [List.length_append, List.length_nil]; omega) 26
                obtain ⟨v4, y4, hr4, hm4, _⟩ := hm3.append sc (HS5.out.below ((HW.out _ hm3.2.1).mono hz5)) (by simp only [List.length_append, List.length_nil]; omega) 26
                obtain ⟨v5, y5, hr5, hm5, _⟩ := hm4.append 0 (HSP.out _) (by simp only [List.length_append, List.length_nil]; omega) 26
                obtain ⟨v6, y6, hr6, hm6, _⟩ := hm5.append xc (HXX.out.below (HW.out _ hm5.2.1)) (by simp only [List.length_append, List.length_nil]; omega) 26
                have HM6 := Lib.hid hm6
                have HBT : Hid (((((((FH ++ []) ++ RL) ++ []) ++ SL) ++ []) ++ XL) = BT) := by show _ = _; rw [HBLOB.out]; simp
                clear hmid hm1 hm2 hm3 hm4 hm5 hm6 hFH hf10 hlR hlS hlX HM
                go_wp2_with (at_builtin; first | (refine Lib.wpList_append_run_sl _ rfl _ _ _ rfl _ _ rfl rfl hr1 ?_) | (refine Lib.wpList_append_run_sl _ rfl _ _ _ rfl _ _ rfl rfl hr2' ?_) | (refine Lib.wpList_append_run_sl _ rfl _ _ _ rfl _ _ rfl rfl hr3' ?_) | (refine Lib.wpList_append_run_sl _ rfl _ _ _ rfl _ _ rfl rfl hr4 ?_) | (refine Lib.wpList_append_run_sl _ rfl _ _ _ rfl _ _ rfl rfl hr5 ?_) | (refine Lib.wpList_append_run_sl _ rfl _ _ _ rfl _ _ rfl rfl hr6 ?_))
                go_ret
                have hM := HM6.out
                rw [HBT.out] at hM
                obtain ⟨A, c, e, k1, k2, k3⟩ := hM.shown
                exact ⟨A, c, congrArg Ending.returned e, k1, k2, k3, HBW.out _ hM.2.1⟩
end Go.Proofs.Ytnopcnbeklbfoaa
