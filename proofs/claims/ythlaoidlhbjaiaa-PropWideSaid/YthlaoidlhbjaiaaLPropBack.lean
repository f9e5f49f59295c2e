/-
  Layer 7, PropBack: out of what the program's Cells, Texts, FromCells and FromTexts answer.
-/
import Derived.Test.YthlaoidlhbjaiaaLPropReads
import Derived.Test.YthlaoidlhbjaiaaDFours
namespace Go.Proofs.Ythlaoidlhbjaiaa
open Go.RowKit
set_option linter.unusedVariables false
set_option linter.unusedSimpArgs false

/-! ### Cells, there and back -/
def fours7 (vs : List Int) : List Int := vs.flatMap four
theorem fours7_length (vs : List Int) : (fours7 vs).length = 4 * vs.length := by
  induction vs with
  | nil => rfl
  | cons v r ih =>
    have e : fours7 (v :: r) = four v ++ fours7 r := by simp [fours7]
    rw [e, List.length_append, ih]
    simp only [four, List.length_cons, List.length_nil]; omega
theorem cells_back (vs : List Int) (h : ∀ v ∈ vs, 0 ≤ v ∧ v ≤ 4294967295) : cellsL (fours7 vs) = vs ∧ cellsE (fours7 vs) = 0 := by
  have hl := fours7_length vs
  have h4 : (fours7 vs).length % 4 = 0 := by omega
  have hq : (fours7 vs).length / 4 = vs.length := by omega
  rw [cellsL, cellsE, if_pos h4, if_pos h4, hq]
  refine ⟨List.ext_getElem (by simp) fun i h1 h2 => ?_, rfl⟩
  rw [List.getElem_map, List.getElem_range]
  have e : fours7 vs = fours7 (vs.take i) ++ (four vs[i] ++ fours7 (vs.drop (i + 1))) := by
    have e0 : vs = vs.take i ++ vs[i] :: vs.drop (i + 1) := by rw [← List.drop_eq_getElem_cons h2, List.take_append_drop]
    calc fours7 vs = fours7 (vs.take i ++ vs[i] :: vs.drop (i + 1)) := congrArg fours7 e0
      _ = _ := by unfold fours7; rw [List.flatMap_append, List.flatMap_cons]
  have hi : 4 * i = (fours7 (vs.take i)).length := by rw [fours7_length, List.length_take]; omega
  rw [hi, e]
  exact numTo_four _ _ _ (h vs[i] (List.getElem_mem h2)).1

/-! ### Texts, there and back -/
def cutZ (s : ByteArray) : List Int := (strB s).takeWhile fun z => decide (z ≠ 0)
def nulB (l : List ByteArray) : List Int := l.flatMap fun s => cutZ s ++ [0]
theorem cutZ_nz (s : ByteArray) : (0 : Int) ∉ cutZ s := fun h => by
  have : ∀ l : List Int, (0 : Int) ∈ l.takeWhile (fun z => decide (z ≠ 0)) → False := by
    intro l
    induction l with
    | nil => intro h; cases h
    | cons x l ih =>
      intro h
      by_cases hx : x = 0
      · simp [List.takeWhile_cons, hx] at h
      · rw [List.takeWhile_cons, if_pos (by simpa using hx)] at h
        rcases List.mem_cons.1 h with e | e
        · exact hx e.symm
        · exact ih e
  exact this _ h
theorem cutZ_le (s : ByteArray) : (cutZ s).length ≤ s.size := by
  have h := (List.takeWhile_prefix (l := strB s) (fun z => decide (z ≠ 0))).length_le
  rw [strB_length] at h
  exact h
theorem text_app7 (a s b : List Int) (h : (0 : Int) ∉ s) (k : Nat) (hk : k = a.length) : textFrom (a ++ (s ++ (0 :: b))) k = some s := by
  subst hk
  unfold textFrom
  rw [List.drop_left]
  rw [if_pos (by simp), List.takeWhile_append_of_pos (fun z hz => by simp; rintro rfl; exact h hz)]
  simp
theorem go_back : ∀ (l : List ByteArray) (pre : List Int) (f : Nat), (nulB l).length ≤ f → textsGo (pre ++ nulB l) f pre.length = l.map cutZ
  | [], pre, 0, _ => rfl
  | [], pre, f + 1, _ => by rw [textsGo, if_neg (by simp [nulB])]; rfl
  | s :: l, pre, 0, h => by simp [nulB] at h
  | s :: l, pre, f + 1, h => by
    have e : nulB (s :: l) = cutZ s ++ (0 :: nulB l) := by simp [nulB]
    rw [e] at h ⊢
    simp only [List.length_append, List.length_cons] at h
    rw [textsGo, if_pos (by simp; omega), text_app7 _ _ _ (cutZ_nz s) _ rfl]
    have e2 : pre ++ (cutZ s ++ 0 :: nulB l) = (pre ++ (cutZ s ++ [0])) ++ nulB l := by simp
    have e3 : pre.length + (cutZ s).length + 1 = (pre ++ (cutZ s ++ [0])).length := by simp; omega
    show cutZ s :: textsGo (pre ++ (cutZ s ++ 0 :: nulB l)) f (pre.length + (cutZ s).length + 1) = cutZ s :: l.map cutZ
    rw [e2, e3, go_back l _ f (by omega)]
theorem nul_last : ∀ (l : List ByteArray), 0 < (nulB l).length → (nulB l).getD ((nulB l).length - 1) 0 = 0
  | [], h => absurd h (by simp [nulB])
  | s :: l, _ => by
    have e : nulB (s :: l) = cutZ s ++ (0 :: nulB l) := by simp [nulB]
    rcases Nat.eq_zero_or_pos (nulB l).length with h0 | h0
    · have e0 : nulB l = [] := List.eq_nil_of_length_eq_zero h0
      rw [e, e0]
      simp [List.getD]
    · have ih := nul_last l h0
      rw [e]
      simp only [List.length_append, List.length_cons]
      rw [show (cutZ s).length + ((nulB l).length + 1) - 1 = (cutZ s).length + (((nulB l).length - 1) + 1) by omega]
      simp only [List.getD, List.getElem?_append_right (Nat.le_add_right _ _), Nat.add_sub_cancel_left, List.getElem?_cons_succ]
      exact ih
theorem texts_back (l : List ByteArray) : txtsL (nulB l) = l.map (fun s => strOfNums (cutZ s)) ∧ txtsE (nulB l) = 0 := by
  have h : textsV (nulB l) = some (l.map cutZ) := by
    rw [textsV, if_neg]
    · have := go_back l [] (nulB l).length (Nat.le_refl _)
      rw [List.nil_append] at this
      exact congrArg some this
    · intro ⟨h1, h2⟩
      exact h2 (nul_last l h1)
  rw [txtsL, txtsE, h]
  exact ⟨List.map_map, rfl⟩
/-- The text up to its first nought. -/
theorem cut_extract (s : ByteArray) (k : Nat) (hk : k ≤ s.size) (h1 : ∀ j (h : j < s.size), j < k → s[j].toNat ≠ 0) (h2 : ∀ h : k < s.size, s[k].toNat = 0) : strOfNums (cutZ s) = s.extract 0 k := by
  have e : cutZ s = (strB s).take k := by
    have hp : ∀ (l : List Int) (k : Nat), k ≤ l.length → (∀ j (h : j < l.length), j < k → l[j] ≠ 0) → (∀ h : k < l.length, l[k] = 0) → l.takeWhile (fun z => decide (z ≠ 0)) = l.take k := by
      intro l
      induction l with
      | nil => intro k _ _ _; simp
      | cons x l ih =>
        intro k hk h1 h2
        rcases k with _ | k
        · have := h2 (by simp)
          simp at this
          simp [List.takeWhile_cons, this]
        · have hx : x ≠ 0 := by have := h1 0 (by simp) (by omega); simpa using this
          rw [List.takeWhile_cons, if_pos (by simpa using hx), List.take_succ_cons]
          rw [ih k (by simpa using hk) (fun j hj hlt => by have := h1 (j + 1) (by simpa using hj) (by omega); simpa using this) (fun h => by have := h2 (by simpa using h); simpa using this)]
    refine hp _ k (by rw [strB_length]; exact hk) (fun j hj hlt => ?_) (fun h => ?_)
    · have hj' : j < s.size := by rw [strB_length] at hj; exact hj
      have := h1 j hj' hlt
      simp only [strB, List.getElem_map]
      intro e
      exact this (by exact_mod_cast e)
    · have hk' : k < s.size := by rw [strB_length] at h; exact h
      have := h2 hk'
      simp only [strB, List.getElem_map]
      exact_mod_cast this
  rw [e]
  apply ByteArray.ext
  apply Array.ext'
  rw [strOfNums_data, ByteArray.data_extract, Array.toList_extract, List.extract_eq_take_drop, List.drop_zero, Nat.sub_zero, List.map_take, strB, List.map_map]
  congr 1
  conv => rhs; rw [← List.map_id s.data.toList]
  apply List.map_congr_left
  intro b _
  simp

def cutS (s : ByteArray) : ByteArray := strOfNums (cutZ s)
theorem nulB_le : ∀ (l : List ByteArray), (∀ s ∈ l, s.size ≤ 300) → (nulB l).length ≤ 301 * l.length
  | [], _ => by simp [nulB]
  | s :: l, h => by
    have e : nulB (s :: l) = cutZ s ++ (0 :: nulB l) := by simp [nulB]
    have h1 := nulB_le l (fun x hx => h x (by simp [hx]))
    have h2 := h s (by simp)
    have h3 := cutZ_le s
    rw [e]
    simp only [List.length_append, List.length_cons]
    omega
def FromCellsOK : Prop := ∀ (A : Option Addr) (n c : Nat) (vs : List Int) (w : World), vs.length = n → Cel w w.heap.size A n (u32s vs) → (∀ z ∈ vs, 0 ≤ z ∧ z ≤ 4294967295) → n ≤ 1000 → n ≤ c → c ≤ 9223372036854775807 →
  Calls Try.prog 14 #[.slice A n c] w fun e w' => (∃ A' c', e = .returned (.slice A' (4 * n) c') ∧ Shows w' w'.heap.size A' (4 * n) (fours7 vs) ∧ 4 * n ≤ c' ∧ c' ≤ 9223372036854775807) ∧ Below w.heap.size w w'
def FromTextsOK : Prop := ∀ (A : Option Addr) (n c : Nat) (l : List ByteArray) (w : World), l.length = n → Cel w w.heap.size A n (strs6 l) → (∀ s ∈ l, s.size ≤ 300) → n ≤ 100 → n ≤ c → c ≤ 9223372036854775807 →
  Calls Try.prog 15 #[.slice A n c] w fun e w' => (∃ A' c', e = .returned (.slice A' (nulB l).length c') ∧ Shows w' w'.heap.size A' (nulB l).length (nulB l) ∧ (nulB l).length ≤ c' ∧ c' ≤ 9223372036854775807) ∧ Below w.heap.size w w'

set_option maxRecDepth 20000 in
set_option maxHeartbeats 8000000 in
theorem propBack_true (hK : Awake7) (h1 : CellsOK) (h2 : TextsOK) (h3 : FromCellsOK) (h4 : FromTextsOK) (A : Option Addr) (n c : Nat) (vs : List Int) (A' : Option Addr) (n' c' : Nat) (l : List ByteArray) (w : World)
    (hv : vs.length = n) (hs : Cel w w.heap.size A n (u32s vs)) (hb : ∀ z ∈ vs, 0 ≤ z ∧ z ≤ 4294967295) (hnc : n ≤ c) (hc : c ≤ 9223372036854775807) (hl : l.length = n') (hs' : Cel w w.heap.size A' n' (strs6 l)) (hls : ∀ s ∈ l, s.size ≤ 140737488351232) (hnc' : n' ≤ c') (hc' : c' ≤ 9223372036854775807) :
    Calls Try.prog 4 #[.slice A n c, .slice A' n' c'] w fun e w' => e = .returned (.bool true) ∧ Below w.heap.size w w' := by
  have HK := Lib.hid hK
  have HS := Lib.hid hs
  have HS' := Lib.hid hs'
  have HV := Lib.hid hv
  have HL := Lib.hid hl
  have HLS := Lib.hid hls
  have HC := Lib.hid (And.intro (And.intro hnc hc) (And.intro hnc' hc'))
  have P1 := Lib.hid h1
  have P2 := Lib.hid h2
  have C3 := Lib.hid (fun W (hW : Below w.heap.size w W) (hn : n ≤ 1000) => h3 A n c vs W hv (hs.on hW) hb hn hnc hc)
  have C4 := Lib.hid (fun W (hW : Below w.heap.size w W) (hn : n' ≤ 100) (h300 : ∀ s ∈ l, s.size ≤ 300) => h4 A' n' c' l W hl (hs'.on hW) h300 hn hnc' hc')
  have HCB := Lib.hid (cells_back vs hb)
  have HTB := Lib.hid (texts_back l)
  clear hK hs hs' hv hl hls hnc hc hnc' hc' h1 h2 h3 h4 hb
  go_enter Try.func4, Try.ntmps4
  go_wp2_with fail
  refine (HK.out _).mono ?_
  rintro e w1 ⟨rfl, hb⟩
  have HB1 := Lib.hid hb
  clear hb
  by_cases hbig : 1000 < n
  · have k1 : decide ((1000 : Int) < (n : Int)) = true := decide_eq_true (by omega)
    clear hbig
    go_wp2_with fail
    refine (HK.out _).mono ?_
    rintro e w2 ⟨rfl, hb⟩
    have HB2 := Lib.hid (HB1.out.trans (hb.mono HB1.out.size))
    clear hb
    go_wp2
    go_ret
    exact ⟨rfl, HB2.out⟩
  have k1 : decide ((1000 : Int) < (n : Int)) = false := decide_eq_false (by omega)
  by_cases hbig' : 100 < n'
  · have k2 : decide ((100 : Int) < (n' : Int)) = true := decide_eq_true (by omega)
    clear hbig hbig'
    go_wp2_with fail
    refine (HK.out _).mono ?_
    rintro e w2 ⟨rfl, hb⟩
    have HB2 := Lib.hid (HB1.out.trans (hb.mono HB1.out.size))
    clear hb
    go_wp2
    go_ret
    exact ⟨rfl, HB2.out⟩
  have k2 : decide ((100 : Int) < (n' : Int)) = false := decide_eq_false (by omega)
  have C3' := Lib.hid (C3.out w1 HB1.out (by omega))
  have HNN := Lib.hid (show n ≤ 1000 ∧ n' ≤ 100 by omega)
  clear hbig hbig' C3
  go_wp2_with fail
  refine C3'.out.mono ?_
  rintro e w2 ⟨⟨A2, c2, rfl, s2, l2, m2⟩, hb⟩
  have HB2 := Lib.hid (HB1.out.trans (hb.mono HB1.out.size))
  have CC := P1.out A2 (4 * n) c2 (fours7 vs) w2 s2 (by have := HNN.out; omega) l2 m2
  unfold RowOut at CC
  rw [HCB.out.1, HCB.out.2, List.length_map, HV.out] at CC
  obtain ⟨n4, hn4⟩ : ∃ n4, 4 * n = n4 := ⟨_, rfl⟩
  rw [hn4] at CC
  rw [hn4]
  have HCC := Lib.hid CC
  clear hb s2 CC l2 hn4 C3' HCB
  go_wp2_with fail
  refine HCC.out.mono ?_
  rintro e w3 ⟨⟨A3, c3, rfl, s3, l3, m3⟩, hb⟩
  have HB3 := Lib.hid (HB2.out.trans (hb.mono HB2.out.size))
  have HS3 := Lib.hid s3
  have q1 : ((n : Int) != (n : Int)) = false := by simp
  clear hb s3 HCC
  have hn1000 : n ≤ 1000 := HNN.out.1
  have hn100 : n' ≤ 100 := HNN.out.2
  go_wp2_with fail
  go_loopw [44] (fun i wr => ∃ k : Nat, k ≤ n ∧ i = .int .i64 k ∧ Below w3.heap.size w3 wr) (fun i _ => n - (intOf i).toNat)
  case atStart => exact ⟨0, Nat.zero_le _, rfl, Below.refl _ _⟩
  case round =>
    obtain ⟨k, hk, rfl, hb⟩ := hrel
    have HB := Lib.hid hb
    by_cases hlt : k < n
    · obtain ⟨b, o, e, _, cc⟩ := u32_cell (HS3.out.below hb) HV.out k hlt
      obtain rfl : A3 = _ := e
      obtain ⟨b', o', e', _, dd⟩ := u32_cell (HS.out.below (HB3.out.trans (hb.mono HB3.out.size))) HV.out k hlt
      obtain rfl : A = _ := e'
      obtain ⟨x, hx⟩ : ∃ x, vs.getD k 0 = x := ⟨_, rfl⟩
      rw [hx] at cc dd
      have q7 : (x != x) = false := by simp
      clear hb hx
      go_wp2_with fail
      go_region
      go_wp2
      go_roundw
      case rel => exact ⟨k + 1, by omega, by go_num, HB.out.drew⟩
      case measure => simp [intOf]; omega
    · have HBN := Lib.hid (HB3.out.trans (hb.mono HB3.out.size))
      have info := info_any info_str
      clear hb
      go_wp2_with fail
      clear hlt
      go_loopw [8, 59] (fun out i W => ∃ j : Nat, j ≤ n' ∧ i = .int .i64 j ∧ (∃ Ao co, out = .slice Ao j co ∧ W.ownsRow wr.heap.size 9 1 (.slice Ao j co) j (strs6 ((l.take j).map cutS))) ∧ Hid (∀ s ∈ l.take j, s.size ≤ 300) ∧ Below wr.heap.size wr W) (fun _ i _ => n' - (intOf i).toNat)
      case atStart => exact ⟨0, Nat.zero_le _, rfl, ⟨none, 0, rfl, World.ownsRow_nil _ _ _ _⟩, Lib.hid (by simp), Below.refl _ _⟩
      case round =>
        obtain ⟨j, hj, rfl, ⟨Ao, co, rfl, hown⟩, H300, hb⟩ := hrel
        have HBW := Lib.hid (HBN.out.trans (hb.mono HBN.out.size))
        have HBX := Lib.hid hb
        have HO := Lib.hid hown
        by_cases hlt : j < n'
        · obtain ⟨b, o, e, _, cc⟩ := str_cell (HS'.out.below HBW.out) HL.out j hlt
          obtain rfl : A' = _ := e
          obtain ⟨x, hx⟩ : ∃ x, l.getD j ⟨#[]⟩ = x := ⟨_, rfl⟩
          have hjl : j < l.length := by rw [HL.out]; exact hlt
          have hxl : l[j] = x := by rw [← hx]; simp [List.getD, List.getElem?_eq_getElem hjl]
          have hxs : x.size ≤ 140737488351232 := by rw [← hxl]; exact HLS.out _ (List.getElem_mem hjl)
          have HNX : Hid (l.take (j + 1) = l.take j ++ [x]) := Lib.hid (by rw [take_next l j hjl, hxl])
          rw [hx] at cc
          clear hx hxl hjl hb
          by_cases hbig : 300 < x.size
          · have k5 : decide ((300 : Int) < (x.size : Int)) = true := decide_eq_true (by omega)
            clear hbig hown
            go_wp2
            go_ret
            exact ⟨rfl, HBW.out⟩
          · have k5 : decide ((300 : Int) < (x.size : Int)) = false := decide_eq_false (by omega)
            have HX300 := Lib.hid (show x.size ≤ 300 by omega)
            clear hbig
            go_wp2_with fail
            go_loop [10] (fun i => ∃ k : Nat, k ≤ x.size ∧ i = .int .i64 k ∧ Hid (∀ i (h : i < x.size), i < k → x[i].toNat ≠ 0)) (fun i => x.size - (intOf i).toNat)
            case atStart => exact ⟨0, Nat.zero_le _, rfl, Lib.hid (fun i _ h => absurd h (Nat.not_lt_zero _))⟩
            case round =>
              obtain ⟨k, hk, rfl, HNZ⟩ := hrel
              by_cases hkl : k < x.size
              · by_cases hz : x[k].toNat = 0
                · have q8 : ((x[k].toNat : Int) != 0) = false := by rw [hz]; rfl
                  have HCUT := Lib.hid (cut_extract x k hk HNZ.out (fun _ => hz))
                  obtain ⟨i0, hi0, hz0, hs0, hb0⟩ := info
                  obtain ⟨y, hy⟩ : ∃ y, x.extract 0 k = y := ⟨_, rfl⟩
                  obtain ⟨A9, c9, w9, r9, g1, g2⟩ := app_lit Try.underlying30 hi0 hz0 hs0 hb0 rfl HO.out (.string y) rfl (by omega) (by omega) HBX.out.size 30
                  have HR9 := Lib.hid (And.intro g1 (HBX.out.trans (g2.mono (Nat.le_refl _))))
                  have HRW : Hid (strs6 ((l.take (j + 1)).map cutS) = strs6 ((l.take j).map cutS) ++ [.string y]) := Lib.hid (by rw [HNX.out, List.map_append, strs6, List.map_append]; simp only [List.map_cons, List.map_nil, cutS, HCUT.out, hy])
                  have H3N : Hid (∀ s ∈ l.take (j + 1), s.size ≤ 300) := Lib.hid (fun s hs => by
                    rw [HNX.out] at hs
                    rcases List.mem_append.1 hs with h | h
                    · exact H300.out s h
                    · rw [List.mem_singleton.1 h]; exact HX300.out)
                  clear hown hi0 hz0 hs0 hb0 g1 g2
                  go_wp2_with (at_builtin; refine Lib.wpList_append_run_sl _ rfl _ _ _ rfl _ _ rfl rfl r9 ?_)
                  go_roundw
                  case rel => exact ⟨j + 1, by omega, by go_num, ⟨A9, c9, rfl, by rw [HRW.out]; exact HR9.out.1⟩, H3N, HR9.out.2⟩
                  case measure => simp [intOf]; omega
                · have q8 : ((x[k].toNat : Int) != 0) = true := by rw [bne_iff_ne]; omega
                  have HNZ2 : Hid (∀ i (h : i < x.size), i < k + 1 → x[i].toNat ≠ 0) := Lib.hid (fun i h hi => by
                    rcases Nat.lt_succ_iff_lt_or_eq.1 hi with h1 | rfl
                    · exact HNZ.out i h h1
                    · exact hz)
                  clear hz
                  go_wp2
                  go_round
                  case rel => exact ⟨k + 1, by omega, by go_num, HNZ2⟩
                  case measure => simp [intOf]; omega
              · have HCUT := Lib.hid (cut_extract x k hk HNZ.out (fun h => absurd h hkl))
                obtain ⟨i0, hi0, hz0, hs0, hb0⟩ := info
                obtain ⟨y, hy⟩ : ∃ y, x.extract 0 k = y := ⟨_, rfl⟩
                obtain ⟨A9, c9, w9, r9, g1, g2⟩ := app_lit Try.underlying30 hi0 hz0 hs0 hb0 rfl HO.out (.string y) rfl (by omega) (by omega) HBX.out.size 30
                have HR9 := Lib.hid (And.intro g1 (HBX.out.trans (g2.mono (Nat.le_refl _))))
                have HRW : Hid (strs6 ((l.take (j + 1)).map cutS) = strs6 ((l.take j).map cutS) ++ [.string y]) := Lib.hid (by rw [HNX.out, List.map_append, strs6, List.map_append]; simp only [List.map_cons, List.map_nil, cutS, HCUT.out, hy])
                have H3N : Hid (∀ s ∈ l.take (j + 1), s.size ≤ 300) := Lib.hid (fun s hs => by
                  rw [HNX.out] at hs
                  rcases List.mem_append.1 hs with h | h
                  · exact H300.out s h
                  · rw [List.mem_singleton.1 h]; exact HX300.out)
                clear hown hi0 hz0 hs0 hb0 g1 g2
                go_wp2_with (at_builtin; refine Lib.wpList_append_run_sl _ rfl _ _ _ rfl _ _ rfl rfl r9 ?_)
                go_roundw
                case rel => exact ⟨j + 1, by omega, by go_num, ⟨A9, c9, rfl, by rw [HRW.out]; exact HR9.out.1⟩, H3N, HR9.out.2⟩
                case measure => simp [intOf]; omega
        · have HTK : Hid (l.take j = l) := Lib.hid (List.take_of_length_le (by rw [HL.out]; omega))
          have h300 := H300.out
          rw [HTK.out] at h300 hown
          obtain rfl : j = n' := by omega
          have hnb := nulB_le l h300
          rw [HL.out] at hnb
          have C4' := Lib.hid (C4.out _ HBW.out hn100 h300)
          obtain ⟨A8, c8, e8, s8, l8, m8, _⟩ := owned_cel hown
          simp only [Value.slice.injEq, true_and] at e8
          obtain ⟨rfl, rfl⟩ := e8
          have HS8 := Lib.hid s8
          have HML : Hid ((l.map cutS).length = j) := Lib.hid (by rw [List.length_map, HL.out])
          clear hown hb s8 h300 HO C4
          go_wp2_with fail
          refine C4'.out.mono ?_
          rintro e w5 ⟨⟨A5, c5, rfl, s5, l5, m5⟩, hb5⟩
          have HB5 := Lib.hid (HBW.out.trans (hb5.mono HBW.out.size))
          have HS85 := Lib.hid (HS8.out.on hb5)
          have CT := P2.out A5 (nulB l).length c5 (nulB l) w5 s5 (by omega) l5 m5
          unfold RowOut at CT
          rw [HTB.out.1, HTB.out.2, List.length_map, List.length_map, HL.out] at CT
          have HCT := Lib.hid CT
          obtain ⟨nb, hnbe⟩ : ∃ nb, (nulB l).length = nb := ⟨_, rfl⟩
          rw [hnbe] at HCT
          rw [hnbe]
          clear hb5 s5 CT l5 hnbe hnb C4'
          go_wp2_with fail
          refine HCT.out.mono ?_
          rintro e w6 ⟨⟨A6, c6, rfl, s6, l6, m6⟩, hb6⟩
          have HB6 := Lib.hid (HB5.out.trans (hb6.mono HB5.out.size))
          have HS86 := Lib.hid (HS85.out.on hb6)
          have HS6 := Lib.hid (show Cel w6 w6.heap.size A6 j (strs6 (l.map cutS)) from s6)
          have q9 : ((j : Int) != (j : Int)) = false := by simp
          clear hb6 s6 HCT
          go_wp2_with fail
          go_loopw [113] (fun i W => ∃ k : Nat, k ≤ j ∧ i = .int .i64 k ∧ Below w6.heap.size w6 W) (fun i _ => j - (intOf i).toNat)
          case atStart => exact ⟨0, Nat.zero_le _, rfl, Below.refl _ _⟩
          case round =>
            obtain ⟨k, hk, rfl, hb⟩ := hrel
            have HBZ := Lib.hid hb
            by_cases hlt : k < j
            · obtain ⟨b, o, e, _, cc⟩ := str_cell (HS6.out.below hb) HML.out k hlt
              obtain rfl : A6 = _ := e
              obtain ⟨b', o', e', _, dd⟩ := str_cell (HS86.out.below hb) HML.out k hlt
              obtain rfl : Ao = _ := e'
              obtain ⟨x, hx⟩ : ∃ x, (l.map cutS).getD k ⟨#[]⟩ = x := ⟨_, rfl⟩
              rw [hx] at cc dd
              have q7 : (x.toList == x.toList) = true := by simp
              clear hb hx
              go_wp2_with fail
              go_region
              go_wp2
              go_roundw
              case rel => exact ⟨k + 1, by omega, by go_num, HBZ.out.drew⟩
              case measure => simp [intOf]; omega
            · clear hb
              go_wp2
              go_ret
              exact ⟨rfl, HB6.out.trans (HBZ.out.mono HB6.out.size)⟩
end Go.Proofs.Ythlaoidlhbjaiaa
