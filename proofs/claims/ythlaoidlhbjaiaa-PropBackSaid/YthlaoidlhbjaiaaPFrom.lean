/-
  Layer 7: the program's FromCells and FromTexts; strings.Cut at a nought.
-/
import Derived.Test.YthlaoidlhbjaiaaLPropBack
import Derived.Test.YthlaoidlhbjaiaaFPut
import Derived.Test.YthlaoidlhbjaiaaShelf
import Derived.Lib.AppendStr
import Derived.Lib.AppendZeros
import Derived.Lib.Strings
import Derived.Lib.IndexLaws
import Derived.BigCall
import Derived.BigGuard
import Derived.Deep.Draws
namespace Go.Proofs.Ythlaoidlhbjaiaa
open Go.RowKit
set_option linter.unusedVariables false
set_option linter.unusedSimpArgs false

theorem fours7_take (vs : List Int) (k : Nat) (h : k < vs.length) : fours7 (vs.take (k + 1)) = fours7 (vs.take k) ++ four (vs.getD k 0) := by
  rw [take_next vs k h]
  unfold fours7
  rw [List.flatMap_append]
  simp [List.getD, List.getElem?_eq_getElem h]
theorem fours7_byte (vs : List Int) (h : ∀ v ∈ vs, 0 ≤ v ∧ v ≤ 4294967295) : ∀ z ∈ fours7 vs, 0 ≤ z ∧ z < 256 := by
  intro z hz
  unfold fours7 at hz
  rw [List.mem_flatMap] at hz
  obtain ⟨v, hv, hz⟩ := hz
  have := h v hv
  simp only [four, List.mem_cons, List.not_mem_nil, or_false] at hz
  omega

theorem make_row0 (w : World) (n : Nat) (hn : n ≤ 1073741824) (q : Int) (hq : q = (n : Int)) :
    ∃ w', (Instr.makeSlice 22 (.int .i64 0) (.int .i64 q)).run Try.prog w = .ok (.slice (some ⟨w.heap.size, 0, none⟩) 0 n) w' ∧ w'.ownsRow w.heap.size 5 1 (.slice (some ⟨w.heap.size, 0, none⟩) 0 n) 0 [] ∧ Below w.heap.size w w' := by
  subst hq
  obtain ⟨i0, hi0, hz0, hz1, hz2⟩ := info_parts info_u8
  obtain ⟨w', h1, h2, h3⟩ := run_make_own (P := Try.prog) w w.heap.size 22 5 i0 (.int .u8 0) 1 Try.underlying22 hi0 hz0 hz1 .i64 .i64 n (by rw [hz2]; omega) (by unfold maxLen; omega) (Nat.le_refl _)
  exact ⟨w', h1, h2, (Below.refl _ _).grown h3 (Nat.le_refl _) (fun q hq => by cases hq)⟩

/-- append of bytes that are shown, onto a row of the call's own. -/
theorem app_bytes {w : World} {B B' n m c : Nat} {v : Value} {xs ys : List Int} {A : Option Addr} (h : w.ownsRow B 5 1 v n (u8s xs)) (hs : Shows w B' A m ys) (hbig : n + m ≤ 140737488351232) (hB : B ≤ w.heap.size) (ty : TypeId) :
    ∃ A' c' w', (Builtin.append_ #[22, 22] ty #[v, .slice A m c]).run Try.prog w = .ok (.slice A' (n + m) c') w' ∧ w'.ownsRow B 5 1 (.slice A' (n + m) c') (n + m) (u8s (xs ++ ys)) ∧ Below B w w' := by
  obtain ⟨i0, hi0, hz0, hz1, hz2⟩ := info_parts info_u8
  obtain ⟨v', w', r, g1, g2, _⟩ := run_append_shown w i0 hi0 hz0 hz1 hz2 B v n (u8s xs) h B' A m c ys hs hbig hB ty
  obtain ⟨A', c', rfl, _⟩ := owned_cel g1
  exact ⟨A', c', w', r, by rw [u8s, List.map_append]; exact g1, (Below.refl _ _).grown g2 hB (fun q hq => (h.lt q hq).1)⟩
/-- append of a text's bytes. -/
theorem app_str {w : World} {B n : Nat} {v : Value} {xs : List Int} (h : w.ownsRow B 5 1 v n (u8s xs)) (s : ByteArray) (hbig : n + s.size ≤ 140737488351232) (hB : B ≤ w.heap.size) (ty : TypeId) :
    ∃ A' c' w', (Builtin.append_ #[22, 9] ty #[v, .string s]).run Try.prog w = .ok (.slice A' (n + s.size) c') w' ∧ w'.ownsRow B 5 1 (.slice A' (n + s.size) c') (n + s.size) (u8s (xs ++ strB s)) ∧ Below B w w' := by
  obtain ⟨i0, hi0, hz0, hz1, hz2⟩ := info_parts info_u8
  obtain ⟨v', w', r, g1, g2, _⟩ := Lib.run_append_own_string (P := Try.prog) w B 22 9 ty 5 i0 Try.underlying22 Try.underlying9 hi0 hz0 hz1 hz2 v n (u8s xs) h s (by unfold maxLen; omega) (by omega) hB
  have e : Lib.strCells s = u8s (strB s) := by simp [Lib.strCells, strB]
  obtain ⟨A', c', rfl, _⟩ := owned_cel g1
  exact ⟨A', c', w', r, by rw [u8s, List.map_append]; rw [e] at g1; exact g1, (Below.refl _ _).grown g2 hB (fun q hq => (h.lt q hq).1)⟩

set_option maxRecDepth 20000 in
set_option maxHeartbeats 4000000 in
theorem fromCellsOK : FromCellsOK := by
  intro A n c vs w hl hs hz hn hnc hc
  have HS := Lib.hid hs
  have HL := Lib.hid hl
  have HZ := Lib.hid hz
  obtain ⟨w0, r0, o0, b0⟩ := make_row0 w (4 * n) (by omega) ((n : Int) * 4) (by omega)
  have HO := Lib.hid o0
  have HB := Lib.hid b0
  have HC := Lib.hid (And.intro hnc hc)
  clear hs hl hz o0 b0 hnc hc
  go_enter Try.func14, Try.ntmps14
  go_wp2_with fail
  go_loopw [3, 12] (fun b i wr => ∃ k : Nat, k ≤ n ∧ i = .int .i64 k ∧ (∃ Ao co, b = .slice Ao (4 * k) co ∧ wr.ownsRow w.heap.size 5 1 (.slice Ao (4 * k) co) (4 * k) (u8s (fours7 (vs.take k)))) ∧ Below w.heap.size w wr) (fun _ i _ => n - (intOf i).toNat)
  case atStart => exact ⟨0, Nat.zero_le _, rfl, ⟨_, _, rfl, HO.out⟩, HB.out⟩
  case round =>
    obtain ⟨k, hk, rfl, ⟨Ao, co, rfl, hown⟩, hb⟩ := hrel
    have HB1 := Lib.hid hb
    have HO1 := Lib.hid hown
    by_cases hlt : k < n
    · obtain ⟨b, o, e, _, cc⟩ := u32_cell (HS.out.below hb) HL.out k hlt
      obtain rfl : A = _ := e
      have hkz : k < vs.length := by rw [HL.out]; exact hlt
      have hnx := fours7_take vs k hkz
      obtain ⟨x, hx⟩ : ∃ x, vs.getD k 0 = x := ⟨_, rfl⟩
      have hxb : 0 ≤ x ∧ x ≤ 4294967295 := by
        rw [← hx]
        have := HZ.out vs[k] (List.getElem_mem hkz)
        simpa [List.getD, List.getElem?_eq_getElem hkz] using this
      rw [hx] at cc hnx
      have HNX := Lib.hid hnx
      have CP := Lib.hid (put_any none 0 0 [] x wr (Shows.nil _ _) (Nat.zero_le _) hxb.1 hxb.2)
      clear hx hnx hkz hown hb
      go_wp2_with fail
      refine CP.out.mono ?_
      rintro e w1 ⟨A1, c1, rfl, hsh, hc1, hc2, hb1⟩
      replace hsh : Shows w1 w1.heap.size A1 4 (four x) := hsh
      have ho1 := own_on HO1.out hb1
      have HB2 := Lib.hid (HB1.out.trans (hb1.mono HB1.out.size))
      obtain ⟨A2, c2, w2, r2, o2, b2⟩ := app_bytes (c := c1) ho1 hsh (by omega) HB2.out.size 22
      have HO2 : Hid (w2.ownsRow w.heap.size 5 1 (.slice A2 (4 * k + 4) c2) (4 * k + 4) (u8s (fours7 (vs.take (k + 1))))) := Lib.hid (by rw [HNX.out]; exact o2)
      have HB3 := Lib.hid (HB2.out.trans b2)
      clear o2 b2 ho1 hsh hb1
      have e4 : 4 * k + 4 = 4 * (k + 1) := by omega
      rw [e4] at r2 HO2
      go_wp2_with (at_builtin; refine Lib.wpList_append_run_sl _ rfl _ _ 22 rfl _ _ rfl rfl r2 ?_)
      go_roundw
      case rel => exact ⟨k + 1, by omega, by go_num, ⟨A2, c2, rfl, HO2.out⟩, HB3.out⟩
      case measure => simp [intOf]; omega
    · obtain rfl : k = n := by omega
      have HE : Hid (vs.take k = vs) := Lib.hid (List.take_of_length_le (by rw [HL.out]; exact Nat.le_refl _))
      obtain ⟨A', c', e, hsh, h1, h2⟩ := owned_shows HO1.out (by rw [HE.out]; exact fours7_byte vs HZ.out)
      rw [HE.out] at hsh
      simp only [Value.slice.injEq, true_and] at e
      obtain ⟨rfl, rfl⟩ := e
      have HSH := Lib.hid hsh
      clear hown hb hsh
      go_wp2
      go_ret
      exact ⟨⟨_, _, rfl, HSH.out, h1, h2⟩, HB1.out⟩

/-! ### strings.Cut at a nought -/
theorem strB_at (s : ByteArray) (k : Nat) (hk : k < s.size) : s.data.toList[k]? = some s[k] := by
  rw [List.getElem?_eq_getElem (show k < s.data.toList.length from hk)]; rfl
/-- Where the first nought is, or that there is none; and what stands ahead of it. -/
theorem cut0_or (s : ByteArray) : (Lib.indexByte s.data.toList 0 = -1 ∧ cutS s = s) ∨ ∃ i : Nat, i < s.size ∧ Lib.indexByte s.data.toList 0 = (i : Int) ∧ cutS s = s.extract 0 i := by
  have hge := Lib.indexByte_ge s.data.toList 0
  by_cases hn : Lib.indexByte s.data.toList 0 = -1
  · refine .inl ⟨hn, ?_⟩
    have h := cut_extract s s.size (Nat.le_refl _) (fun j hj _ h0 => Lib.indexByte_none hn j (by rw [strB_at s j hj]; congr 1; exact UInt8.toNat.inj h0)) (fun h => absurd h (Nat.lt_irrefl _))
    rw [cutS, h]
    simp
  · obtain ⟨i, hi⟩ : ∃ i : Nat, Lib.indexByte s.data.toList 0 = i := ⟨_, (Int.toNat_of_nonneg (by omega)).symm⟩
    obtain ⟨h1, h2⟩ := Lib.indexByte_some hi
    have hlt : i < s.size := by
      rcases Nat.lt_or_ge i s.data.toList.length with h | h
      · exact h
      · rw [List.getElem?_eq_none h] at h1; cases h1
    refine .inr ⟨i, hlt, hi, ?_⟩
    refine cut_extract s i (Nat.le_of_lt hlt) (fun j hj hji h0 => h2 j hji (by rw [strB_at s j hj]; congr 1; exact UInt8.toNat.inj h0)) (fun h => ?_)
    rw [strB_at s i h] at h1
    rw [Option.some.inj h1]; rfl

set_option maxHeartbeats 1000000 in
theorem lite0_any (s : ByteArray) (w : World) (hs : s.size ≤ 140737488351232) :
    Calls Try.prog 39 #[.string s, .string ⟨#[0]⟩] w fun e w' => (∃ x b, e = .returned (.tuple #[.string (cutS s), .string x, .bool b])) ∧ Below w.heap.size w w' := by
  have C := Lib.hid (Go.Proofs.Try.stringslite_Index_one s 0 w)
  rcases cut0_or s with ⟨h, he⟩ | ⟨i, hi, h, he⟩
  · rw [h] at C
    rw [he]
    clear h he
    go_enter Try.func39, Try.ntmps39
    go_wp2_with (go_at_call 48; refine C.out.mono ?_; rintro e w' ⟨rfl, rfl⟩)
    go_ret3
    exact ⟨⟨_, _, rfl⟩, Below.refl _ _⟩
  · rw [h] at C
    rw [he]
    clear h he
    have c1 : (0 : Int) ≤ ↑i := by omega
    have c2 : (↑i : Int) ≤ ↑s.size := by omega
    have c3 : (0 : Int) ≤ ↑i + 1 := by omega
    have c4 : (↑i + 1 : Int) ≤ ↑s.size := by omega
    have e1 : IntKind.i64.wrap ((i : Int) + 1) = (i : Int) + 1 := IntWalk.i64_in _ (by omega)
    have e2 : ((i : Int) + 1).toNat = i + 1 := by omega
    go_enter Try.func39, Try.ntmps39
    go_wp2_with (go_at_call 48; refine C.out.mono ?_; rintro e w' ⟨rfl, rfl⟩)
    go_region
    go_wp2
    go_ret3
    exact ⟨⟨_, _, rfl⟩, (Below.refl _ _).drew⟩
theorem cut0_any (s : ByteArray) (w : World) (hs : s.size ≤ 140737488351232) :
    Calls Try.prog 27 #[.string s, .string ⟨#[0]⟩] w fun e w' => (∃ x b, e = .returned (.tuple #[.string (cutS s), .string x, .bool b])) ∧ Below w.heap.size w w' := by
  have C := Lib.hid (lite0_any s w hs)
  generalize cutS s = y at C
  go_enter Try.func27, Try.ntmps27
  go_wp2_with fail
  refine C.out.mono ?_
  rintro e w1 ⟨⟨x, b, rfl⟩, hb⟩
  have HB := Lib.hid hb
  clear hb
  go_wp2
  go_ret3
  exact ⟨⟨_, _, rfl⟩, HB.out⟩

theorem strB_of (zs : List Int) (h : ∀ z ∈ zs, 0 ≤ z ∧ z < 256) : strB (strOfNums zs) = zs := by
  unfold strB
  rw [strOfNums_data, List.map_map]
  conv => rhs; rw [← List.map_id zs]
  refine List.map_congr_left fun z hz => ?_
  have := h z hz
  simp only [Function.comp, UInt8.toNat_ofNat', id]
  omega
theorem cutZ_byte (s : ByteArray) : ∀ z ∈ cutZ s, 0 ≤ z ∧ z < 256 := fun z hz => strB_byte s z ((List.takeWhile_sublist _).subset hz)
theorem nulB_byte (l : List ByteArray) : ∀ z ∈ nulB l, 0 ≤ z ∧ z < 256 := by
  intro z hz
  unfold nulB at hz
  rw [List.mem_flatMap] at hz
  obtain ⟨s, _, hz⟩ := hz
  rcases List.mem_append.1 hz with h | h
  · exact cutZ_byte s z h
  · rw [List.mem_singleton.1 h]; omega
theorem nulB_take (l : List ByteArray) (k : Nat) (h : k < l.length) : nulB (l.take (k + 1)) = (nulB (l.take k) ++ cutZ l[k]) ++ [0] := by
  rw [List.take_add_one, List.getElem?_eq_getElem h]
  unfold nulB
  rw [List.flatMap_append]
  simp

set_option maxRecDepth 20000 in
set_option maxHeartbeats 4000000 in
theorem fromTextsOK : FromTextsOK := by
  intro A n c l w hl hs hz hn hnc hc
  have HS := Lib.hid hs
  have HL := Lib.hid hl
  have HZ := Lib.hid hz
  have HC := Lib.hid (And.intro hnc hc)
  have HLE := Lib.hid (fun k => Nat.le_trans (nulB_le (l.take k) (fun s h => hz s (List.mem_of_mem_take h))) (Nat.mul_le_mul_left 301 (show (l.take k).length ≤ 100 by rw [List.length_take]; omega)))
  clear hs hl hz hnc hc
  go_enter Try.func15, Try.ntmps15
  go_wp2_with fail
  go_loopw [3, 11] (fun b i wr => ∃ k m : Nat, k ≤ n ∧ i = .int .i64 k ∧ m ≤ 30100 ∧ (∃ Ao co, b = .slice Ao m co ∧ wr.ownsRow w.heap.size 5 1 (.slice Ao m co) m (u8s (nulB (l.take k)))) ∧ Below w.heap.size w wr) (fun _ i _ => n - (intOf i).toNat)
  case atStart => exact ⟨0, 0, Nat.zero_le _, rfl, Nat.zero_le _, ⟨_, _, rfl, World.ownsRow_nil _ _ _ _⟩, Below.refl _ _⟩
  case round =>
    obtain ⟨k, m, hk, rfl, hm, ⟨Ao, co, rfl, hown⟩, hb⟩ := hrel
    have HB1 := Lib.hid hb
    have HO1 := Lib.hid hown
    by_cases hlt : k < n
    · obtain ⟨b, o, e, _, cc⟩ := str_cell (HS.out.below hb) HL.out k hlt
      obtain rfl : A = _ := e
      have hkz : k < l.length := by rw [HL.out]; exact hlt
      have hnx := nulB_take l k hkz
      obtain ⟨x, hx⟩ : ∃ x, l.getD k ⟨#[]⟩ = x := ⟨_, rfl⟩
      have hxl : l[k] = x := by rw [← hx]; simp [List.getD, List.getElem?_eq_getElem hkz]
      have hxb : x.size ≤ 300 := by rw [← hxl]; exact HZ.out _ (List.getElem_mem hkz)
      rw [hx] at cc
      rw [hxl] at hnx
      have CC := Lib.hid (fun W => cut0_any x W (by omega))
      have hys : strB (cutS x) = cutZ x := strB_of _ (cutZ_byte x)
      have hyl : (cutS x).size ≤ 300 := by
        have := cutZ_le x
        rw [← strB_length, hys]; omega
      obtain ⟨y, hy⟩ : ∃ y, cutS x = y := ⟨_, rfl⟩
      rw [hy] at CC hys hyl
      rw [← hys] at hnx
      have HNX := Lib.hid hnx
      have hml := HLE.out (k + 1)
      have hol := hown.1
      rw [hnx] at hml
      have hz1 : (strB (⟨#[0]⟩ : ByteArray)) = [0] := rfl
      have HZ1 := Lib.hid hz1
      simp only [List.length_append, List.length_cons, List.length_nil, strB_length] at hml
      simp only [List.length_map, Nat.mul_one] at hol
      have hml2 : m + y.size + 1 ≤ 30100 := by omega
      clear hx hnx hkz hown hb hxl hys hy hml hol hz1
      go_wp2_with fail
      refine (CC.out _).mono ?_
      rintro e w1 ⟨⟨x1, b1, rfl⟩, hb1⟩
      have ho1 := own_on HO1.out hb1
      have HB2 := Lib.hid (HB1.out.trans (hb1.mono HB1.out.size))
      obtain ⟨A2, c2, w2, r2, o2, b2⟩ := app_str ho1 y (by omega) HB2.out.size 22
      have HB3 := Lib.hid (HB2.out.trans b2)
      obtain ⟨A3, c3, w3, r3, o3, b3⟩ := app_str o2 ⟨#[0]⟩ (by simp only [show (⟨#[0]⟩ : ByteArray).size = 1 from rfl]; omega) HB3.out.size 22
      have HO3 : Hid (w3.ownsRow w.heap.size 5 1 (.slice A3 (m + y.size + 1) c3) (m + y.size + 1) (u8s (nulB (l.take (k + 1))))) := Lib.hid (by rw [HNX.out, ← HZ1.out]; exact o3)
      have HB4 := Lib.hid (HB3.out.trans b3)
      replace r3 : (Builtin.append_ #[22, 9] 22 #[.slice A2 (m + y.size) c2, .string ⟨#[0]⟩]).run Try.prog w2 = .ok (.slice A3 (m + y.size + 1) c3) w3 := r3
      clear o2 b2 ho1 hb1 o3 b3
      go_wp2_with (at_builtin; first | refine Lib.wpList_append_run _ rfl _ _ _ _ rfl _ _ rfl rfl _ _ r2 ?_ | refine Lib.wpList_append_run _ rfl _ _ _ _ rfl _ _ rfl rfl _ _ r3 ?_)
      go_roundw
      case rel => exact ⟨k + 1, m + y.size + 1, by omega, by go_num, by omega, ⟨A3, c3, rfl, HO3.out⟩, HB4.out⟩
      case measure => simp [intOf]; omega
    · obtain rfl : k = n := by omega
      have HE : Hid (l.take k = l) := Lib.hid (List.take_of_length_le (by rw [HL.out]; exact Nat.le_refl _))
      obtain ⟨A', c', e, hsh, h1, h2⟩ := owned_shows HO1.out (by rw [HE.out]; exact nulB_byte l)
      rw [HE.out] at hsh
      simp only [Value.slice.injEq, true_and] at e
      obtain ⟨rfl, rfl⟩ := e
      have HSH := Lib.hid hsh
      have hlen : (nulB l).length = m := hsh.1
      clear hown hb hsh
      go_wp2
      go_ret
      rw [hlen]
      exact ⟨⟨_, _, rfl, HSH.out, h1, h2⟩, HB1.out⟩
end Go.Proofs.Ythlaoidlhbjaiaa
