/-
  Layer 11: the program's path.Find at any text of any tree: a place that is there, or an error. First what it calls.
-/
import Derived.Test.YtihlpcbebpnmkaaGreatDoorZText
import Derived.Test.YtihlpcbebpnmkaaGreatDoorBase3
import Derived.Test.YtihlpcbebpnmkaaGreatDoorBase9
import Derived.Test.YtihlpcbebpnmkaaGreatDoorBase10
import Derived.Test.YtihlpcbebpnmkaaGreatDoorBase11
namespace Go.Proofs.YtihlpcbebpnmkaaGreatDoor
open Go.RowKit
set_option linter.unusedVariables false
set_option linter.unusedSimpArgs false
set_option maxRecDepth 20000
attribute [local go_sem ↓] Go.wp_at_zero Go.wp_at_succ

theorem kidIdx11 (l : List ByteArray) (s : ByteArray) : -1 ≤ idxOf l s ∧ idxOf l s < l.length := by
  induction l with
  | nil => simp [idxOf]
  | cons x l ih =>
    rw [idxOf]
    simp only [List.length_cons]
    split
    · omega
    · split <;> omega
theorem heftP_mem : ∀ {l : List PV} {p : PV}, p ∈ l → heftP p ≤ (l.map heftP).sum
  | x :: l, p, h => by
    rw [List.map_cons, List.sum_cons]
    rcases List.mem_cons.1 h with rfl | h
    · omega
    · have := heftP_mem h; omega
theorem heft_prop {n : Nd} {p : PV} (hp : p ∈ n.props) : p.zs.length + 32 ≤ heftN n := by
  rw [heftN_mk n]
  have h := heftP_mem hp
  have e : heftP p = 16 + p.name.size + p.zs.length := rfl
  omega
theorem heftL_mem : ∀ {l : List Nd} {k : Nd}, k ∈ l → heftN k ≤ heftL l
  | x :: l, k, h => by
    rw [heftL]
    rcases List.mem_cons.1 h with rfl | h
    · omega
    · have := heftL_mem h; omega
theorem heft_kid {n k : Nd} (hk : k ∈ n.kids) : heftN k ≤ heftN n := by
  rw [heftN_mk n]
  have := heftL_mem hk
  omega
/-! ### strings.Cut at the stroke -/
theorem lite_nostroke (s : ByteArray) (w : World) (h : Lib.indexByte s.data.toList 47 = -1) :
    Calls Tryz.prog 119 #[.string s, .string ⟨#[47]⟩] w fun e w' => e = .returned (.tuple #[.string s, .string ByteArray.empty, .bool false]) ∧ w = w' := by
  have C := Lib.hid (Go.Proofs.Tryz.stringslite_Index_one s 47 w)
  rw [h] at C
  clear h
  go_enter Tryz.func119, Tryz.ntmps119
  go_wp2_with (go_at_call 141; refine C.out.mono ?_; rintro e w' ⟨rfl, rfl⟩)
  go_ret3
  exact ⟨rfl, rfl⟩
set_option maxHeartbeats 1000000 in
theorem lite_stroke (s : ByteArray) (i : Nat) (w : World) (hi : i < s.size) (h : Lib.indexByte s.data.toList 47 = (i : Int)) (hs : s.size ≤ 140737488351232) :
    Calls Tryz.prog 119 #[.string s, .string ⟨#[47]⟩] w fun e w' => e = .returned (.tuple #[.string (s.extract 0 i), .string (s.extract (i + 1) s.size), .bool true]) ∧ w' = w.drewN 1 := by
  have C := Lib.hid (Go.Proofs.Tryz.stringslite_Index_one s 47 w)
  rw [h] at C
  clear h
  have c1 : (0 : Int) ≤ ↑i := by omega
  have c2 : (↑i : Int) ≤ ↑s.size := by omega
  have c3 : (0 : Int) ≤ ↑i + 1 := by omega
  have c4 : (↑i + 1 : Int) ≤ ↑s.size := by omega
  have e1 : IntKind.i64.wrap ((i : Int) + 1) = (i : Int) + 1 := IntWalk.i64_in _ (by omega)
  have e2 : ((i : Int) + 1).toNat = i + 1 := by omega
  go_enter Tryz.func119, Tryz.ntmps119
  go_wp2_with (go_at_call 141; refine C.out.mono ?_; rintro e w' ⟨rfl, rfl⟩)
  go_region
  go_wp2
  go_ret3
  exact ⟨rfl, rfl⟩
theorem cutS_any (s : ByteArray) (hs : s.size ≤ 268435456) : ∃ (s1 s2 : ByteArray) (r : Bool), s1.size ≤ s.size ∧ s2.size ≤ s.size ∧ ∀ w : World,
    Calls Tryz.prog 95 #[.string s, .string ⟨#[47]⟩] w fun e w' => e = .returned (.tuple #[.string s1, .string s2, .bool r]) ∧ Below w.heap.size w w' := by
  have hr := idxb_range s.data.toList 47
  have hl : s.data.toList.length = s.size := rfl
  rw [hl] at hr
  rcases Int.lt_or_le (Lib.indexByte s.data.toList 47) 0 with h | h
  · have hm : Lib.indexByte s.data.toList 47 = -1 := by omega
    refine ⟨s, ByteArray.empty, false, Nat.le_refl _, Nat.zero_le _, fun w => ?_⟩
    have C := Lib.hid (lite_nostroke s w hm)
    have HB := Lib.hid (Below.refl w.heap.size w)
    clear hr h hm
    go_enter Tryz.func95, Tryz.ntmps95
    go_wp2_with (go_at_call 119; refine C.out.mono ?_; rintro e w' ⟨rfl, rfl⟩)
    go_ret3
    exact ⟨rfl, HB.out⟩
  · obtain ⟨i, hi⟩ : ∃ i : Nat, Lib.indexByte s.data.toList 47 = (i : Int) := ⟨(Lib.indexByte s.data.toList 47).toNat, by omega⟩
    refine ⟨s.extract 0 i, s.extract (i + 1) s.size, true, by rw [ByteArray.size_extract]; omega, by rw [ByteArray.size_extract]; omega, fun w => ?_⟩
    have C := Lib.hid (lite_stroke s i w (by omega) hi (by omega))
    have HB := Lib.hid ((Below.refl w.heap.size w).drew)
    clear hr h hi
    go_enter Tryz.func95, Tryz.ntmps95
    go_wp2_with (go_at_call 119; refine C.out.mono ?_; rintro e w' ⟨rfl, rfl⟩)
    go_ret3
    exact ⟨rfl, HB.out⟩

theorem own_none (w : World) (B : Nat) : w.ownsRow B 3 1 (.slice none 0 0) 0 (ints []) := World.ownsRow_nil _ _ _ _
/-- append of one number, laid by the call itself. -/
theorem app_num {w : World} {B : Nat} {v : Value} {p : List Nat} (h : w.ownsRow B 3 1 v p.length (ints p)) (q : Nat) (hn : p.length + 1 ≤ 1073741824) (hB : B ≤ w.heap.size) :
    ∃ A' c' w', (Builtin.append_ #[39, 39] 39 #[v, .slice (some ⟨w.heap.size, 0, none⟩) 1 1]).run Tryz.prog (w.alloc (.cells #[.int .i64 (q : Int)] 3)) = .ok (.slice A' (p.length + 1) c') w' ∧ w'.ownsRow B 3 1 (.slice A' (p.length + 1) c') (p.length + 1) (ints (p ++ [q])) ∧ Below B w w' := by
  have h1 := h.alloc (.cells #[.int .i64 (q : Int)] 3)
  have hb := (Below.refl B w).alloc hB (.cells #[.int .i64 (q : Int)] 3)
  obtain ⟨v', w', r, g⟩ := app_ints 1 h1 (one_new w q) (by simp only [List.length_cons, List.length_nil]; omega) (Nat.le_trans hB hb.size) 39
  have g2 := hb.grown g.2.1 (Nat.le_trans hB hb.size) (fun b e => (h1.lt b e).1)
  have g3 := g.1
  rw [List.length_map, List.length_append, show [q].length = 1 from rfl] at g3
  obtain ⟨A', c', rfl, _⟩ := owned_cel g3
  exact ⟨A', c', w', r, g3, g2⟩

/-- A property's value, as it comes. -/
theorem findw_any (n : Nd) (s : ByteArray) (w : World) (hin : n.In w w.heap.size) (hh : heftN n ≤ 134217728) :
    Calls Tryz.prog 47 #[n.val, .string s] w fun e w' => (∃ (A : Option Addr) (l c : Nat) (zs : List Int) (b : Bool), e = .returned (.tuple #[.slice A l c, .bool b]) ∧ Shows w' w'.heap.size A l zs ∧ l ≤ c ∧ c ≤ 9223372036854775807 ∧ l ≤ 134217728) ∧ Below w.heap.size w w' := by
  refine (findc_any n s w hin _ rfl).mono ?_
  rintro e w' ⟨A, c, zs, rfl, ⟨h1, h2, h3⟩, h4, h5⟩
  refine ⟨⟨A, zs.length, c, zs, _, rfl, h1, h2, h3, ?_⟩, h5⟩
  rcases h4 with ⟨_, rfl⟩ | ⟨k, hk, _, rfl⟩
  · exact Nat.zero_le _
  · have := heft_prop (List.getElem_mem hk); omega
/-! ### an alias -/
set_option maxHeartbeats 4000000 in
theorem aliasText_any (n : Nd) (s : ByteArray) (w : World) (hin : n.In w w.heap.size) (hh : heftN n ≤ 134217728) :
    Calls Tryz.prog 96 #[n.val, .string s] w fun e w' => (∃ (x : ByteArray) (r : Bool), e = .returned (.tuple #[.string x, .bool r]) ∧ x.size ≤ 134217728) ∧ Below w.heap.size w w' := by
  have HI := Lib.hid hin
  have CK := Lib.hid (fun (W : World) (h : n.In W W.heap.size) => kid_any n ⟨#[97, 108, 105, 97, 115, 101, 115]⟩ W h _ rfl)
  have HKI := Lib.hid (kidIdx11 (n.kids.map Nd.name) ⟨#[97, 108, 105, 97, 115, 101, 115]⟩)
  have HHK : Hid (∀ k ∈ n.kids, heftN k ≤ 134217728) := Lib.hid (fun k hk => Nat.le_trans (heft_kid hk) hh)
  have hkl := hin.klen
  obtain ⟨ix, hix⟩ : ∃ ix, idxOf (n.kids.map Nd.name) ⟨#[97, 108, 105, 97, 115, 101, 115]⟩ = ix := ⟨_, rfl⟩
  rw [hix] at CK HKI
  clear hin hh hix
  obtain ⟨nm, pa, pc, ps, ka, kc, ks⟩ := n
  simp only [Nd.val, Nd.pv, Nd.kv, Nd.name, Nd.pa, Nd.pc, Nd.props, Nd.ka, Nd.kc, Nd.kids, List.length_map] at CK HKI HHK hkl ⊢
  obtain ⟨hk1, hk2⟩ := hkl
  obtain ⟨W0, hW0⟩ : ∃ W0, w.alloc (.cells #[.string nm, .slice pa ps.length pc, .slice ka ks.length kc] 27) = W0 := ⟨_, rfl⟩
  have HB0 : Hid (Below w.heap.size w W0) := Lib.hid (by rw [← hW0]; exact (Below.refl _ _).alloc (Nat.le_refl _) _)
  have HX0 : Hid (W0.heap[w.heap.size]? = some (.cells #[.string nm, .slice pa ps.length pc, .slice ka ks.length kc] 27 (0, 0))) := Lib.hid (by rw [← hW0]; exact heap_alloc_new _ _)
  have HS0 : Hid (W0.heap.size = w.heap.size + 1) := Lib.hid (by rw [← hW0]; simp)
  have y0 : W0.cell? ⟨w.heap.size, 0, none⟩ = some (.string nm) := by rw [Lib.cell_of_heap HX0.out]; rfl
  have y1 : W0.cell? ⟨w.heap.size, 1, none⟩ = some (.slice pa ps.length pc) := by rw [Lib.cell_of_heap HX0.out]; rfl
  have y2 : W0.cell? ⟨w.heap.size, 2, none⟩ = some (.slice ka ks.length kc) := by rw [Lib.cell_of_heap HX0.out]; rfl
  go_enter Tryz.func96, Tryz.ntmps96
  go_wp2_with fail
  try rw [hW0]
  clear hW0 y0 y1 y2
  refine (CK.out W0 (HI.out.on HB0.out)).mono ?_
  rintro e w1 ⟨rfl, hb1⟩
  have HB1 := Lib.hid (HB0.out.trans (hb1.mono HB0.out.size))
  have HX1 := Lib.hid ((hb1.block w.heap.size (by have := HS0.out; omega)).trans HX0.out)
  clear hb1
  by_cases hx : ix < 0
  · have j2 : decide (ix < 0) = true := decide_eq_true hx
    go_wp2
    go_ret2
    exact ⟨⟨_, _, rfl, Nat.zero_le _⟩, HB1.out⟩
  · have j2 : decide (ix < 0) = false := decide_eq_false hx
    obtain ⟨i, rfl⟩ : ∃ i : Nat, ix = (i : Int) := ⟨ix.toNat, by omega⟩
    have hik : i < ks.length := by have := HKI.out; omega
    have hi1 := HI.out.on HB1.out
    obtain ⟨kb, ko, e, _, e0, e1, e2⟩ := hi1.kcell (i := i) hik
    obtain rfl : ka = _ := e
    have hkin : (ks[i]'hik).In w1 w1.heap.size := hi1.kid (List.getElem_mem hik)
    have CF := Lib.hid (findw_any (ks[i]'hik) s w1 hkin (HHK.out _ (List.getElem_mem hik)))
    replace e0 : _ = some (Value.string (ks[i]'hik).name) := e0
    replace e1 : _ = some (ks[i]'hik).pv := e1
    replace e2 : _ = some (ks[i]'hik).kv := e2
    generalize (ks[i]'hik) = X at *
    obtain ⟨xn, xpa, xpc, xps, xka, xkc, xks⟩ := X
    simp only [Nd.val, Nd.pv, Nd.kv, Nd.name, Nd.pa, Nd.pc, Nd.props, Nd.ka, Nd.kc, Nd.kids] at e0 e1 e2 CF
    have b2 : w1.cell? ⟨w.heap.size, 2, none⟩ = some (.slice (some ⟨kb, ko, none⟩) ks.length kc) := by rw [Lib.cell_of_heap HX1.out]; rfl
    clear hkin hi1
    go_wp2_with fail
    clear e0 e1 e2 b2
    refine CF.out.mono ?_
    rintro e w2 ⟨⟨A, zl, c, zs, b, rfl, hsh, hc1, hc2, hzl⟩, hb2⟩
    have HB2 := Lib.hid (HB1.out.trans (hb2.mono HB1.out.size))
    obtain ⟨o, ho⟩ : ∃ o, textFrom zs 0 = o := ⟨_, rfl⟩
    have CT := Lib.hid (text_any A zl c 0 0 rfl zs w2 _ hsh hzl hc1 o ho)
    have HTX : Hid ((txtOf o).size ≤ 134217728) := Lib.hid (by
      rcases o with _ | l
      · exact Nat.zero_le _
      · show (strOfNums l).size ≤ _
        rw [strOf_size6]
        have h1 := textFrom_len ho
        have h2 := hsh.1
        omega)
    obtain ⟨os, hos⟩ : ∃ os, o.isSome = os := ⟨_, rfl⟩
    obtain ⟨x, hx⟩ : ∃ x, txtOf o = x := ⟨_, rfl⟩
    rw [hos, hx] at CT
    rw [hx] at HTX
    have HXS := HTX.out
    clear hsh hc1 hc2 hb2 ho hos hx
    go_wp2_with fail
    refine CT.out.mono ?_
    rintro e w3 ⟨rfl, rfl⟩
    cases os
    · go_wp2
      go_ret2
      exact ⟨⟨_, _, rfl, Nat.zero_le _⟩, HB2.out⟩
    · have CH := Lib.hid (fun W => Go.Proofs.Tryz.strings_HasPrefix x ⟨#[47]⟩ W)
      obtain ⟨hp, hhp⟩ : ∃ hp, Lib.hasPrefix x.data.toList (⟨#[47]⟩ : ByteArray).data.toList = hp := ⟨_, rfl⟩
      rw [hhp] at CH
      clear hhp
      obtain ⟨m, hm⟩ : ∃ m, x.size = m := ⟨_, rfl⟩
      have HM := Lib.hid hm
      rw [hm] at HXS
      by_cases he : m + 1 = zl
      · have k1 : ((m : Int) + 1 != (zl : Int)) = false := by rw [bne_eq_false_iff_eq]; omega
        go_wp2_with fail
        refine (CH.out _).mono ?_
        rintro e w4 ⟨rfl, rfl⟩
        cases hp
        · go_wp2
          go_ret2
          exact ⟨⟨_, _, rfl, Nat.zero_le _⟩, HB2.out⟩
        · go_wp2
          go_ret2
          exact ⟨⟨_, _, rfl, HTX.out⟩, HB2.out⟩
      · have k1 : ((m : Int) + 1 != (zl : Int)) = true := by rw [bne_iff_ne]; omega
        go_wp2
        go_ret2
        exact ⟨⟨_, _, rfl, Nat.zero_le _⟩, HB2.out⟩

theorem trims_len (s : ByteArray) (p : List UInt8) : (⟨(Lib.trimSuffix s.data.toList p).toArray⟩ : ByteArray).size ≤ s.size := by
  show (Lib.trimSuffix s.data.toList p).toArray.size ≤ s.data.size
  rw [List.size_toArray]
  unfold Lib.trimSuffix
  split
  · rw [List.length_take, Array.length_toList]; omega
  · rw [Array.length_toList]; omega
set_option maxHeartbeats 4000000 in
theorem withoutAlias_any (n : Nd) (s : ByteArray) (w : World) (hin : n.In w w.heap.size) (hh : heftN n ≤ 134217728) (hs : s.size ≤ 1024) :
    Calls Tryz.prog 69 #[n.val, .string s] w fun e w' => (∃ (x : ByteArray) (r : Bool), e = .returned (.tuple #[.string x, .bool r]) ∧ x.size ≤ 268435456) ∧ Below w.heap.size w w' := by
  have HI := Lib.hid hin
  obtain ⟨s1, s2, r, q1, q2, CC0⟩ := cutS_any s (by omega)
  have CC := Lib.hid CC0
  have CA := Lib.hid (fun (W : World) (h : n.In W W.heap.size) => aliasText_any n s1 W h hh)
  have HS := Lib.hid (And.intro hs (And.intro q1 q2))
  have hs2 : s2.size ≤ 1024 := by omega
  clear hin hh CC0 q1 q2
  obtain ⟨nm, pa, pc, ps, ka, kc, ks⟩ := n
  simp only [Nd.val, Nd.pv, Nd.kv, Nd.name, Nd.pa, Nd.pc, Nd.props, Nd.ka, Nd.kc, Nd.kids] at CA ⊢
  obtain ⟨W0, hW0⟩ : ∃ W0, w.alloc (.cells #[.string nm, .slice pa ps.length pc, .slice ka ks.length kc] 27) = W0 := ⟨_, rfl⟩
  have HB0 : Hid (Below w.heap.size w W0) := Lib.hid (by rw [← hW0]; exact (Below.refl _ _).alloc (Nat.le_refl _) _)
  have HX0 : Hid (W0.heap[w.heap.size]? = some (.cells #[.string nm, .slice pa ps.length pc, .slice ka ks.length kc] 27 (0, 0))) := Lib.hid (by rw [← hW0]; exact heap_alloc_new _ _)
  have HS0 : Hid (W0.heap.size = w.heap.size + 1) := Lib.hid (by rw [← hW0]; simp)
  go_enter Tryz.func69, Tryz.ntmps69
  go_wp2_with fail
  try rw [hW0]
  clear hW0
  refine (CC.out W0).mono ?_
  rintro e w1 ⟨rfl, hb1⟩
  have HB1 := Lib.hid (HB0.out.trans (hb1.mono HB0.out.size))
  have HX1 := Lib.hid ((hb1.block w.heap.size (by have := HS0.out; omega)).trans HX0.out)
  clear hb1
  rcases hE : s1.toList.isEmpty with _ | _
  · have y0 : w1.cell? ⟨w.heap.size, 0, none⟩ = some (.string nm) := by rw [Lib.cell_of_heap HX1.out]; rfl
    have y1 : w1.cell? ⟨w.heap.size, 1, none⟩ = some (.slice pa ps.length pc) := by rw [Lib.cell_of_heap HX1.out]; rfl
    have y2 : w1.cell? ⟨w.heap.size, 2, none⟩ = some (.slice ka ks.length kc) := by rw [Lib.cell_of_heap HX1.out]; rfl
    go_wp2_with fail
    clear y0 y1 y2
    refine (CA.out w1 (HI.out.on HB1.out)).mono ?_
    rintro e w2 ⟨⟨x, r2, rfl, hx⟩, hb2⟩
    have HB2 := Lib.hid (HB1.out.trans (hb2.mono HB1.out.size))
    have HXZ := Lib.hid hx
    clear hb2
    cases r2
    · go_wp2
      go_ret2
      exact ⟨⟨_, _, rfl, Nat.zero_le _⟩, HB2.out⟩
    · cases r
      · go_wp2
        go_ret2
        exact ⟨⟨_, _, rfl, by have := HXZ.out; omega⟩, HB2.out⟩
      · have CT := Lib.hid (fun W => Go.Proofs.Tryz.strings_TrimSuffix x ⟨#[47]⟩ W (by omega))
        obtain ⟨X1, hX1⟩ : ∃ X1 : ByteArray, X1 = ⟨(Lib.trimSuffix x.data.toList [47]).toArray⟩ := ⟨_, rfl⟩
        replace CT : Hid (∀ W : World, Calls Tryz.prog 97 #[.string x, .string ⟨#[47]⟩] W fun e w' => e = .returned (.string X1) ∧ w' = W) := Lib.hid (fun W => by rw [hX1]; exact CT.out W)
        have hX1z : X1.size ≤ 134217728 := by rw [hX1]; have := trims_len x [47]; omega
        clear hX1 hx
        go_wp2_with fail
        refine (CT.out _).mono ?_
        rintro e w3 ⟨rfl, rfl⟩
        go_wp2
        go_ret2
        refine ⟨⟨_, _, rfl, ?_⟩, HB2.out⟩
        rw [ByteArray.size_append, ByteArray.size_append]
        show X1.size + 1 + s2.size ≤ _
        omega
  · go_wp2
    go_ret2
    exact ⟨⟨_, _, rfl, by have := HS.out; omega⟩, HB1.out⟩

/-! ### a name in a path -/
theorem split11_any (s : ByteArray) (hs : s.size ≤ 140737488351232) : ∃ s1 s2 : ByteArray, ∀ w : World, Calls Tryz.prog 126 #[.string s] w fun e w' => e = .returned (.tuple #[.string s1, .string s2]) ∧ Below w.heap.size w w' := by
  rcases cut_or_not s with h | ⟨i, h⟩
  · exact ⟨_, _, fun w => (split_none s w h).mono fun e w' ⟨h1, h2⟩ => ⟨h1, by rw [← h2]; exact Below.refl _ _⟩⟩
  · exact ⟨_, _, fun w => (split_some s i w h hs).mono fun e w' ⟨h1, h2⟩ => ⟨h1, by rw [h2]; exact (Below.refl _ _).drew⟩⟩
set_option maxHeartbeats 4000000 in
theorem kidOfBase_any (n : Nd) (s : ByteArray) (w : World) (hin : n.In w w.heap.size) :
    Calls Tryz.prog 100 #[n.val, .string s] w fun e w' => (∃ q er : Int, e = .returned (.tuple #[.int .i64 q, .int .i64 er]) ∧ (er = 0 → 0 ≤ q ∧ q < n.kids.length)) ∧ Below w.heap.size w w' := by
  have HI := Lib.hid hin
  have hkl := hin.klen
  have hnl := hin.name_le.2.2
  have HNZ : Hid (∀ k ∈ n.kids, k.name.size ≤ 140737488351232) := Lib.hid (fun k hk => (hin.kid hk).name_le.1)
  clear hin
  obtain ⟨nm, pa, pc, ps, ka, kc, ks⟩ := n
  simp only [Nd.val, Nd.pv, Nd.kv, Nd.name, Nd.pa, Nd.pc, Nd.props, Nd.ka, Nd.kc, Nd.kids] at hkl hnl HNZ ⊢
  obtain ⟨hk1, hk2⟩ := hkl
  obtain ⟨KL, hKL⟩ : ∃ KL, ks.length = KL := ⟨_, rfl⟩
  have HKL := Lib.hid hKL
  rw [hKL] at hk1 hnl ⊢
  obtain ⟨W0, hW0⟩ : ∃ W0, w.alloc (.cells #[.string nm, .slice pa ps.length pc, .slice ka KL kc] 27) = W0 := ⟨_, rfl⟩
  have HB0 : Hid (Below w.heap.size w W0) := Lib.hid (by rw [← hW0]; exact (Below.refl _ _).alloc (Nat.le_refl _) _)
  have HX0 : Hid (W0.heap[w.heap.size]? = some (.cells #[.string nm, .slice pa ps.length pc, .slice ka KL kc] 27 (0, 0))) := Lib.hid (by rw [← hW0]; exact heap_alloc_new _ _)
  have y2 : W0.cell? ⟨w.heap.size, 2, none⟩ = some (.slice ka KL kc) := by rw [Lib.cell_of_heap HX0.out]; rfl
  clear hKL
  go_enter Tryz.func100, Tryz.ntmps100
  go_wp2_with fail
  try rw [hW0]
  clear hW0 y2
  go_loopw [14, 6] (fun i f wr => ∃ (k : Nat) (q : Int), k ≤ KL ∧ i = .int .i64 k ∧ f = .int .i64 q ∧ -1 ≤ q ∧ q < KL ∧ Below w.heap.size w wr) (fun i _ _ => KL - (intOf i).toNat)
  case atStart => exact ⟨0, -1, Nat.zero_le _, rfl, rfl, by omega, by omega, HB0.out⟩
  case round =>
    obtain ⟨k, q, hk, rfl, rfl, hq1, hq2, hb⟩ := hrel
    have HB := Lib.hid hb
    by_cases hlt : k < KL
    · have hkl : k < ks.length := by rw [HKL.out]; exact hlt
      obtain ⟨kb, ko, e, hkb, e0, e1, e2⟩ := (HI.out.on hb).kcell (i := k) hkl
      obtain rfl : ka = _ := e
      replace e0 : _ = some (Value.string (ks[k]'hkl).name) := e0
      replace e1 : _ = some (ks[k]'hkl).pv := e1
      replace e2 : _ = some (ks[k]'hkl).kv := e2
      obtain ⟨s1, s2, CS0⟩ := split11_any (ks[k]'hkl).name (HNZ.out _ (List.getElem_mem hkl))
      have CS := Lib.hid CS0
      have HA := Lib.hid ((Below.refl wr.heap.size wr).alloc (Nat.le_refl _) (.cells #[.string (ks[k]'hkl).name, (ks[k]'hkl).pv, (ks[k]'hkl).kv] 27))
      generalize (ks[k]'hkl) = X at *
      obtain ⟨xn, xpa, xpc, xps, xka, xkc, xks⟩ := X
      simp only [Nd.pv, Nd.kv, Nd.name, Nd.pa, Nd.pc, Nd.props, Nd.ka, Nd.kc, Nd.kids] at e0 e1 e2 CS HA
      clear CS0 hb hkb hkl
      go_wp2_with fail
      refine (CS.out _).mono ?_
      rintro e w4 ⟨rfl, hb4⟩
      have HB4 := Lib.hid (HB.out.trans ((HA.out.trans (hb4.mono HA.out.size)).mono HB.out.size))
      clear hb4 e0 e1 e2
      by_cases hs : s1 = s
      · have hs' : (s1.toList != s.toList) = false := by rw [hs]; simp
        have hs2 : (s1.toList == s.toList) = true := by rw [hs]; simp
        by_cases hq : 0 ≤ q
        · have k1 : (q ≥ 0) := hq
          have k2 : decide (q ≥ 0) = true := decide_eq_true hq
          clear hs
          go_wp2
          go_ret2
          exact ⟨⟨_, _, rfl, fun h => by cases h⟩, HB4.out⟩
        · have k1 : ¬ (q ≥ 0) := hq
          have k2 : decide (q ≥ 0) = false := decide_eq_false hq
          clear hs
          go_wp2
          go_roundw
          case rel => exact ⟨k + 1, k, by omega, by go_num, rfl, by omega, by omega, HB4.out⟩
          case measure => simp [intOf]; omega
      · have hs2 := str_ne hs
        have hs' : (s1.toList != s.toList) = true := by simp [bne, hs2]
        clear hs
        go_wp2
        go_roundw
        case rel => exact ⟨k + 1, q, by omega, by go_num, rfl, hq1, hq2, HB4.out⟩
        case measure => simp [intOf]; omega
    · by_cases hq : q < 0
      · have k2 : decide (q < 0) = true := decide_eq_true hq
        go_wp2
        go_ret2
        exact ⟨⟨_, _, rfl, fun h => by cases h⟩, HB.out⟩
      · have k2 : decide (q < 0) = false := decide_eq_false hq
        go_wp2
        go_ret2
        exact ⟨⟨_, _, rfl, fun _ => ⟨by omega, hq2⟩⟩, HB.out⟩

set_option maxHeartbeats 4000000 in
theorem kidg_any (n : Nd) (s : ByteArray) (w : World) (hin : n.In w w.heap.size) :
    Calls Tryz.prog 72 #[n.val, .string s] w fun e w' => (∃ q er : Int, e = .returned (.tuple #[.int .i64 q, .int .i64 er]) ∧ (er = 0 → 0 ≤ q ∧ q < n.kids.length)) ∧ Below w.heap.size w w' := by
  have HI := Lib.hid hin
  have CK := Lib.hid (fun (W : World) (h : n.In W W.heap.size) => kid_any n s W h _ rfl)
  have CB := Lib.hid (fun (W : World) (h : n.In W W.heap.size) => kidOfBase_any n s W h)
  have HKI := Lib.hid (kidIdx11 (n.kids.map Nd.name) s)
  obtain ⟨ix, hix⟩ : ∃ ix, idxOf (n.kids.map Nd.name) s = ix := ⟨_, rfl⟩
  rw [hix] at CK HKI
  clear hin hix
  obtain ⟨nm, pa, pc, ps, ka, kc, ks⟩ := n
  simp only [Nd.val, Nd.pv, Nd.kv, Nd.name, Nd.pa, Nd.pc, Nd.props, Nd.ka, Nd.kc, Nd.kids, List.length_map] at CK CB HKI ⊢
  obtain ⟨W0, hW0⟩ : ∃ W0, w.alloc (.cells #[.string nm, .slice pa ps.length pc, .slice ka ks.length kc] 27) = W0 := ⟨_, rfl⟩
  have HB0 : Hid (Below w.heap.size w W0) := Lib.hid (by rw [← hW0]; exact (Below.refl _ _).alloc (Nat.le_refl _) _)
  have HX0 : Hid (W0.heap[w.heap.size]? = some (.cells #[.string nm, .slice pa ps.length pc, .slice ka ks.length kc] 27 (0, 0))) := Lib.hid (by rw [← hW0]; exact heap_alloc_new _ _)
  have HS0 : Hid (W0.heap.size = w.heap.size + 1) := Lib.hid (by rw [← hW0]; simp)
  have HNC : Hid (∀ V : World, V.heap[w.heap.size]? = W0.heap[w.heap.size]? → V.cell? ⟨w.heap.size, 0, none⟩ = some (.string nm) ∧ V.cell? ⟨w.heap.size, 1, none⟩ = some (.slice pa ps.length pc) ∧ V.cell? ⟨w.heap.size, 2, none⟩ = some (.slice ka ks.length kc)) := Lib.hid (fun V e => by
    have e2 := e.trans HX0.out
    exact ⟨by rw [Lib.cell_of_heap e2]; rfl, by rw [Lib.cell_of_heap e2]; rfl, by rw [Lib.cell_of_heap e2]; rfl⟩)
  go_enter Tryz.func72, Tryz.ntmps72
  rcases hE : s.toList.isEmpty with _ | _
  · obtain ⟨y0, y1, y2⟩ := HNC.out W0 rfl
    go_wp2_with fail
    try rw [hW0]
    clear hW0 y0 y1 y2
    refine (CK.out W0 (HI.out.on HB0.out)).mono ?_
    rintro e w1 ⟨rfl, hb1⟩
    have HB1 := Lib.hid (HB0.out.trans (hb1.mono HB0.out.size))
    obtain ⟨y0, y1, y2⟩ := HNC.out w1 (hb1.block _ (by have := HS0.out; omega))
    clear hb1
    by_cases hq : 0 ≤ ix
    · have k1 : (ix ≥ 0) := hq
      have k2 : decide (ix ≥ 0) = true := decide_eq_true hq
      have hq2 := HKI.out.2
      go_wp2
      go_ret2
      exact ⟨⟨_, _, rfl, fun _ => ⟨hq, hq2⟩⟩, HB1.out⟩
    · have k1 : ¬ (ix ≥ 0) := hq
      have k2 : decide (ix ≥ 0) = false := decide_eq_false hq
      go_wp2_with fail
      refine (CB.out w1 (HI.out.on HB1.out)).mono ?_
      rintro e w2 ⟨⟨q, er, rfl, hr⟩, hb2⟩
      have HB2 := Lib.hid (HB1.out.trans (hb2.mono HB1.out.size))
      have HR := Lib.hid hr
      clear hb2 hr y0 y1 y2
      go_wp2
      go_ret2
      exact ⟨⟨_, _, rfl, HR.out⟩, HB2.out⟩
  · go_wp2
    try rw [hW0]
    go_ret2
    exact ⟨⟨_, _, rfl, fun h => by cases h⟩, HB0.out⟩
end Go.Proofs.YtihlpcbebpnmkaaGreatDoor
