/-
  Layer 7, PropReads, PropOne, PropWide: out of what the program's functions answer.
-/
import Derived.Test.YthlaoidlhbjaiaaQOne
import Derived.Test.YthlaoidlhbjaiaaTCheck
import Derived.Deep.DrawnRows
namespace Go.Proofs.Ythlaoidlhbjaiaa
open Go.RowKit
set_option linter.unusedVariables false
set_option linter.unusedSimpArgs false

/-- What Cells, Text and Texts answer: what they read, and the error. -/
def cellsL (zs : List Int) : List Int := if zs.length % 4 = 0 then (List.range (zs.length / 4)).map fun i => numTo zs (4 * i) 4 else []
def cellsE (zs : List Int) : Int := if zs.length % 4 = 0 then 0 else 4
noncomputable def textS (zs : List Int) : ByteArray := match textV zs with | none => ⟨#[]⟩ | some s => strOfNums s
noncomputable def textE (zs : List Int) : Int := match textV zs with | none => 4 | some _ => 0
noncomputable def txtsL (zs : List Int) : List ByteArray := match textsV zs with | none => [] | some l => l.map strOfNums
noncomputable def txtsE (zs : List Int) : Int := match textsV zs with | none => 4 | some _ => 0
abbrev u32s (l : List Int) : List Value := l.map (Value.int .u32)
abbrev strs6 (l : List ByteArray) : List Value := l.map Value.string
/-- A row of values, and an error. -/
def RowOut (w' : World) (R : List Value) (E : Int) (e : Ending) : Prop := ∃ A c, e = .returned (.tuple #[.slice A R.length c, .int .i64 E]) ∧ Cel w' w'.heap.size A R.length R ∧ R.length ≤ c ∧ c ≤ 9223372036854775807

theorem rowOut_of {w w' : World} {e : Ending} {t : TypeId} {R : List Value} {A : Option Addr} {m c : Nat} (hm : m = R.length) (he : e = .returned (.tuple #[.slice A m c, .int .i64 0])) (h : w'.ownsRow w.heap.size t 1 (.slice A m c) m R) : RowOut w' R 0 e := by
  subst hm
  obtain ⟨A', c', e', h1, h2, h3, _⟩ := owned_cel h
  simp only [Value.slice.injEq, true_and] at e'
  obtain ⟨rfl, rfl⟩ := e'
  exact ⟨A, c, he, h1, h2, h3⟩
theorem rowOut_nil {w' : World} {e : Ending} {E : Int} (he : e = .returned (.tuple #[.slice none 0 0, .int .i64 E])) : RowOut w' [] E e := ⟨none, 0, he, Cel.nil _ _ _, Nat.le_refl _, by omega⟩

theorem refcellsR (A : Option Addr) (n c : Nat) (zs : List Int) (w : World) (hs : Shows w w.heap.size A n zs) (hn : n ≤ 140737488351232) (hnc : n ≤ c) (hc : c ≤ 9223372036854775807) :
    Calls Try.prog 9 #[.slice A n c] w fun e w' => RowOut w' (u32s (cellsL zs)) (cellsE zs) e ∧ Below w.heap.size w w' := by
  obtain rfl := hs.1
  refine (refcells_any A _ c zs w hs hn hnc hc).mono fun e w' h => ⟨?_, h.2⟩
  obtain ⟨⟨h1, h2⟩, _⟩ := h
  by_cases h4 : zs.length % 4 = 0
  · obtain ⟨A', c', he, ho⟩ := h2 h4
    have e1 : cellRow zs (zs.length / 4) = u32s (cellsL zs) := by
      rw [cellsL, if_pos h4]; exact (List.map_map (l := List.range (zs.length / 4))).symm
    rw [cellsE, if_pos h4]
    rw [e1] at ho
    exact rowOut_of (by rw [List.length_map, cellsL, if_pos h4, List.length_map, List.length_range]) he ho
  · rw [cellsE, if_neg h4, cellsL, if_neg h4]
    exact rowOut_nil (h1 h4)
theorem reftextR (A : Option Addr) (n c : Nat) (zs : List Int) (w : World) (B : Nat) (hs : Shows w B A n zs) (hn : n ≤ 140737488351232) (hnc : n ≤ c) (hc : c ≤ 9223372036854775807) :
    Calls Try.prog 11 #[.slice A n c] w fun e w' => e = .returned (.tuple #[.string (textS zs), .int .i64 (textE zs)]) ∧ w = w' := by
  refine (reftextV_any A n c zs w B hs hn hnc hc).mono fun e w' h => ⟨?_, h.2⟩
  have h1 := h.1
  unfold TextVOut at h1
  unfold textS textE
  cases hv : textV zs with
  | none => rw [hv] at h1; exact h1
  | some s => rw [hv] at h1; exact h1
theorem reftextsR (A : Option Addr) (n c : Nat) (zs : List Int) (w : World) (hs : Shows w w.heap.size A n zs) (hn : n ≤ 1099511627776) (hnc : n ≤ c) (hc : c ≤ 9223372036854775807) :
    Calls Try.prog 13 #[.slice A n c] w fun e w' => RowOut w' (strs6 (txtsL zs)) (txtsE zs) e ∧ Below w.heap.size w w' := by
  refine (reftexts_any A n c zs w hs hn hnc hc).mono fun e w' h => ⟨?_, h.2⟩
  obtain ⟨⟨h1, h2⟩, _⟩ := h
  unfold txtsL txtsE
  cases hv : textsV zs with
  | none => exact rowOut_nil (h1 hv)
  | some l =>
    obtain ⟨A', c', he, ho⟩ := h2 l hv
    have e1 : strRow l = strs6 (l.map strOfNums) := by rw [strs6, List.map_map]; rfl
    rw [e1] at ho
    exact rowOut_of (by simp) he ho

/-! ### What the program's functions answer -/
def Awake7 : Prop := ∀ w : World, Calls Try.prog 7 #[] w fun e w' => e = .returned (.bool true) ∧ Below w.heap.size w w'
def CellsOK : Prop := ∀ (A : Option Addr) (n c : Nat) (zs : List Int) (w : World), Shows w w.heap.size A n zs → n ≤ 5000 → n ≤ c → c ≤ 9223372036854775807 → Calls Try.prog 8 #[.slice A n c] w fun e w' => RowOut w' (u32s (cellsL zs)) (cellsE zs) e ∧ Below w.heap.size w w'
def TextOK : Prop := ∀ (A : Option Addr) (n c : Nat) (zs : List Int) (w : World), Shows w w.heap.size A n zs → n ≤ 5000 → n ≤ c → c ≤ 9223372036854775807 → Calls Try.prog 10 #[.slice A n c] w fun e w' => e = .returned (.tuple #[.string (textS zs), .int .i64 (textE zs)]) ∧ Below w.heap.size w w'
def TextsOK : Prop := ∀ (A : Option Addr) (n c : Nat) (zs : List Int) (w : World), Shows w w.heap.size A n zs → n ≤ 100000 → n ≤ c → c ≤ 9223372036854775807 → Calls Try.prog 12 #[.slice A n c] w fun e w' => RowOut w' (strs6 (txtsL zs)) (txtsE zs) e ∧ Below w.heap.size w w'
def OneOK : Prop := ∀ (n : Nd) (s : ByteArray) (w : World), n.In w w.heap.size → s.size ≤ 140737488351232 → Calls Try.prog 18 #[n.val, .string s] w fun e w' => e = .returned (oneVal (oneV n s)) ∧ Below w.heap.size w w'

theorem u32_cell {w : World} {B n : Nat} {A : Option Addr} {l : List Int} (h : Cel w B A n (u32s l)) (hn : l.length = n) (k : Nat) (hk : k < n) : ∃ b o, A = some ⟨b, o, none⟩ ∧ b < B ∧ w.cell? ⟨b, o + k, none⟩ = some (.int .u32 (l.getD k 0)) := by
  obtain ⟨b, o, e, hb, hc⟩ := h.2 (by omega)
  refine ⟨b, o, e, hb, ?_⟩
  rw [hc k hk, List.getElem?_map, List.getElem?_eq_getElem (by omega)]
  simp [List.getD, List.getElem?_eq_getElem (show k < l.length by omega)]
theorem str_cell {w : World} {B n : Nat} {A : Option Addr} {l : List ByteArray} (h : Cel w B A n (strs6 l)) (hn : l.length = n) (k : Nat) (hk : k < n) : ∃ b o, A = some ⟨b, o, none⟩ ∧ b < B ∧ w.cell? ⟨b, o + k, none⟩ = some (.string (l.getD k ⟨#[]⟩)) := by
  obtain ⟨b, o, e, hb, hc⟩ := h.2 (by omega)
  refine ⟨b, o, e, hb, ?_⟩
  rw [hc k hk, List.getElem?_map, List.getElem?_eq_getElem (by omega)]
  simp [List.getD, List.getElem?_eq_getElem (show k < l.length by omega)]

set_option maxRecDepth 20000 in
set_option maxHeartbeats 8000000 in
theorem propReads_true (hK : Awake7) (h1 : CellsOK) (h2 : TextOK) (h3 : TextsOK) (A : Option Addr) (n c : Nat) (zs : List Int) (w : World) (hs : Shows w w.heap.size A n zs) (hnc : n ≤ c) (hc : c ≤ 9223372036854775807) :
    Calls Try.prog 3 #[.slice A n c] w fun e w' => e = .returned (.bool true) ∧ Below w.heap.size w w' := by
  have HK := Lib.hid hK
  have HS := Lib.hid hs
  have HC := Lib.hid (And.intro hnc hc)
  have P1 := Lib.hid h1
  have P2 := Lib.hid h2
  have P3 := Lib.hid h3
  clear hK hs h1 h2 h3 hnc hc
  go_enter Try.func3, Try.ntmps3
  go_wp2_with fail
  refine (HK.out _).mono ?_
  rintro e w1 ⟨rfl, hb⟩
  have HB1 := Lib.hid hb
  clear hb
  by_cases hbig : 5000 < n
  · have k1 : decide ((5000 : Int) < (n : Int)) = true := decide_eq_true (by omega)
    clear hbig
    go_wp2_with fail
    refine (HK.out _).mono ?_
    rintro e w2 ⟨rfl, hb⟩
    have HB2 := Lib.hid (HB1.out.trans (hb.mono HB1.out.size))
    clear hb
    go_wp2
    go_ret
    exact ⟨rfl, HB2.out⟩
  · have k1 : decide ((5000 : Int) < (n : Int)) = false := decide_eq_false (by omega)
    have HN := Lib.hid hbig
    clear hbig
    obtain ⟨L, hL⟩ : ∃ L, cellsL zs = L := ⟨_, rfl⟩
    obtain ⟨M, hM⟩ : ∃ M, txtsL zs = M := ⟨_, rfl⟩
    obtain ⟨T, hT⟩ : ∃ T, textS zs = T := ⟨_, rfl⟩
    obtain ⟨E1, hE1⟩ : ∃ E, cellsE zs = E := ⟨_, rfl⟩
    obtain ⟨E2, hE2⟩ : ∃ E, textE zs = E := ⟨_, rfl⟩
    obtain ⟨E3, hE3⟩ : ∃ E, txtsE zs = E := ⟨_, rfl⟩
    have SH := Lib.hid (fun W (hW : Below w.heap.size w W) => HS.out.below hW |>.more hW.size)
    have C1 := Lib.hid (fun W hW => P1.out A n c zs W (SH.out W hW) (by have := HN.out; omega) HC.out.1 HC.out.2)
    have D1 := Lib.hid (fun W hW => refcellsR A n c zs W (SH.out W hW) (by have := HN.out; omega) HC.out.1 HC.out.2)
    have C2 := Lib.hid (fun W hW => P2.out A n c zs W (SH.out W hW) (by have := HN.out; omega) HC.out.1 HC.out.2)
    have D2 := Lib.hid (fun W hW => reftextR A n c zs W _ (SH.out W hW) (by have := HN.out; omega) HC.out.1 HC.out.2)
    have C3 := Lib.hid (fun W hW => P3.out A n c zs W (SH.out W hW) (by have := HN.out; omega) HC.out.1 HC.out.2)
    have D3 := Lib.hid (fun W hW => reftextsR A n c zs W (SH.out W hW) (by have := HN.out; omega) HC.out.1 HC.out.2)
    rw [hL, hE1] at C1 D1
    rw [hT, hE2] at C2 D2
    rw [hM, hE3] at C3 D3
    clear hL hM hT hE1 hE2 hE3 P1 P2 P3
    obtain ⟨l, hl⟩ : ∃ l, (u32s L).length = l := ⟨_, rfl⟩
    obtain ⟨m, hm⟩ : ∃ m, (strs6 M).length = m := ⟨_, rfl⟩
    have HLL := Lib.hid (show L.length = l from by rw [← hl, List.length_map])
    have HMM := Lib.hid (show M.length = m from by rw [← hm, List.length_map])
    unfold RowOut at C1 D1 C3 D3
    rw [hl] at C1 D1
    rw [hm] at C3 D3
    clear hl hm
    go_wp2_with fail
    refine (C1.out _ HB1.out).mono ?_
    rintro e w2 ⟨⟨A2, c2, rfl, s2, l2, m2⟩, hb⟩
    have HB2 := Lib.hid (HB1.out.trans (hb.mono HB1.out.size))
    have HS2 := Lib.hid s2
    clear hb s2
    go_wp2_with fail
    refine (D1.out _ HB2.out).mono ?_
    rintro e w3 ⟨⟨A3, c3, rfl, s3, l3, m3⟩, hb⟩
    have HB3 := Lib.hid (HB2.out.trans (hb.mono HB2.out.size))
    have HS23 := Lib.hid (HS2.out.on hb)
    have HS3 := Lib.hid s3
    clear hb s3
    go_wp2_with fail
    refine (C2.out _ HB3.out).mono ?_
    rintro e w4 ⟨rfl, hb⟩
    have HB4 := Lib.hid (HB3.out.trans (hb.mono HB3.out.size))
    have HS24 := Lib.hid (HS23.out.on hb)
    have HS34 := Lib.hid (HS3.out.on hb)
    clear hb
    go_wp2_with fail
    refine (D2.out _ HB4.out).mono ?_
    rintro e w5 ⟨rfl, rfl⟩
    go_wp2_with fail
    refine (C3.out _ HB4.out).mono ?_
    rintro e w6 ⟨⟨A6, c6, rfl, s6, l6, m6⟩, hb⟩
    have HB6 := Lib.hid (HB4.out.trans (hb.mono HB4.out.size))
    have HS26 := Lib.hid (HS24.out.on hb)
    have HS36 := Lib.hid (HS34.out.on hb)
    have HS6 := Lib.hid s6
    clear hb s6
    go_wp2_with fail
    refine (D3.out _ HB6.out).mono ?_
    rintro e w7 ⟨⟨A7, c7, rfl, s7, l7, m7⟩, hb⟩
    have HB7 := Lib.hid (HB6.out.trans (hb.mono HB6.out.size))
    have HS27 := Lib.hid (HS26.out.on hb)
    have HS37 := Lib.hid (HS36.out.on hb)
    have HS67 := Lib.hid (HS6.out.on hb)
    have HS7 := Lib.hid s7
    clear hb s7
    have q1 : (E1 != E1) = false := by simp
    have q2 : (E2 != E2) = false := by simp
    have q3 : (E3 != E3) = false := by simp
    have q4 : ((l : Int) != (l : Int)) = false := by simp
    have q5 : ((m : Int) != (m : Int)) = false := by simp
    have q6 : (T.toList == T.toList) = true := by simp
    go_wp2_with fail
    go_loopw [89] (fun i wr => ∃ k : Nat, k ≤ l ∧ i = .int .i64 k ∧ Below w7.heap.size w7 wr) (fun i _ => l - (intOf i).toNat)
    case atStart => exact ⟨0, Nat.zero_le _, rfl, Below.refl _ _⟩
    case round =>
      obtain ⟨k, hk, rfl, hb⟩ := hrel
      have HB := Lib.hid hb
      by_cases hlt : k < l
      · obtain ⟨b, o, e, _, cc⟩ := u32_cell (HS27.out.below hb) HLL.out k hlt
        obtain rfl : A2 = _ := e
        obtain ⟨b', o', e', _, dd⟩ := u32_cell (HS37.out.below hb) HLL.out k hlt
        obtain rfl : A3 = _ := e'
        obtain ⟨x, hx⟩ : ∃ x, L.getD k 0 = x := ⟨_, rfl⟩
        rw [hx] at cc dd
        have q7 : (x != x) = false := by simp
        clear hb hx
        go_wp2_with fail
        go_region
        go_wp2
        go_roundw
        case rel => exact ⟨k + 1, by omega, by go_num, HB.out.drew⟩
        case measure => simp [intOf]; omega
      · clear hb
        go_wp2_with fail
        go_loopw [104] (fun i wr => ∃ k : Nat, k ≤ m ∧ i = .int .i64 k ∧ Below w7.heap.size w7 wr) (fun i _ => m - (intOf i).toNat)
        case atStart => exact ⟨0, Nat.zero_le _, rfl, HB.out⟩
        case round =>
          obtain ⟨j, hj, rfl, hb⟩ := hrel
          have HBB := Lib.hid hb
          by_cases hlt : j < m
          · obtain ⟨b, o, e, _, cc⟩ := str_cell (HS67.out.below hb) HMM.out j hlt
            obtain rfl : A6 = _ := e
            obtain ⟨b', o', e', _, dd⟩ := str_cell (HS7.out.below hb) HMM.out j hlt
            obtain rfl : A7 = _ := e'
            obtain ⟨x, hx⟩ : ∃ x, M.getD j ⟨#[]⟩ = x := ⟨_, rfl⟩
            rw [hx] at cc dd
            have q7 : (x.toList == x.toList) = true := by simp
            clear hb hx
            go_wp2_with fail
            go_region
            go_wp2
            go_roundw
            case rel => exact ⟨j + 1, by omega, by go_num, HBB.out.drew⟩
            case measure => simp [intOf]; omega
          · clear hb
            go_wp2
            go_ret
            exact ⟨rfl, HB7.out.trans (HBB.out.mono HB7.out.size)⟩

set_option maxRecDepth 20000 in
set_option maxHeartbeats 8000000 in
theorem propOne_true (hK : Awake7) (h1 : OneOK) (n : Nd) (s : ByteArray) (w : World) (hin : n.In w w.heap.size) (hss : s.size ≤ 140737488351232) :
    Calls Try.prog 6 #[n.val, .string s] w fun e w' => e = .returned (.bool true) ∧ Below w.heap.size w w' := by
  have HK := Lib.hid hK
  have C0 := Lib.hid (fun W (h : n.In W W.heap.size) => few_any ⟨0, none, 0, [], n⟩ W ⟨⟨by show (0 : Int) ≤ 0; decide, by show (0 : Int) ≤ _; decide⟩, ⟨by simp, by simp, by simp⟩, fun h => absurd h (by simp), fun r h => by simp at h, h⟩)
  have C1 := Lib.hid (fun W hW => h1 n s W hW hss)
  have D1 := Lib.hid (fun W hW => refone_all n s W hW)
  have HI := Lib.hid hin
  obtain ⟨O, hO⟩ : ∃ O, oneV n s = O := ⟨_, rfl⟩
  rw [hO] at C1 D1
  obtain ⟨v, ok, E⟩ := O
  clear hK h1 hin hss hO
  obtain ⟨nm, pa, pc, ps, ka, kc, ks⟩ := n
  simp only [Tr.val, Tr.rv, Nd.val, Nd.pv, Nd.kv, Nd.name, Nd.pa, Nd.pc, Nd.props, Nd.ka, Nd.kc, Nd.kids, List.length_nil, oneVal] at C0 C1 D1 ⊢
  have HB := Lib.hid ((Below.refl w.heap.size w).alloc (Nat.le_refl _) (.cells #[Value.string nm, .slice pa ps.length pc, .slice ka ks.length kc] 45))
  have BX : Hid (∀ W, Below (w.heap.size + 1) (w.alloc (.cells #[Value.string nm, .slice pa ps.length pc, .slice ka ks.length kc] 45)) W → W.cell? ⟨w.heap.size, 0, none⟩ = some (.string nm) ∧ W.cell? ⟨w.heap.size, 1, none⟩ = some (.slice pa ps.length pc) ∧ W.cell? ⟨w.heap.size, 2, none⟩ = some (.slice ka ks.length kc)) := Lib.hid (fun W h =>
    ⟨(h.cell (Nat.lt_succ_self _)).trans (World.cell?_alloc_new _ _ _ _), (h.cell (Nat.lt_succ_self _)).trans (World.cell?_alloc_new _ _ _ _), (h.cell (Nat.lt_succ_self _)).trans (World.cell?_alloc_new _ _ _ _)⟩)
  have IN := Lib.hid (fun W (h : Below w.heap.size w W) => Nd.In.more h.size (HI.out.under h))
  go_enter Try.func6, Try.ntmps6
  go_wp2_with fail
  refine (HK.out _).mono ?_
  rintro e w1 ⟨rfl, hb⟩
  have HB1 := Lib.hid (HB.out.trans (hb.mono HB.out.size))
  have HX1 := Lib.hid (hb.mono (B' := w.heap.size + 1) (by simp))
  obtain ⟨b0, b1, b2⟩ := BX.out _ HX1.out
  clear hb
  go_wp2_with fail
  refine (C0.out _ (IN.out _ HB1.out)).mono ?_
  rintro e w2 ⟨⟨r, rfl⟩, hb⟩
  have HB2 := Lib.hid (HB1.out.trans (hb.mono HB1.out.size))
  have HX2 := Lib.hid (HX1.out.trans (hb.mono (by have := HX1.out.size; simpa using this)))
  clear hb b0 b1 b2
  obtain ⟨b0, b1, b2⟩ := BX.out _ HX2.out
  cases r
  · clear b0 b1 b2
    go_wp2_with fail
    refine (HK.out _).mono ?_
    rintro e w3 ⟨rfl, hb⟩
    have HB3 := Lib.hid (HB2.out.trans (hb.mono HB2.out.size))
    clear hb
    go_wp2
    go_ret
    exact ⟨rfl, HB3.out⟩
  · go_wp2_with fail
    refine (C1.out _ (IN.out _ HB2.out)).mono ?_
    rintro e w3 ⟨rfl, hb⟩
    have HB3 := Lib.hid (HB2.out.trans (hb.mono HB2.out.size))
    have HX3 := Lib.hid (HX2.out.trans (hb.mono (by have := HX2.out.size; simpa using this)))
    clear hb b0 b1 b2
    obtain ⟨b0, b1, b2⟩ := BX.out _ HX3.out
    go_wp2_with fail
    refine (D1.out _ (IN.out _ HB3.out)).mono ?_
    rintro e w4 ⟨rfl, hb⟩
    have HB4 := Lib.hid (HB3.out.trans (hb.mono HB3.out.size))
    have q1 : (v == v) = true := by simp
    have q2 : (ok == ok) = true := by simp
    have q3 : (E == E) = true := by simp
    clear hb b0 b1 b2
    go_wp2
    go_ret
    exact ⟨rfl, HB4.out⟩
end Go.Proofs.Ythlaoidlhbjaiaa
