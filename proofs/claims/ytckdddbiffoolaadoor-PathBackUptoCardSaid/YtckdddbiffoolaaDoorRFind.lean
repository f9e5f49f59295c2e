/-
  The program's Find, at the paths of a formed tree's nodes.
-/
import Derived.Test.YtckdddbiffoolaaDoorRSplit
import Derived.Test.YtckdddbiffoolaaDoorTFind
namespace Go.Proofs.YtckdddbiffoolaaDoor
open Go.RowKit
set_option linter.unusedVariables false
set_option linter.unusedSimpArgs false

set_option maxHeartbeats 1000000 in
theorem lite_stroke (s : ByteArray) (i : Nat) (w : World) (hi : i < s.size) (h : Lib.indexByte s.data.toList 47 = (i : Int)) (hs : s.size ≤ 140737488351232) :
    Calls Tryd.prog 37 #[.string s, .string ⟨#[47]⟩] w fun e w' => e = .returned (.tuple #[.string (s.extract 0 i), .string (s.extract (i + 1) s.size), .bool true]) ∧ w' = w.drewN 1 := by
  have C := Lib.hid (Go.Proofs.Tryd.stringslite_Index_one s 47 w)
  rw [h] at C
  clear h
  have c1 : (0 : Int) ≤ ↑i := by omega
  have c2 : (↑i : Int) ≤ ↑s.size := by omega
  have c3 : (0 : Int) ≤ ↑i + 1 := by omega
  have c4 : (↑i + 1 : Int) ≤ ↑s.size := by omega
  have e1 : IntKind.i64.wrap ((i : Int) + 1) = (i : Int) + 1 := IntWalk.i64_in _ (by omega)
  have e2 : ((i : Int) + 1).toNat = i + 1 := by omega
  go_enter Tryd.func37, Tryd.ntmps37
  go_wp2_with (go_at_call 49; refine C.out.mono ?_; rintro e w' ⟨rfl, rfl⟩)
  go_region
  go_wp2
  go_ret3
  exact ⟨rfl, rfl⟩
theorem cut_stroke (s : ByteArray) (w : World) (h0 : 0 < s.size) (h : Lib.indexByte s.data.toList 47 = 0) (hs : s.size ≤ 140737488351232) :
    Calls Tryd.prog 26 #[.string s, .string ⟨#[47]⟩] w fun e w' => e = .returned (.tuple #[.string ⟨#[]⟩, .string (s.extract 1 s.size), .bool true]) ∧ w' = w.drewN 1 := by
  have C := Lib.hid (lite_stroke s 0 w h0 h hs)
  have e : s.extract 0 0 = ⟨#[]⟩ := by
    rcases s with ⟨⟨l⟩⟩
    apply ByteArray.ext
    simp
  rw [e, Nat.zero_add] at C
  clear h e
  go_enter Tryd.func26, Tryd.ntmps26
  go_wp2_with (go_at_call 37; refine C.out.mono ?_; rintro e w' ⟨rfl, rfl⟩)
  go_ret3
  exact ⟨rfl, rfl⟩

set_option maxHeartbeats 1000000 in
theorem alias_none (n : Nd) (s : ByteArray) (w : World) (h0 : 0 < s.size) (h : Lib.indexByte s.data.toList 47 = 0) (hs : s.size ≤ 140737488351232) :
    Calls Tryd.prog 18 #[n.val, .string s] w fun e w' => e = .returned (.tuple #[.string s, .bool true]) ∧ Below w.heap.size w w' := by
  have C := Lib.hid (fun W => cut_stroke s W h0 h hs)
  clear h
  obtain ⟨nm, pa, pc, ps, ka, kc, ks⟩ := n
  have HB := Lib.hid ((Below.refl w.heap.size w).alloc (Nat.le_refl _) (.cells #[.string nm, .slice pa ps.length pc, .slice ka ks.length kc] 27))
  show Calls _ _ #[.agg #[.string nm, .slice pa ps.length pc, .slice ka ks.length kc], .string s] _ _
  go_enter Tryd.func18, Tryd.ntmps18
  go_wp2_with fail
  refine (C.out _).mono ?_
  rintro e w' ⟨rfl, rfl⟩
  go_wp2
  go_ret2
  exact ⟨rfl, HB.out.drew⟩

set_option maxHeartbeats 1000000 in
theorem kid_hit (n : Nd) (s : ByteArray) (w : World) (hin : n.In w w.heap.size) (h0 : s.data.toList ≠ []) (k : Nat) (hk : idxOf (n.kids.map Nd.name) s = (k : Int)) :
    Calls Tryd.prog 21 #[n.val, .string s] w fun e w' => e = .returned (.tuple #[.int .i64 k, .int .i64 0]) ∧ Below w.heap.size w w' := by
  have C := Lib.hid (fun (W : World) (hW : Below w.heap.size w W) => kid_any n s W (hin.on hW) k hk.symm)
  have e0 : s.toList.isEmpty = false := by
    rw [Lib.toList_data]
    cases h : s.data.toList with
    | nil => exact absurd h h0
    | cons a l => rfl
  clear hin hk h0
  obtain ⟨nm, pa, pc, ps, ka, kc, ks⟩ := n
  have HB := Lib.hid ((Below.refl w.heap.size w).alloc (Nat.le_refl _) (.cells #[.string nm, .slice pa ps.length pc, .slice ka ks.length kc] 27))
  replace C : Hid (∀ (W : World) (hW : Below w.heap.size w W), Calls Tryd.prog 31 #[.agg #[.string nm, .slice pa ps.length pc, .slice ka ks.length kc], .string s] W fun e w' => e = .returned (.int .i64 k) ∧ Below W.heap.size W w') := C
  show Calls _ _ #[.agg #[.string nm, .slice pa ps.length pc, .slice ka ks.length kc], .string s] _ _
  have k1 : ((k : Int) ≥ 0) := by omega
  go_enter Tryd.func21, Tryd.ntmps21
  go_wp2_with fail
  refine (C.out _ HB.out).mono ?_
  rintro e w' ⟨rfl, hb⟩
  have HB2 := Lib.hid (HB.out.trans (hb.mono HB.out.size))
  clear hb
  go_wp2
  go_ret2
  exact ⟨rfl, HB2.out⟩

theorem names_get : ∀ (p : List Nat) (k : Nat) {n y x : Nd}, nodeAt n p = some y → ∀ hk : k < p.length, nodeAt n (p.take k) = some x → ∃ h : p[k] < x.kids.length, (namesAt n p)[k]? = some x.kids[p[k]].name
  | i :: p, 0, n, y, x, hy, hk, hx => by
    rw [List.take_zero, nodeAt] at hx
    obtain rfl := Option.some.inj hx
    obtain ⟨hi, e⟩ := nodeAt_some hy
    exact ⟨hi, by rw [namesAt_cons hi]; rfl⟩
  | i :: p, k + 1, n, y, x, hy, hk, hx => by
    obtain ⟨hi, e⟩ := nodeAt_some hy
    rw [List.take_succ_cons] at hx
    obtain ⟨_, e2⟩ := nodeAt_some hx
    obtain ⟨h1, h2⟩ := names_get p k e (by simpa using hk) e2
    exact ⟨by simpa using h1, by rw [namesAt_cons hi]; simpa using h2⟩
theorem own_none (w : World) (B : Nat) : w.ownsRow B 3 1 (.slice none 0 0) 0 (ints []) := World.ownsRow_nil _ _ _ _
/-- append of one number, laid by the call itself. -/
theorem app_num {w : World} {B : Nat} {v : Value} {p : List Nat} (h : w.ownsRow B 3 1 v p.length (ints p)) (q : Nat) (hn : p.length + 1 ≤ 1073741824) (hB : B ≤ w.heap.size) :
    ∃ A' c' w', (Builtin.append_ #[38, 38] 38 #[v, .slice (some ⟨w.heap.size, 0, none⟩) 1 1]).run Tryd.prog (w.alloc (.cells #[.int .i64 (q : Int)] 3)) = .ok (.slice A' (p.length + 1) c') w' ∧ w'.ownsRow B 3 1 (.slice A' (p.length + 1) c') (p.length + 1) (ints (p ++ [q])) ∧ Below B w w' := by
  have h1 := h.alloc (.cells #[.int .i64 (q : Int)] 3)
  have hb := (Below.refl B w).alloc hB (.cells #[.int .i64 (q : Int)] 3)
  obtain ⟨v', w', r, g⟩ := app_ints 1 h1 (one_new w q) (by simp only [List.length_cons, List.length_nil]; omega) (Nat.le_trans hB hb.size) 38
  have g2 := hb.grown g.2.1 (Nat.le_trans hB hb.size) (fun b e => (h1.lt b e).1)
  have g3 := g.1
  rw [List.length_map, List.length_append, show [q].length = 1 from rfl] at g3
  obtain ⟨A', c', rfl, _⟩ := owned_cel g3
  exact ⟨A', c', w', r, g3, g2⟩

set_option maxRecDepth 20000 in
set_option maxHeartbeats 8000000 in
theorem find_walk (t : Tr) (p : List Nat) (y : Nd) (n1 : ByteArray) (rest : List ByteArray) (S : ByteArray) (w : World) (hin : t.In w w.heap.size) (hck : checkE t = 0) (hy : nodeAt t.root p = some y) (hL : namesAt t.root p = n1 :: rest) (hS : S.data.toList = pathB (n1 :: rest)) (hsz : S.size ≤ 1024) :
    Calls Tryd.prog 9 #[t.val, .string S] w fun e w' => (∃ A c, e = .returned (.tuple #[.slice A p.length c, .int .i64 0]) ∧ Cel w' w'.heap.size A p.length (ints p) ∧ p.length ≤ c ∧ c ≤ 9223372036854775807) ∧ Below w.heap.size w w' := by
  have hwr := root_wrong hck
  have hok := namesAt_ok p (Int.le_refl 1) hwr hy
  have hlen := namesAt_length p hy
  have hpb : pathB (n1 :: rest) = 47 :: (n1.data.toList ++ pathB rest) := by simp [pathB]
  have hn1 : n1.data.toList ≠ [] := nodeB_some6 (hok n1 (by rw [hL]; simp))
  have hs0 : 0 < S.size := by
    have : S.data.toList.length = S.size := rfl
    rw [hS, hpb, List.length_cons] at this
    omega
  have hi0 : Lib.indexByte S.data.toList 47 = 0 := by rw [hS, hpb]; simp [Lib.indexByte]
  have hne : (S.toList == [47]) = false := by
    rw [beq_eq_false_iff_ne, Lib.toList_data, hS, hpb]
    intro e
    injection e with _ e
    exact hn1 (List.append_eq_nil_iff.1 e).1
  have hne' : ([47] == S.toList) = false := by
    rw [beq_eq_false_iff_ne]
    intro e
    rw [← e] at hne
    simp at hne
  have CA := Lib.hid (fun (W : World) => alias_none t.root S W hs0 hi0 (by omega))
  obtain ⟨S1, hS1⟩ : ∃ S1 : ByteArray, S1 = ⟨(Lib.trimPrefix S.data.toList [47]).toArray⟩ := ⟨_, rfl⟩
  have hS1d : S1.data.toList = n1.data.toList ++ pathB rest := by
    rw [hS1, hS, hpb]
    simp [Lib.trimPrefix, Lib.hasPrefix]
  have CT : Hid (∀ W : World, Calls Tryd.prog 20 #[.string S, .string ⟨#[47]⟩] W fun e w' => e = .returned (.string S1) ∧ w' = W) := Lib.hid (fun W => by rw [hS1]; exact Go.Proofs.Tryd.strings_TrimPrefix S ⟨#[47]⟩ W)
  have hS1s : S1.size < 4294967281 := by
    have e1 : S1.data.toList.length = S1.size := rfl
    have e2 : S.data.toList.length = S.size := rfl
    rw [hS, hpb, List.length_cons] at e2
    rw [hS1d] at e1
    omega
  have CS := Lib.hid (fun W => splitS_any n1 rest S1 W hS1d (fun x hx => nodeB_stroke (hok x (by rw [hL]; exact hx))) hS1s)
  have STEP : Hid (∀ (k : Nat) (x : Nd) (hk : k < p.length), nodeAt t.root (p.take k) = some x → ∃ hq : p[k] < x.kids.length, (n1 :: rest)[k]? = some x.kids[p[k]].name ∧ x.kids[p[k]].name.data.toList ≠ [] ∧ idxOf (x.kids.map Nd.name) x.kids[p[k]].name = (p[k] : Int) ∧ nodeAt t.root (p.take (k + 1)) = some x.kids[p[k]]) := Lib.hid (fun k x hk hx => by
    obtain ⟨hq, hnm⟩ := names_get p k hy hk hx
    rw [hL] at hnm
    refine ⟨hq, hnm, nodeB_some6 (hok _ (by rw [hL]; exact List.mem_of_getElem? hnm)), ?_, ?_⟩
    · have h1 := idx_nodup (l := x.kids.map Nd.name) (k := p[k]) (by rw [List.length_map]; exact hq) (well_of (well_at _ hwr hx)).twice
      rw [List.getElem_map] at h1
      exact h1
    · obtain ⟨_, h2, _⟩ := nodeAt_take hy hk hx
      exact h2)
  have HPL : Hid (p.length = rest.length + 1) := Lib.hid (by rw [← hlen, hL]; rfl)
  have HI := Lib.hid hin.root
  have h15 := place_short hwr hy
  clear hin hck hy hL hS hwr hok hlen hpb hn1 hi0 hS1 hS1d hS1s
  obtain ⟨boot, ra, rc, rs, ⟨nm, pa, pc, ps, ka, kc, ks⟩⟩ := t
  replace CA : Hid (∀ W, Calls Tryd.prog 18 #[.agg #[.string nm, .slice pa ps.length pc, .slice ka ks.length kc], .string S] W fun e w' => e = .returned (.tuple #[.string S, .bool true]) ∧ Below W.heap.size W w') := CA
  replace HI : Hid ((Nd.mk nm pa pc ps ka kc ks).In w w.heap.size) := HI
  replace STEP : Hid (∀ (k : Nat) (x : Nd) (hk : k < p.length), nodeAt (Nd.mk nm pa pc ps ka kc ks) (p.take k) = some x → ∃ hq : p[k] < x.kids.length, (n1 :: rest)[k]? = some x.kids[p[k]].name ∧ x.kids[p[k]].name.data.toList ≠ [] ∧ idxOf (x.kids.map Nd.name) x.kids[p[k]].name = (p[k] : Int) ∧ nodeAt (Nd.mk nm pa pc ps ka kc ks) (p.take (k + 1)) = some x.kids[p[k]]) := STEP
  show Calls _ _ #[.agg #[.int .u32 boot, .slice ra rs.length rc, .string nm, .slice pa ps.length pc, .slice ka ks.length kc], .string S] _ _
  have HB := Lib.hid ((Below.refl w.heap.size w).alloc (Nat.le_refl _) (.cells #[.int .u32 boot, .slice ra rs.length rc, .string nm, .slice pa ps.length pc, .slice ka ks.length kc] 29))
  obtain ⟨b0, b1, b2, b3, b4⟩ := box6_cells w (.int .u32 boot) (.slice ra rs.length rc) (.string nm) (.slice pa ps.length pc) (.slice ka ks.length kc) _ (Below.refl _ _)
  have BX := Lib.hid (box6_cells w (.int .u32 boot) (.slice ra rs.length rc) (.string nm) (.slice pa ps.length pc) (.slice ka ks.length kc))
  have n1' : ¬ ((S.size : Int) < 1) := by omega
  have n2' : decide ((S.size : Int) < 1) = false := decide_eq_false n1'
  have n3' : ¬ ((S.size : Int) > 1024) := by omega
  have n4' : decide ((S.size : Int) > 1024) = false := decide_eq_false n3'
  go_enter Tryd.func9, Tryd.ntmps9
  go_wp2_with fail
  refine (CA.out _).mono ?_
  rintro e w1 ⟨rfl, hb⟩
  have HB1 := Lib.hid (HB.out.trans (hb.mono HB.out.size))
  clear b0 b1 b2 b3 b4
  obtain ⟨b0, b1, b2, b3, b4⟩ := BX.out w1 (hb.mono (by simp))
  clear hb
  go_wp2_with fail
  refine (CT.out _).mono ?_
  rintro e w' ⟨rfl, rfl⟩
  go_wp2_with fail
  refine (CS.out _).mono ?_
  rintro e w' ⟨rfl, rfl⟩
  obtain ⟨g, hg⟩ : ∃ g, g = w1.heap.size := ⟨_, rfl⟩
  obtain ⟨R, hR⟩ : ∃ R, Nd.mk nm pa pc ps ka kc ks = R := ⟨_, rfl⟩
  have HRE := Lib.hid hR
  rw [hR] at HI STEP
  have hg0 : w.heap.size ≤ g := by rw [hg]; exact HB1.out.size
  clear hR b0 b1 b2 b3 b4
  obtain ⟨CV, hCV⟩ : ∃ CV, ((n1 :: rest).map Value.string).toArray = CV := ⟨_, rfl⟩
  have HCV := Lib.hid hCV
  have HG := Lib.hid hg
  rw [hCV]
  have h00 : (w1.alloc (.cells #[.string nm, .slice pa ps.length pc, .slice ka ks.length kc] 27)).heap.size = w1.heap.size + 1 := by simp
  rw [h00, ← hg]
  have W0 : Hid (((w1.alloc (.cells #[.string nm, .slice pa ps.length pc, .slice ka ks.length kc] 27)).alloc (.cells CV 9)).heap[g]? = some (.cells #[.string nm, .slice pa ps.length pc, .slice ka ks.length kc] 27 (0, 0)) ∧ ((w1.alloc (.cells #[.string nm, .slice pa ps.length pc, .slice ka ks.length kc] 27)).alloc (.cells CV 9)).heap[g + 1]? = some (.cells CV 9 (0, 0)) ∧ Below w.heap.size w ((w1.alloc (.cells #[.string nm, .slice pa ps.length pc, .slice ka ks.length kc] 27)).alloc (.cells CV 9)) ∧ ((w1.alloc (.cells #[.string nm, .slice pa ps.length pc, .slice ka ks.length kc] 27)).alloc (.cells CV 9)).heap.size = g + 2) := Lib.hid ⟨by
      rw [Below.heap_alloc _ _ _ (by rw [h00, hg]; omega), hg]
      exact heap_alloc_new w1 _, by
      have e := heap_alloc_new (w1.alloc (.cells #[.string nm, .slice pa ps.length pc, .slice ka ks.length kc] 27)) (.cells CV 9)
      rw [h00, ← hg] at e
      exact e, (HB1.out.alloc HB1.out.size (.cells #[.string nm, .slice pa ps.length pc, .slice ka ks.length kc] 27)).alloc (by rw [h00]; have := HB1.out.size; omega) _, by simp [hg]⟩
  go_wp2_with fail
  rw [← HG.out]
  obtain ⟨N, hN⟩ : ∃ N, rest.length = N := ⟨_, rfl⟩
  rw [hN] at HPL ⊢
  clear hN hg h00 hCV
  have hN15 : N ≤ 14 := by have := HPL.out; omega
  go_loopw [9, 39] (fun l i wr => ∃ (k : Nat) (x : Nd), k ≤ N + 1 ∧ i = .int .i64 k ∧ nodeAt R (p.take k) = some x ∧ wr.heap[g]? = some (.cells #[.string x.name, x.pv, x.kv] 27 (0, 0)) ∧ wr.heap[g + 1]? = some (.cells CV 9 (0, 0)) ∧ wr.ownsRow (g + 2) 3 1 l k (ints (p.take k)) ∧ Below w.heap.size w wr ∧ g + 2 ≤ wr.heap.size) (fun _ i _ => N + 1 - (intOf i).toNat)
  case atStart =>
    obtain ⟨a1, a2, a3, a4⟩ := W0.out
    exact ⟨0, R, Nat.zero_le _, rfl, rfl, by rw [← HRE.out]; exact a1, a2, own_none _ _, a3, by rw [a4]; exact Nat.le_refl _⟩
  case round =>
    obtain ⟨k, x, hk, rfl, hx, hbk, hcv, hown, hb, hgs⟩ := hrel
    have HO := Lib.hid hown
    have HB := Lib.hid hb
    have HBK := Lib.hid hbk
    have HCK := Lib.hid hcv
    have HGS := Lib.hid hgs
    by_cases hlt : k < N + 1
    · have HLT := Lib.hid hlt
      obtain ⟨hq, hnm, hne0, hidx, hnext⟩ := STEP.out k x (by rw [HPL.out]; exact hlt) hx
      have hkp : k < p.length := by rw [HPL.out]; exact hlt
      have hpt : p.take (k + 1) = p.take k ++ [p[k]] := by rw [List.take_add_one, List.getElem?_eq_getElem hkp]; rfl
      have hptl : (p.take k).length = k := by rw [List.length_take]; omega
      have HPT := Lib.hid hpt
      have HPTL := Lib.hid hptl
      have HNX := Lib.hid hnext
      have hcs : wr.cell? ⟨g + 1, k, none⟩ = some (.string x.kids[p[k]].name) := by
        rw [Lib.cell_of_heap hcv, ← HCV.out, List.getElem?_toArray, List.getElem?_map, hnm]
        rfl
      generalize p[k] = q at *
      have hxin := (nodeAt_in _ HI.out hx).under hb
      obtain ⟨kb, ko, ek, hkb, d0, d1, d2⟩ := hxin.kcell hq
      have C1 := Lib.hid (kid_hit x x.kids[q].name wr (hxin.more hb.size) hne0 q hidx)
      have hkm := hxin.klen
      have hkl := hxin.name_le.2.2
      replace d0 : wr.cell? ⟨kb, ko + q * 3, none⟩ = some (.string x.kids[q].name) := d0
      obtain ⟨z, hz⟩ : ∃ z, x.kids[q] = z := ⟨_, rfl⟩
      rw [hz] at HNX d0 d1 d2 C1 hcs
      clear hnm hne0 hidx hnext hxin hz hx hpt hptl
      obtain ⟨xn, xpa, xpc, xps, xka, xkc, xks⟩ := x
      obtain ⟨zn, zpa, zpc, zps, zka, zkc, zks⟩ := z
      obtain rfl : xka = _ := ek
      replace hq : q < xks.length := hq
      replace hkm : xks.length ≤ xkc ∧ xkc ≤ 9223372036854775807 := hkm
      replace hkl : xks.length * 64 ≤ 140737488351232 := hkl
      replace hcs : wr.cell? ⟨g + 1, k, none⟩ = some (.string zn) := hcs
      replace C1 : Hid (Calls Tryd.prog 21 #[.agg #[.string xn, .slice xpa xps.length xpc, .slice (some ⟨kb, ko, none⟩) xks.length xkc], .string zn] wr fun e w' => e = .returned (.tuple #[.int .i64 q, .int .i64 0]) ∧ Below wr.heap.size wr w') := C1
      replace d0 : wr.cell? ⟨kb, ko + q * 3, none⟩ = some (.string zn) := d0
      replace d1 : wr.cell? ⟨kb, ko + q * 3 + 1, none⟩ = some (.slice zpa zps.length zpc) := d1
      replace d2 : wr.cell? ⟨kb, ko + q * 3 + 2, none⟩ = some (.slice zka zks.length zkc) := d2
      replace hbk : wr.heap[g]? = some (.cells #[.string xn, .slice xpa xps.length xpc, .slice (some ⟨kb, ko, none⟩) xks.length xkc] 27 (0, 0)) := hbk
      have HD := Lib.hid (And.intro hkb (And.intro d0 (And.intro d1 d2)))
      have HBK2 := Lib.hid hbk
      have c0 : wr.cell? ⟨g, 0, none⟩ = some (.string xn) := by rw [Lib.cell_of_heap hbk]; rfl
      have c1 : wr.cell? ⟨g, 1, none⟩ = some (.slice xpa xps.length xpc) := by rw [Lib.cell_of_heap hbk]; rfl
      have c2 : wr.cell? ⟨g, 2, none⟩ = some (.slice (some ⟨kb, ko, none⟩) xks.length xkc) := by rw [Lib.cell_of_heap hbk]; rfl
      obtain ⟨A9, c9, rfl, _, _, _, _⟩ := owned_cel HO.out
      clear hbk hcv hown hb d0 d1 d2 hkb hkp
      go_wp2_with fail
      refine C1.out.mono ?_
      rintro e w2 ⟨rfl, hb2⟩
      have HB2 := Lib.hid (HB.out.trans (hb2.mono HB.out.size))
      have hs2 : g + 2 ≤ w2.heap.size := Nat.le_trans HGS.out hb2.size
      have RUN : Hid (∃ A' c' w3, (Builtin.append_ #[38, 38] 38 #[.slice A9 k c9, .slice (some ⟨w2.heap.size, 0, none⟩) 1 1]).run Tryd.prog (w2.alloc (.cells #[.int .i64 (q : Int)] 3)) = .ok (.slice A' (k + 1) c') w3 ∧ w3.ownsRow (g + 2) 3 1 (.slice A' (k + 1) c') (k + 1) (ints (p.take (k + 1))) ∧ Below (g + 2) w2 w3) := by
        have ho := own_on HO.out hb2
        obtain ⟨A', c', w3, r, h1, h2⟩ := app_num (p := p.take k) (by rw [HPTL.out]; exact ho) q (by rw [HPTL.out]; have := HPL.out; have := HLT.out; omega) hs2
        rw [HPTL.out] at r h1
        exact Lib.hid ⟨A', c', w3, r, by rw [HPT.out]; exact h1, h2⟩
      obtain ⟨A3, c3, w3, r3, o3, b3'⟩ := RUN.out
      have hgwr : g < wr.heap.size := by have := HGS.out; omega
      have hk3 : w3.heap[g]? = some (.cells #[.string xn, .slice xpa xps.length xpc, .slice (some ⟨kb, ko, none⟩) xks.length xkc] 27 (0, 0)) := (b3'.block g (by omega)).trans ((hb2.block g hgwr).trans HBK2.out)
      have hv3 : w3.heap[g + 1]? = some (.cells CV 9 (0, 0)) := (b3'.block (g + 1) (by omega)).trans ((hb2.block (g + 1) (by have := HGS.out; omega)).trans HCK.out)
      have kd : ∀ a : Addr, a.block < w.heap.size → w3.cell? a = wr.cell? a := fun a ha => (b3'.cell (by omega)).trans (hb2.cell (Nat.lt_of_lt_of_le ha HB.out.size))
      have d0 := (kd ⟨kb, ko + q * 3, none⟩ HD.out.1).trans HD.out.2.1
      have d1 := (kd ⟨kb, ko + q * 3 + 1, none⟩ HD.out.1).trans HD.out.2.2.1
      have d2 := (kd ⟨kb, ko + q * 3 + 2, none⟩ HD.out.1).trans HD.out.2.2.2
      have HO3 : Hid (((w3.setCell ⟨g, 0, none⟩ (.string zn)).setCell ⟨g, 1, none⟩ (.slice zpa zps.length zpc)).setCell ⟨g, 2, none⟩ (.slice zka zks.length zkc) |>.ownsRow (g + 2) 3 1 (.slice A3 (k + 1) c3) (k + 1) (ints (p.take (k + 1)))) := Lib.hid (ownsRow_setCell_below (ownsRow_setCell_below (ownsRow_setCell_below o3 (a := ⟨g, 0, none⟩) (by show g < _; omega) _) (a := ⟨g, 1, none⟩) (by show g < _; omega) _) (a := ⟨g, 2, none⟩) (by show g < _; omega) _)
      have HB3 : Hid (Below w.heap.size w (((w3.setCell ⟨g, 0, none⟩ (.string zn)).setCell ⟨g, 1, none⟩ (.slice zpa zps.length zpc)).setCell ⟨g, 2, none⟩ (.slice zka zks.length zkc))) := Lib.hid ((((HB2.out.trans (b3'.mono (by omega))).setCell (p := ⟨g, 0, none⟩) hg0 _).setCell (p := ⟨g, 1, none⟩) hg0 _).setCell (p := ⟨g, 2, none⟩) hg0 _)
      have HS3 : Hid (g + 2 ≤ (((w3.setCell ⟨g, 0, none⟩ (.string zn)).setCell ⟨g, 1, none⟩ (.slice zpa zps.length zpc)).setCell ⟨g, 2, none⟩ (.slice zka zks.length zkc)).heap.size) := Lib.hid (by simp; exact Nat.le_trans hs2 b3'.size)
      have HK3 : Hid ((((w3.setCell ⟨g, 0, none⟩ (.string zn)).setCell ⟨g, 1, none⟩ (.slice zpa zps.length zpc)).setCell ⟨g, 2, none⟩ (.slice zka zks.length zkc)).heap[g]? = some (.cells #[.string (Nd.mk zn zpa zpc zps zka zkc zks).name, (Nd.mk zn zpa zpc zps zka zkc zks).pv, (Nd.mk zn zpa zpc zps zka zkc zks).kv] 27 (0, 0))) := Lib.hid (by simp [World.setCell, Array.getElem?_modify, hk3, Nd.name, Nd.pv, Nd.kv, Nd.pa, Nd.pc, Nd.props, Nd.ka, Nd.kc, Nd.kids])
      have HV3 : Hid ((((w3.setCell ⟨g, 0, none⟩ (.string zn)).setCell ⟨g, 1, none⟩ (.slice zpa zps.length zpc)).setCell ⟨g, 2, none⟩ (.slice zka zks.length zkc)).heap[g + 1]? = some (.cells CV 9 (0, 0))) := Lib.hid (by rw [Below.heap_setCell _ _ _ _ (by show g + 1 ≠ g; omega), Below.heap_setCell _ _ _ _ (by show g + 1 ≠ g; omega), Below.heap_setCell _ _ _ _ (by show g + 1 ≠ g; omega)]; exact hv3)
      have f0 := Lib.frozen_of_heap hk3 0
      have f1 := Lib.frozen_of_heap hk3 1
      have f2 := Lib.frozen_of_heap hk3 2
      clear c0 c1 c2 hcs
      have c0 : w3.cell? ⟨g, 0, none⟩ = some (.string xn) := by rw [Lib.cell_of_heap hk3]; rfl
      have c1 : w3.cell? ⟨g, 1, none⟩ = some (.slice xpa xps.length xpc) := by rw [Lib.cell_of_heap hk3]; rfl
      have c2 : w3.cell? ⟨g, 2, none⟩ = some (.slice (some ⟨kb, ko, none⟩) xks.length xkc) := by rw [Lib.cell_of_heap hk3]; rfl
      clear RUN o3 b3' hb2 hs2 hgwr hk3 hv3 kd hgs
      generalize hZ : (Nd.mk zn zpa zpc zps zka zkc zks) = Z at HK3 HNX
      clear hZ
      generalize xks.length = xkl at *
      generalize zks.length = zkl at *
      generalize zps.length = zpl at *
      generalize xps.length = xpl at *
      go_wp2_with (at_builtin; refine Lib.wpList_append_run_sl _ rfl _ _ _ rfl _ _ rfl rfl r3 ?_)
      go_roundw
      case rel => exact ⟨k + 1, Z, by have := HLT.out; omega, by go_num, HNX.out, HK3.out, HV3.out, HO3.out, HB3.out, HS3.out⟩
      case measure => have := HLT.out; simp [intOf]; omega
    · obtain rfl : k = N + 1 := by omega
      have HT : Hid (p.take (N + 1) = p) := Lib.hid (List.take_of_length_le (by rw [HPL.out]; exact Nat.le_refl _))
      rw [HT.out, ← HPL.out] at hown
      obtain ⟨A9, c9, rfl, s9, l9, m9, _⟩ := owned_cel hown
      have HF := Lib.hid (And.intro s9 (And.intro l9 m9))
      clear hown hb hbk hcv hx s9 l9 m9
      go_wp2
      go_ret2
      exact ⟨⟨_, _, rfl, HF.out⟩, HB.out⟩

set_option maxRecDepth 20000 in
set_option maxHeartbeats 4000000 in
/-- The root's path. -/
theorem find_root (t : Tr) (w : World) (hin : t.In w w.heap.size) :
    Calls Tryd.prog 9 #[t.val, .string ⟨#[47]⟩] w fun e w' => e = .returned (.tuple #[.slice none 0 0, .int .i64 0]) ∧ Below w.heap.size w w' := by
  have CA := Lib.hid (fun (W : World) => alias_none t.root ⟨#[47]⟩ W (by decide) (by decide) (by decide))
  clear hin
  obtain ⟨boot, ra, rc, rs, ⟨nm, pa, pc, ps, ka, kc, ks⟩⟩ := t
  replace CA : Hid (∀ W, Calls Tryd.prog 18 #[.agg #[.string nm, .slice pa ps.length pc, .slice ka ks.length kc], .string ⟨#[47]⟩] W fun e w' => e = .returned (.tuple #[.string ⟨#[47]⟩, .bool true]) ∧ Below W.heap.size W w') := CA
  show Calls _ _ #[.agg #[.int .u32 boot, .slice ra rs.length rc, .string nm, .slice pa ps.length pc, .slice ka ks.length kc], .string ⟨#[47]⟩] _ _
  have HB := Lib.hid ((Below.refl w.heap.size w).alloc (Nat.le_refl _) (.cells #[.int .u32 boot, .slice ra rs.length rc, .string nm, .slice pa ps.length pc, .slice ka ks.length kc] 29))
  obtain ⟨b0, b1, b2, b3, b4⟩ := box6_cells w (.int .u32 boot) (.slice ra rs.length rc) (.string nm) (.slice pa ps.length pc) (.slice ka ks.length kc) _ (Below.refl _ _)
  go_enter Tryd.func9, Tryd.ntmps9
  go_wp2_with fail
  refine (CA.out _).mono ?_
  rintro e w1 ⟨rfl, hb⟩
  have HB1 := Lib.hid (HB.out.trans (hb.mono HB.out.size))
  clear hb b0 b1 b2 b3 b4
  go_wp2
  go_ret2
  exact ⟨rfl, HB1.out⟩
set_option maxRecDepth 20000 in
set_option maxHeartbeats 4000000 in
/-- A path that is too long. -/
theorem find_long (t : Tr) (S : ByteArray) (w : World) (hs : 1024 < S.size) :
    Calls Tryd.prog 9 #[t.val, .string S] w fun e w' => e = .returned (.tuple #[.slice none 0 0, .int .i64 1]) ∧ Below w.heap.size w w' := by
  obtain ⟨boot, ra, rc, rs, ⟨nm, pa, pc, ps, ka, kc, ks⟩⟩ := t
  show Calls _ _ #[.agg #[.int .u32 boot, .slice ra rs.length rc, .string nm, .slice pa ps.length pc, .slice ka ks.length kc], .string S] _ _
  have HB := Lib.hid ((Below.refl w.heap.size w).alloc (Nat.le_refl _) (.cells #[.int .u32 boot, .slice ra rs.length rc, .string nm, .slice pa ps.length pc, .slice ka ks.length kc] 29))
  have n1' : ¬ ((S.size : Int) < 1) := by omega
  have n2' : decide ((S.size : Int) < 1) = false := decide_eq_false n1'
  have n3' : ((S.size : Int) > 1024) := by omega
  have n4' : decide ((S.size : Int) > 1024) = true := decide_eq_true n3'
  go_enter Tryd.func9, Tryd.ntmps9
  go_wp2
  go_ret2
  exact ⟨rfl, HB.out⟩

theorem findOK : FindOK fun t p => pathOf t.root p := by
  intro t p w hin hck hh hp
  obtain ⟨y, hy⟩ := place_node hp
  constructor
  · intro hs
    by_cases h0 : p = []
    · subst h0
      show Calls _ _ #[_, .string (pathOf t.root [])] _ _
      unfold pathOf
      rw [if_pos rfl]
      refine (find_root t w hin).mono ?_
      rintro e w' ⟨rfl, hb⟩
      exact ⟨⟨none, 0, rfl, Cel.nil _ _ _, Nat.le_refl _, by omega⟩, hb⟩
    · obtain ⟨n1, rest, hL⟩ : ∃ n1 rest, namesAt t.root p = n1 :: rest := by
        rcases hL : namesAt t.root p with _ | ⟨n1, rest⟩
        · have := namesAt_length p hy
          rw [hL] at this
          exact absurd (List.eq_nil_of_length_eq_zero this.symm) h0
        · exact ⟨n1, rest, rfl⟩
      exact find_walk t p y n1 rest (pathOf t.root p) w hin hck hy hL (by unfold pathOf; rw [if_neg h0, hL]) hs
  · intro hs
    refine (find_long t _ w hs).mono ?_
    rintro e w' ⟨rfl, hb⟩
    exact ⟨⟨none, 0, 0, 1, rfl⟩, hb⟩
def pathT (t : Tr) (p : List Nat) : ByteArray := pathOf t.root p
end Go.Proofs.YtckdddbiffoolaaDoor
