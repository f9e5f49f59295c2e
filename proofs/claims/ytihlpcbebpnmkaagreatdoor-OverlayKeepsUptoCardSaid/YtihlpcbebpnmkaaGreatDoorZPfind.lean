/-
  Layer 11: the program's path.Find at any text of any tree: a place that is there, or an error.
-/
import Derived.Test.YtihlpcbebpnmkaaGreatDoorZPath
import Derived.Test.YtihlpcbebpnmkaaGreatDoorBase5
import Derived.Test.YtihlpcbebpnmkaaGreatDoorBase11
namespace Go.Proofs.YtihlpcbebpnmkaaGreatDoor
open Go.RowKit
set_option linter.unusedVariables false
set_option linter.unusedSimpArgs false
set_option maxRecDepth 20000
attribute [local go_sem ↓] Go.wp_at_zero Go.wp_at_succ

/-- A place that is there, or an error. -/
def PlaceOut (n : Nd) (w' : World) (e : Ending) : Prop := ∃ (A : Option Addr) (l c : Nat) (er : Int), e = .returned (.tuple #[.slice A l c, .int .i64 er]) ∧ (er = 0 → ∃ P : List Nat, (∃ y, nodeAt n P = some y) ∧ P.length = l ∧ Cel w' w'.heap.size A l (ints P) ∧ l ≤ c ∧ c ≤ 9223372036854775807)
theorem placeOut_no (n : Nd) (w' : World) {er : Int} (h : er ≠ 0) : PlaceOut n w' (.returned (.tuple #[.slice none 0 0, .int .i64 er])) := ⟨none, 0, 0, er, rfl, fun e => absurd e h⟩
theorem nodeAt_snoc : ∀ (P : List Nat) {n x : Nd} {q : Nat}, nodeAt n P = some x → ∀ hq : q < x.kids.length, nodeAt n (P ++ [q]) = some x.kids[q]
  | [], n, x, q, h, hq => by
    rw [nodeAt] at h
    obtain rfl := Option.some.inj h
    rw [List.nil_append, nodeAt_cons hq, nodeAt]
  | i :: P, n, x, q, h, hq => by
    obtain ⟨hi, e⟩ := nodeAt_some h
    rw [List.cons_append, nodeAt_cons hi]
    exact nodeAt_snoc P e hq
theorem nodeAt_in11 : ∀ (P : List Nat) {n x : Nd} {w : World} {B : Nat}, n.In w B → nodeAt n P = some x → x.In w B
  | [], n, x, w, B, h, e => by rw [nodeAt] at e; obtain rfl := Option.some.inj e; exact h
  | i :: P, n, x, w, B, h, e => by
    obtain ⟨hi, e2⟩ := nodeAt_some e
    exact nodeAt_in11 P (h.kid (List.getElem_mem hi)) e2
set_option maxHeartbeats 8000000 in
theorem find_gen (t : Tr) (S : ByteArray) (w : World) (hin : t.In w w.heap.size) (hh : heftN t.root ≤ 134217728) :
    Calls Tryz.prog 49 #[t.val, .string S] w fun e w' => PlaceOut t.root w' e ∧ Below w.heap.size w w' := by
  have HI := Lib.hid hin.root
  have CA := Lib.hid (fun (W : World) (h : t.root.In W W.heap.size) (hs : S.size ≤ 1024) => withoutAlias_any t.root S W h hh hs)
  obtain ⟨R, hR⟩ : ∃ R, t.root = R := ⟨_, rfl⟩
  have HRE := Lib.hid hR
  have HI2 : Hid (R.In w w.heap.size) := Lib.hid (by rw [← hR]; exact hin.root)
  rw [hR]
  clear hin hR hh
  obtain ⟨boot, ra, rc, rs, ⟨nm, pa, pc, ps, ka, kc, ks⟩⟩ := t
  simp only [Tr.val, Tr.rv, Nd.val, Nd.pv, Nd.kv, Nd.name, Nd.pa, Nd.pc, Nd.props, Nd.ka, Nd.kc, Nd.kids] at CA ⊢
  obtain ⟨W0, hW0⟩ : ∃ W0, w.alloc (.cells #[Value.int .u32 boot, .slice ra rs.length rc, .string nm, .slice pa ps.length pc, .slice ka ks.length kc] 29) = W0 := ⟨_, rfl⟩
  have HB0 : Hid (Below w.heap.size w W0) := Lib.hid (by rw [← hW0]; exact (Below.refl _ _).alloc (Nat.le_refl _) _)
  have HX0 : Hid (W0.heap[w.heap.size]? = some (.cells #[Value.int .u32 boot, .slice ra rs.length rc, .string nm, .slice pa ps.length pc, .slice ka ks.length kc] 29 (0, 0))) := Lib.hid (by rw [← hW0]; exact heap_alloc_new _ _)
  have HS0 : Hid (W0.heap.size = w.heap.size + 1) := Lib.hid (by rw [← hW0]; simp)
  go_enter Tryz.func49, Tryz.ntmps49
  by_cases hz0 : S.size < 1
  · have n2' : ((S.size : Int) < 1) := by omega
    have n1' : decide ((S.size : Int) < 1) = true := decide_eq_true n2'
    go_wp2
    try rw [hW0]
    go_ret2
    exact ⟨placeOut_no _ _ (by decide), HB0.out⟩
  by_cases hz1 : 1024 < S.size
  · have n1' : ¬ ((S.size : Int) < 1) := by omega
    have n2' : decide ((S.size : Int) < 1) = false := decide_eq_false n1'
    have n3' : ((S.size : Int) > 1024) := by omega
    have n4' : decide ((S.size : Int) > 1024) = true := decide_eq_true n3'
    go_wp2
    try rw [hW0]
    go_ret2
    exact ⟨placeOut_no _ _ (by decide), HB0.out⟩
  have n1' : ¬ ((S.size : Int) < 1) := by omega
  have n2' : decide ((S.size : Int) < 1) = false := decide_eq_false n1'
  have n3' : ¬ ((S.size : Int) > 1024) := by omega
  have n4' : decide ((S.size : Int) > 1024) = false := decide_eq_false n3'
  obtain ⟨b0, b1, b2, b3, b4⟩ := tree_box HX0.out
  go_wp2_with fail
  try rw [hW0]
  clear hW0 b0 b1 b2 b3 b4
  refine (CA.out W0 (HI.out.on HB0.out) (by omega)).mono ?_
  rintro e w1 ⟨⟨F, r, rfl, hF⟩, hb1⟩
  have HB1 := Lib.hid (HB0.out.trans (hb1.mono HB0.out.size))
  have HX1 := Lib.hid ((hb1.block w.heap.size (by have := HS0.out; omega)).trans HX0.out)
  clear hb1 n1' n2' n3' n4' hz0 hz1 CA
  cases r
  · go_wp2
    go_ret2
    exact ⟨placeOut_no _ _ (by decide), HB1.out⟩
  rcases hE : ([47] == F.toList) with _ | _
  · have hE2 : (F.toList == [47]) = false := by
      rw [beq_eq_false_iff_ne] at hE ⊢
      exact fun e => hE e.symm
    have CT := Lib.hid (fun W => Go.Proofs.Tryz.strings_TrimPrefix F ⟨#[47]⟩ W)
    obtain ⟨S1, hS1⟩ : ∃ S1 : ByteArray, S1 = ⟨(Lib.trimPrefix F.data.toList [47]).toArray⟩ := ⟨_, rfl⟩
    replace CT : Hid (∀ W : World, Calls Tryz.prog 71 #[.string F, .string ⟨#[47]⟩] W fun e w' => e = .returned (.string S1) ∧ w' = W) := Lib.hid (fun W => by rw [hS1]; exact CT.out W)
    have hS1z : S1.size ≤ 268435456 := by
      rw [hS1]
      have : (⟨(Lib.trimPrefix F.data.toList [47]).toArray⟩ : ByteArray).size ≤ F.size := by
        show (Lib.trimPrefix F.data.toList [47]).toArray.size ≤ F.data.size
        rw [List.size_toArray]
        unfold Lib.trimPrefix
        split
        · rw [List.length_drop, Array.length_toList]; omega
        · rw [Array.length_toList]; omega
      omega
    obtain ⟨l, l1, l2, _, _, l4⟩ := split_any 47 S1 hS1z
    have CSP := Lib.hid l4
    obtain ⟨N, hN⟩ : ∃ N, l.length = N := ⟨_, rfl⟩
    have HN := Lib.hid hN
    rw [hN] at CSP l1 l2
    have hN2 : N ≤ 268435457 := by omega
    obtain ⟨b0, b1, b2, b3, b4⟩ := tree_box HX1.out
    clear hS1 l4 hN l2 hS1z hF
    go_wp2_with fail
    refine (CT.out _).mono ?_
    rintro e w' ⟨rfl, rfl⟩
    go_wp2_with fail
    refine (CSP.out _).mono ?_
    rintro e w2 ⟨rfl, rfl⟩
    clear b0 b1 b2 b3 b4 hE hE2
    obtain ⟨g, hg⟩ : ∃ g, g = w1.heap.size := ⟨_, rfl⟩
    have hg0 : w.heap.size ≤ g := by rw [hg]; exact HB1.out.size
    obtain ⟨CV, hCV⟩ : ∃ CV, (l.map Value.string).toArray = CV := ⟨_, rfl⟩
    have HCV := Lib.hid hCV
    have HG := Lib.hid hg
    rw [hCV]
    have h00 : (w1.alloc (.cells #[.string nm, .slice pa ps.length pc, .slice ka ks.length kc] 27)).heap.size = w1.heap.size + 1 := by simp
    rw [h00, ← hg]
    have W0 : Hid (((w1.alloc (.cells #[.string nm, .slice pa ps.length pc, .slice ka ks.length kc] 27)).alloc (.cells CV 9)).heap[g]? = some (.cells #[.string nm, .slice pa ps.length pc, .slice ka ks.length kc] 27 (0, 0)) ∧ ((w1.alloc (.cells #[.string nm, .slice pa ps.length pc, .slice ka ks.length kc] 27)).alloc (.cells CV 9)).heap[g + 1]? = some (.cells CV 9 (0, 0)) ∧ Below w.heap.size w ((w1.alloc (.cells #[.string nm, .slice pa ps.length pc, .slice ka ks.length kc] 27)).alloc (.cells CV 9)) ∧ ((w1.alloc (.cells #[.string nm, .slice pa ps.length pc, .slice ka ks.length kc] 27)).alloc (.cells CV 9)).heap.size = g + 2) := Lib.hid ⟨by
      rw [Below.heap_alloc _ _ _ (by rw [h00, hg]; omega), hg]
      exact heap_alloc_new w1 _, by
      have e := heap_alloc_new (w1.alloc (.cells #[.string nm, .slice pa ps.length pc, .slice ka ks.length kc] 27)) (.cells CV 9)
      rw [h00, ← hg] at e
      exact e, (HB1.out.alloc HB1.out.size (.cells #[.string nm, .slice pa ps.length pc, .slice ka ks.length kc] 27)).alloc (by rw [h00]; have := HB1.out.size; omega) _, by simp [hg]⟩
    have HPOS : Hid (0 < N) := Lib.hid l1
    clear hCV hg h00 l1 HX1 HX0 HB0 HS0 CT CSP HB1
    go_wp2_with fail
    try rw [← HG.out]
    go_loopw [9, 39] (fun l i wr => ∃ (P : List Nat) (k : Nat) (x : Nd), P.length = k ∧ k ≤ N ∧ i = .int .i64 k ∧ nodeAt R P = some x ∧ wr.heap[g]? = some (.cells #[.string x.name, x.pv, x.kv] 27 (0, 0)) ∧ wr.heap[g + 1]? = some (.cells CV 9 (0, 0)) ∧ wr.ownsRow (g + 2) 3 1 l k (ints P) ∧ Below w.heap.size w wr ∧ g + 2 ≤ wr.heap.size) (fun _ i _ => N - (intOf i).toNat)
    case atStart =>
      obtain ⟨a1, a2, a3, a4⟩ := W0.out
      exact ⟨[], 0, R, rfl, Nat.zero_le _, rfl, rfl, by rw [← HRE.out]; exact a1, a2, own_none _ _, a3, by rw [a4]; exact Nat.le_refl _⟩
    case round =>
      obtain ⟨P, k, x, hPk, hk, rfl, hx, hbk, hcv, hown, hb, hgs⟩ := hrel
      have HO := Lib.hid hown
      have HB := Lib.hid hb
      have HBK := Lib.hid hbk
      have HCK := Lib.hid hcv
      have HGS := Lib.hid hgs
      have HPK := Lib.hid hPk
      by_cases hlt : k < N
      · have HLT := Lib.hid hlt
        obtain ⟨nx, hcs⟩ : ∃ nx, wr.cell? ⟨g + 1, k, none⟩ = some (.string nx) := by
          have hkl : k < l.length := by rw [HN.out]; exact hlt
          refine ⟨l[k], ?_⟩
          rw [Lib.cell_of_heap hcv, ← HCV.out, List.getElem?_toArray, List.getElem?_map, List.getElem?_eq_getElem hkl]
          rfl
        have hxin := (nodeAt_in11 P HI2.out hx).under hb
        have HXI := Lib.hid hxin
        have C1 := Lib.hid (kidg_any x nx wr (hxin.more hb.size))
        have hkm := hxin.klen
        have HXN := Lib.hid (And.intro hx hkm)
        clear hxin hx hPk
        obtain ⟨xn, xpa, xpc, xps, xka, xkc, xks⟩ := x
        replace hkm : xks.length ≤ xkc ∧ xkc ≤ 9223372036854775807 := hkm
        replace C1 : Hid (Calls Tryz.prog 72 #[.agg #[.string xn, .slice xpa xps.length xpc, .slice xka xks.length xkc], .string nx] wr fun e w' => (∃ q er : Int, e = .returned (.tuple #[.int .i64 q, .int .i64 er]) ∧ (er = 0 → 0 ≤ q ∧ q < xks.length)) ∧ Below wr.heap.size wr w') := C1
        replace hbk : wr.heap[g]? = some (.cells #[.string xn, .slice xpa xps.length xpc, .slice xka xks.length xkc] 27 (0, 0)) := hbk
        have HBK2 := Lib.hid hbk
        have c0 : wr.cell? ⟨g, 0, none⟩ = some (.string xn) := by rw [Lib.cell_of_heap hbk]; rfl
        have c1 : wr.cell? ⟨g, 1, none⟩ = some (.slice xpa xps.length xpc) := by rw [Lib.cell_of_heap hbk]; rfl
        have c2 : wr.cell? ⟨g, 2, none⟩ = some (.slice xka xks.length xkc) := by rw [Lib.cell_of_heap hbk]; rfl
        obtain ⟨A9, c9, rfl, _, _, _, _⟩ := owned_cel HO.out
        clear hbk hcv hown hb
        go_wp2_with fail
        refine C1.out.mono ?_
        rintro e w2 ⟨⟨q, er, rfl, hq0⟩, hb2⟩
        have HB2 := Lib.hid (HB.out.trans (hb2.mono HB.out.size))
        by_cases he : er = 0
        · subst he
          obtain ⟨hq1, hq2⟩ := hq0 rfl
          obtain ⟨q, rfl⟩ := Int.eq_ofNat_of_zero_le hq1
          have hq : q < xks.length := by omega
          obtain ⟨kb, ko, ek, hkb, d0, d1, d2⟩ := (HXI.out).kcell hq
          have HNX := Lib.hid (nodeAt_snoc P HXN.out.1 hq)
          clear hq0 hq1 hq2
          replace d0 : wr.cell? ⟨kb, ko + q * 3, none⟩ = some (.string xks[q].name) := d0
          obtain ⟨z, hz⟩ : ∃ z, xks[q] = z := ⟨_, rfl⟩
          replace HNX : Hid (nodeAt R (P ++ [q]) = some xks[q]) := HNX
          replace d1 : wr.cell? ⟨kb, ko + q * 3 + 1, none⟩ = some xks[q].pv := d1
          replace d2 : wr.cell? ⟨kb, ko + q * 3 + 2, none⟩ = some xks[q].kv := d2
          rw [hz] at HNX d0 d1 d2
          clear hz
          obtain rfl : xka = _ := ek
          obtain ⟨zn, zpa, zpc, zps, zka, zkc, zks⟩ := z
          replace d0 : wr.cell? ⟨kb, ko + q * 3, none⟩ = some (.string zn) := d0
          replace d1 : wr.cell? ⟨kb, ko + q * 3 + 1, none⟩ = some (.slice zpa zps.length zpc) := d1
          replace d2 : wr.cell? ⟨kb, ko + q * 3 + 2, none⟩ = some (.slice zka zks.length zkc) := d2
          have HD := Lib.hid (And.intro hkb (And.intro d0 (And.intro d1 d2)))
          clear d0 d1 d2 hkb
          have hs2 : g + 2 ≤ w2.heap.size := Nat.le_trans HGS.out hb2.size
          have RUN : Hid (∃ A' c' w3, (Builtin.append_ #[39, 39] 39 #[.slice A9 k c9, .slice (some ⟨w2.heap.size, 0, none⟩) 1 1]).run Tryz.prog (w2.alloc (.cells #[.int .i64 (q : Int)] 3)) = .ok (.slice A' (k + 1) c') w3 ∧ w3.ownsRow (g + 2) 3 1 (.slice A' (k + 1) c') (k + 1) (ints (P ++ [q])) ∧ Below (g + 2) w2 w3) := by
            have ho := own_on HO.out hb2
            obtain ⟨A', c', w3, r, h1, h2⟩ := app_num (p := P) (by rw [HPK.out]; exact ho) q (by rw [HPK.out]; have := HLT.out; omega) hs2
            rw [HPK.out] at r h1
            exact Lib.hid ⟨A', c', w3, r, h1, h2⟩
          obtain ⟨A3, c3, w3, r3, o3, b3'⟩ := RUN.out
          have hgwr : g < wr.heap.size := by have := HGS.out; omega
          have hk3 : w3.heap[g]? = some (.cells #[.string xn, .slice xpa xps.length xpc, .slice (some ⟨kb, ko, none⟩) xks.length xkc] 27 (0, 0)) := (b3'.block g (by omega)).trans ((hb2.block g hgwr).trans HBK2.out)
          have hv3 : w3.heap[g + 1]? = some (.cells CV 9 (0, 0)) := (b3'.block (g + 1) (by omega)).trans ((hb2.block (g + 1) (by have := HGS.out; omega)).trans HCK.out)
          have kd : ∀ a : Addr, a.block < w.heap.size → w3.cell? a = wr.cell? a := fun a ha => (b3'.cell (by omega)).trans (hb2.cell (Nat.lt_of_lt_of_le ha HB.out.size))
          have d0 := (kd ⟨kb, ko + q * 3, none⟩ HD.out.1).trans HD.out.2.1
          have d1 := (kd ⟨kb, ko + q * 3 + 1, none⟩ HD.out.1).trans HD.out.2.2.1
          have d2 := (kd ⟨kb, ko + q * 3 + 2, none⟩ HD.out.1).trans HD.out.2.2.2
          have HO3 : Hid (((w3.setCell ⟨g, 0, none⟩ (.string zn)).setCell ⟨g, 1, none⟩ (.slice zpa zps.length zpc)).setCell ⟨g, 2, none⟩ (.slice zka zks.length zkc) |>.ownsRow (g + 2) 3 1 (.slice A3 (k + 1) c3) (k + 1) (ints (P ++ [q]))) := Lib.hid (ownsRow_setCell_below (ownsRow_setCell_below (ownsRow_setCell_below o3 (a := ⟨g, 0, none⟩) (by show g < _; omega) _) (a := ⟨g, 1, none⟩) (by show g < _; omega) _) (a := ⟨g, 2, none⟩) (by show g < _; omega) _)
          have HB3 : Hid (Below w.heap.size w (((w3.setCell ⟨g, 0, none⟩ (.string zn)).setCell ⟨g, 1, none⟩ (.slice zpa zps.length zpc)).setCell ⟨g, 2, none⟩ (.slice zka zks.length zkc))) := Lib.hid ((((HB2.out.trans (b3'.mono (by omega))).setCell (p := ⟨g, 0, none⟩) hg0 _).setCell (p := ⟨g, 1, none⟩) hg0 _).setCell (p := ⟨g, 2, none⟩) hg0 _)
          have HS3 : Hid (g + 2 ≤ (((w3.setCell ⟨g, 0, none⟩ (.string zn)).setCell ⟨g, 1, none⟩ (.slice zpa zps.length zpc)).setCell ⟨g, 2, none⟩ (.slice zka zks.length zkc)).heap.size) := Lib.hid (by simp; exact Nat.le_trans hs2 b3'.size)
          have HK3 : Hid ((((w3.setCell ⟨g, 0, none⟩ (.string zn)).setCell ⟨g, 1, none⟩ (.slice zpa zps.length zpc)).setCell ⟨g, 2, none⟩ (.slice zka zks.length zkc)).heap[g]? = some (.cells #[.string (Nd.mk zn zpa zpc zps zka zkc zks).name, (Nd.mk zn zpa zpc zps zka zkc zks).pv, (Nd.mk zn zpa zpc zps zka zkc zks).kv] 27 (0, 0))) := Lib.hid (by simp [World.setCell, Array.getElem?_modify, hk3, Nd.name, Nd.pv, Nd.kv, Nd.pa, Nd.pc, Nd.props, Nd.ka, Nd.kc, Nd.kids])
          have HV3 : Hid ((((w3.setCell ⟨g, 0, none⟩ (.string zn)).setCell ⟨g, 1, none⟩ (.slice zpa zps.length zpc)).setCell ⟨g, 2, none⟩ (.slice zka zks.length zkc)).heap[g + 1]? = some (.cells CV 9 (0, 0))) := Lib.hid (by rw [Below.heap_setCell _ _ _ _ (by show g + 1 ≠ g; omega), Below.heap_setCell _ _ _ _ (by show g + 1 ≠ g; omega), Below.heap_setCell _ _ _ _ (by show g + 1 ≠ g; omega)]; exact hv3)
          have f0 := Lib.frozen_of_heap hk3 0
          have f1 := Lib.frozen_of_heap hk3 1
          have f2 := Lib.frozen_of_heap hk3 2
          clear c0 c1 c2 hcs
          have c0 : w3.cell? ⟨g, 0, none⟩ = some (.string xn) := by rw [Lib.cell_of_heap hk3]; rfl
          have c1 : w3.cell? ⟨g, 1, none⟩ = some (.slice xpa xps.length xpc) := by rw [Lib.cell_of_heap hk3]; rfl
          have c2 : w3.cell? ⟨g, 2, none⟩ = some (.slice (some ⟨kb, ko, none⟩) xks.length xkc) := by rw [Lib.cell_of_heap hk3]; rfl
          clear RUN o3 b3' hb2 hs2 hgwr hk3 hv3 kd hgs HBK HBK2 HXI HXN C1
          generalize hZ : (Nd.mk zn zpa zpc zps zka zkc zks) = Z at HK3 HNX
          clear hZ
          generalize xks.length = xkl at *
          generalize zks.length = zkl at *
          generalize zps.length = zpl at *
          generalize xps.length = xpl at *
          go_wp2_with (at_builtin; refine Lib.wpList_append_run_sl _ rfl _ _ _ rfl _ _ rfl rfl r3 ?_)
          go_roundw
          case rel => exact ⟨P ++ [q], k + 1, Z, by rw [List.length_append, HPK.out]; rfl, by have := HLT.out; omega, by go_num, HNX.out, HK3.out, HV3.out, HO3.out, HB3.out, HS3.out⟩
          case measure => have := HLT.out; simp [intOf]; omega
        · have n1' : decide (er = 0) = false := decide_eq_false he
          clear hb2 hq0 hgs
          go_wp2
          go_ret2
          exact ⟨placeOut_no _ _ he, HB2.out⟩
      · obtain rfl : k = N := by omega
        obtain ⟨A9, c9, rfl, s9, l9, m9, _⟩ := owned_cel hown
        have HF := Lib.hid (And.intro s9 (And.intro l9 m9))
        have HXN := Lib.hid hx
        clear hown hb hbk hcv hx s9 l9 m9
        go_wp2
        go_ret2
        exact ⟨⟨_, _, _, 0, rfl, fun _ => ⟨P, ⟨_, HXN.out⟩, HPK.out, HF.out⟩⟩, HB.out⟩
  · have hE2 : (F.toList == [47]) = true := by
      rw [beq_iff_eq] at hE ⊢
      exact hE.symm
    go_wp2
    go_ret2
    exact ⟨⟨none, 0, 0, 0, rfl, fun _ => ⟨[], ⟨_, rfl⟩, rfl, Cel.nil _ _ _, Nat.le_refl _, by omega⟩⟩, HB1.out⟩
end Go.Proofs.YtihlpcbebpnmkaaGreatDoor
