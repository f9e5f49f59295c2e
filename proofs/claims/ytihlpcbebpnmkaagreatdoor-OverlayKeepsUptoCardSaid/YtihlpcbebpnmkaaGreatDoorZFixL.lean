/-
  Layer 11: the program's fixLabel: some cells are set, in the call's own bytes.
-/
import Derived.Test.YtihlpcbebpnmkaaGreatDoorZLabel
import Derived.Test.YtihlpcbebpnmkaaGreatDoorZSetc
import Derived.Test.YtihlpcbebpnmkaaGreatDoorBase11
namespace Go.Proofs.YtihlpcbebpnmkaaGreatDoor
open Go.RowKit
set_option linter.unusedVariables false
set_option linter.unusedSimpArgs false
set_option maxRecDepth 20000
attribute [local go_sem ↓] Go.wp_at_zero Go.wp_at_succ

theorem PV.In.on' {p : PV} {w w' : World} (h : p.In w w.heap.size) (hb : Below w.heap.size w w') : p.In w' w'.heap.size := (h.keep (fun a ha => hb.cell ha)).more hb.size
theorem textsGo_len (zs : List Int) : ∀ (f a : Nat) (s : List Int), s ∈ textsGo zs f a → s.length ≤ zs.length
  | 0, a, s, h => by rw [textsGo] at h; cases h
  | f + 1, a, s, h => by
    rw [textsGo] at h
    split at h
    · split at h
      · cases h
      · rename_i s' hs
        rcases List.mem_cons.1 h with rfl | h
        · have := textFrom_len hs; omega
        · exact textsGo_len zs f _ s h
    · cases h
theorem txts_len {zs : List Int} {x : ByteArray} (h : x ∈ txtsL zs) : x.size ≤ zs.length := by
  unfold txtsL at h
  split at h
  · cases h
  · rename_i l hl
    obtain ⟨s, hs, rfl⟩ := List.mem_map.1 h
    rw [strOf_size6]
    unfold textsV at hl
    split at hl
    · cases hl
    · obtain rfl := Option.some.inj hl
      exact textsGo_len zs _ _ s hs
theorem Wrote.cels {D : Nat → Prop} {w w' : World} {A : Option Addr} {n : Nat} {vs : List ByteArray} (h : Cel w w.heap.size A n (strs6 vs)) (k : Wrote D w w') : Cel w' w'.heap.size A n (strs6 vs) :=
  ⟨h.1, fun hn => by
    obtain ⟨b, o, e, hb, hc⟩ := h.2 hn
    refine ⟨b, o, e, Nat.lt_of_lt_of_le hb k.size, fun i hi => ?_⟩
    have hlt : i < (strs6 vs).length := by rw [h.1]; exact hi
    rw [List.getElem?_eq_getElem hlt]
    refine k.oth _ _ hb ((hc i hi).trans (List.getElem?_eq_getElem hlt)) (fun z e => ?_)
    have := List.getElem_mem hlt
    rw [e] at this
    obtain ⟨y, _, hy⟩ := List.mem_map.1 this
    cases hy⟩
theorem ErrLaid.wrote {D : Nat → Prop} {w w' : World} (h : ErrLaid w) (k : Wrote D w w') (hD : ∀ g, D g → 3 ≤ g) : ErrLaid w' := by
  obtain ⟨h1, ⟨t, p, h2⟩, u, q, h3⟩ := h
  exact ⟨Nat.le_trans h1 k.size, ⟨t, p, (k.chg.cell (a := ⟨1, 0, none⟩) (Nat.lt_of_lt_of_le err_lt.1 h1) (fun e => Nat.not_lt.2 (hD _ e) err_lt.1)).trans h2⟩, u, q, (k.chg.cell (a := ⟨2, 0, none⟩) (Nat.lt_of_lt_of_le err_lt.2 h1) (fun e => Nat.not_lt.2 (hD _ e) err_lt.2)).trans h3⟩

set_option maxHeartbeats 8000000 in
theorem fixLabel_any (D : Nat → Prop) (P : Value → Prop) (TV TK : Nat → Prop) (hD3 : ∀ g, D g → 3 ≤ g) (t : Tr) (p : PV) (a b : Option Nat) (w : World) (hs : SpotAt D P TV TK w) (ha : ∀ g, a = some g → TV g) (hb : ∀ g, b = some g → TK g) (hin : t.In w w.heap.size) (hh : heftN t.root ≤ 134217728) (hp : p.In w w.heap.size) (hz : p.zs.length ≤ 134217728) (he : ErrLaid w) :
    Calls Tryz.prog 39 #[t.val, .agg #[.map a, .map b], .agg #[.string p.name, p.val]] w fun e w' => (∃ r : Bool, e = .returned (.bool r)) ∧ Wrote D w w' := by
  have HS := Lib.hid hs
  have HAB := Lib.hid (And.intro ha hb)
  have HD3 := Lib.hid hD3
  have HI := Lib.hid hin
  have HE := Lib.hid he
  have HP := Lib.hid hp
  have HZ := Lib.hid hz
  have CL := Lib.hid (fun (W : World) (h : t.In W W.heap.size) => labelCell_any t p.name W h hh)
  clear hs ha hb hD3 hin hh hp hz he
  obtain ⟨pn, pad, pcp, pzs⟩ := p
  obtain ⟨boot, ra, rc, rs, ⟨nm, pa, pc, ps, ka, kc, ks⟩⟩ := t
  replace HZ : Hid (pzs.length ≤ 134217728) := HZ
  simp only [Tr.val, Tr.rv, Nd.val, Nd.pv, Nd.kv, Nd.name, Nd.pa, Nd.pc, Nd.props, Nd.ka, Nd.kc, Nd.kids, PV.val] at CL ⊢
  obtain ⟨W0, hW0⟩ : ∃ W0, (((w.alloc (.cells #[Value.int .u32 boot, .slice ra rs.length rc, .string nm, .slice pa ps.length pc, .slice ka ks.length kc] 29)).alloc (.cells #[.map a, .map b] 87)).alloc (.cells #[.string pn, .slice pad pzs.length pcp] 61)) = W0 := ⟨_, rfl⟩
  have h3 := allocs3 w (.cells #[Value.int .u32 boot, .slice ra rs.length rc, .string nm, .slice pa ps.length pc, .slice ka ks.length kc] 29) (.cells #[.map a, .map b] 87) (.cells #[.string pn, .slice pad pzs.length pcp] 61)
  rw [hW0] at h3
  obtain ⟨_, s0, n0, n1, n2, bel⟩ := h3
  have HB0 := Lib.hid bel
  have HX0 := Lib.hid (And.intro n0 (And.intro n1 n2))
  have HS0 := Lib.hid s0
  have KB : Hid (∀ V : World, Wrote D W0 V → V.heap[w.heap.size + 1]? = some (.cells #[.map a, .map b] 87 (0, 0)) ∧ V.heap[w.heap.size + 2]? = some (.cells #[.string pn, .slice pad pzs.length pcp] 61 (0, 0)) ∧ Wrote D w V ∧ SpotAt D P TV TK V ∧ ErrLaid V) := Lib.hid (fun V h => by
    have h1 := (Wrote.of_below D HB0.out).trans h
    exact ⟨(h.blk (by have := HS0.out; omega) (fun e => by have := HS.out.dlt _ e; omega)).trans HX0.out.2.1, (h.blk (by have := HS0.out; omega) (fun e => by have := HS.out.dlt _ e; omega)).trans HX0.out.2.2, h1, HS.out.wrote h1, HE.out.wrote h1 HD3.out⟩)
  obtain ⟨b0, b1, b2, b3, b4⟩ := tree_box n0
  have y0 : W0.cell? ⟨w.heap.size + 2, 0, none⟩ = some (.string pn) := by rw [Lib.cell_of_heap n2]; rfl
  clear s0 n0 n1 n2 bel
  go_enter Tryz.func39, Tryz.ntmps39
  go_wp2_with fail
  try rw [hW0]
  clear hW0 b0 b1 b2 b3 b4 y0
  refine (CL.out W0 (HI.out.on HB0.out)).mono ?_
  rintro e w1 ⟨⟨v, lb, rfl, hv⟩, hb1⟩
  have HV := Lib.hid hv
  have HW1 := Lib.hid (Wrote.of_below D hb1)
  have HBB := Lib.hid (HB0.out.trans (hb1.mono HB0.out.size))
  clear hv hb1 CL
  cases lb
  · go_wp2
    go_ret
    exact ⟨⟨_, rfl⟩, (KB.out _ HW1.out).2.2.1⟩
  · have hpin := PV.In.on' HP.out HBB.out
    have CT := Lib.hid (proptexts_any pad pzs.length pcp pzs w1 hpin.2.1 HZ.out hpin.2.2.1 hpin.2.2.2)
    have HTL := Lib.hid (fun x (hx : x ∈ txtsL pzs) => txts_len hx)
    obtain ⟨L, hL⟩ : ∃ L, txtsL pzs = L := ⟨_, rfl⟩
    obtain ⟨te, hte⟩ : ∃ te, txtsE pzs = te := ⟨_, rfl⟩
    rw [hL, hte] at CT
    rw [hL] at HTL
    obtain ⟨_, k2, _⟩ := KB.out _ HW1.out
    have y1 : w1.cell? ⟨w.heap.size + 2, 1, none⟩ = some (.slice pad pzs.length pcp) := by rw [Lib.cell_of_heap k2]; rfl
    clear hpin hL hte k2
    go_wp2_with fail
    clear y1
    refine CT.out.mono ?_
    rintro e w2 ⟨⟨A, c, rfl, hcel, hc1, hc2⟩, hb2⟩
    have HW2 := Lib.hid (HW1.out.on hb2)
    have HC := Lib.hid hcel
    have HLN : Hid ((strs6 L).length = L.length) := Lib.hid (List.length_map ..)
    rw [HLN.out] at hc1 HC ⊢
    obtain ⟨N, hN⟩ : ∃ N, L.length = N := ⟨_, rfl⟩
    have HN := Lib.hid hN
    rw [hN] at hc1 HC ⊢
    clear hcel hb2 CT HW1 HBB hN HLN
    by_cases ht : te = 0
    · subst ht
      have HN2 : Hid (N ≤ 9223372036854775807) := Lib.hid (by omega)
      go_wp2_with fail
      go_loopw [32] (fun i wr => ∃ k : Nat, k ≤ N ∧ i = .int .i64 k ∧ Wrote D w2 wr) (fun i _ => N - (intOf i).toNat)
      case atStart => exact ⟨0, Nat.zero_le _, rfl, Wrote.refl _ _⟩
      case round =>
        obtain ⟨k, hk, rfl, hw⟩ := hrel
        have HWR := Lib.hid (HW2.out.trans hw)
        have HCR := Lib.hid (Wrote.cels HC.out hw)
        have HWK := Lib.hid hw
        clear hw
        have hN2 := HN2.out
        by_cases hlt : k < N
        · have HLT := Lib.hid hlt
          obtain ⟨kb, ko, rfl, _, hcc⟩ := HCR.out.2 (by omega)
          have hkl : k < L.length := by rw [HN.out]; exact hlt
          have ck := hcc k hlt
          rw [List.getElem?_map, List.getElem?_eq_getElem hkl] at ck
          replace ck : _ = some (Value.string (L[k]'hkl)) := ck
          have hsz : (L[k]'hkl).size ≤ 268435456 := by
            have h1 := HTL.out _ (List.getElem_mem hkl)
            have h2 := HZ.out
            omega
          generalize (L[k]'hkl) = S at *
          obtain ⟨k1, _, _, k4, k5⟩ := KB.out _ HWR.out
          have CS := Lib.hid (setCell_any D P TV TK a b S v wr k4 HAB.out.1 HAB.out.2 hsz HV.out k5)
          have y0 : wr.cell? ⟨w.heap.size + 1, 0, none⟩ = some (.map a) := by rw [Lib.cell_of_heap k1]; rfl
          have y1 : wr.cell? ⟨w.heap.size + 1, 1, none⟩ = some (.map b) := by rw [Lib.cell_of_heap k1]; rfl
          clear k1 k4 k5 hcc hsz
          go_wp2_with fail
          clear y0 y1 ck
          refine CS.out.mono ?_
          rintro e w5 ⟨⟨r, rfl⟩, hw5⟩
          have HW5 := Lib.hid (HWR.out.trans hw5)
          have HW6 := Lib.hid (HWK.out.trans hw5)
          clear hw5
          cases r
          · go_wp2
            go_ret
            exact ⟨⟨_, rfl⟩, (KB.out _ HW5.out).2.2.1⟩
          · go_wp2
            go_roundw
            case rel => exact ⟨k + 1, by have := HLT.out; omega, by go_num, HW6.out⟩
            case measure => have := HLT.out; simp [intOf]; omega
        · obtain rfl : k = N := by omega
          go_wp2
          go_ret
          exact ⟨⟨_, rfl⟩, (KB.out _ HWR.out).2.2.1⟩
    · have j1 : (te != 0) = true := by rw [bne_iff_ne]; exact ht
      go_wp2
      go_ret
      exact ⟨⟨_, rfl⟩, (KB.out _ HW2.out).2.2.1⟩
end Go.Proofs.YtihlpcbebpnmkaaGreatDoor
