/-
  Layer 11: the program's raiseCells, raiseLocal.
-/
import Derived.Test.YtihlpcbebpnmkaaGreatDoorBase8
import Derived.Test.YtihlpcbebpnmkaaGreatDoorZMap
namespace Go.Proofs.YtihlpcbebpnmkaaGreatDoor
open Go.RowKit
set_option linter.unusedVariables false
set_option linter.unusedSimpArgs false
attribute [local go_sem ↓] Go.wp_at_zero Go.wp_at_succ

theorem cellsL_range {w : World} {B n : Nat} {A : Option Addr} {zs : List Int} (hs : Shows w B A n zs) : ∀ x ∈ cellsL zs, 0 ≤ x ∧ x ≤ 4294967295 := by
  intro x hx
  unfold cellsL at hx
  split at hx
  · obtain ⟨k, _, rfl⟩ := List.mem_map.1 hx
    exact numTo_u32 hs _
  · cases hx
theorem Wrote.cel {D : Nat → Prop} {w w' : World} {A : Option Addr} {n : Nat} {vs : List Int} (h : Cel w w.heap.size A n (u32s vs)) (k : Wrote D w w') : Cel w' w'.heap.size A n (u32s vs) :=
  ⟨h.1, fun hn => by
    obtain ⟨b, o, e, hb, hc⟩ := h.2 hn
    refine ⟨b, o, e, Nat.lt_of_lt_of_le hb k.size, fun i hi => ?_⟩
    have hlt : i < (u32s vs).length := by rw [h.1]; exact hi
    rw [List.getElem?_eq_getElem hlt]
    refine k.oth _ _ hb ((hc i hi).trans (List.getElem?_eq_getElem hlt)) (fun z e => ?_)
    have := List.getElem_mem hlt
    rw [e] at this
    obtain ⟨y, _, hy⟩ := List.mem_map.1 this
    cases hy⟩
/-- What is known of a spot while bytes are written. -/
structure SpotAt (D : Nat → Prop) (P : Value → Prop) (TV TK : Nat → Prop) (w : World) : Prop where
  sp : Spots w P TV TK
  good : ∀ v, P v → SlB w D v
  nil : P (.slice none 0 0)
  dlt : ∀ g, D g → g < w.heap.size
  sep : ∀ g, TV g ∨ TK g → ¬ D g
theorem SpotAt.wrote {D : Nat → Prop} {P : Value → Prop} {TV TK : Nat → Prop} {w w' : World} (h : SpotAt D P TV TK w) (k : Wrote D w w') : SpotAt D P TV TK w' :=
  ⟨h.sp.chg k.chg h.sep, fun v hv => (h.good v hv).wrote k, h.nil, fun g hg => Nat.lt_of_lt_of_le (h.dlt g hg) k.size, h.sep⟩
theorem SpotAt.on {D : Nat → Prop} {P : Value → Prop} {TV TK : Nat → Prop} {w w' : World} (h : SpotAt D P TV TK w) (hb : Below w.heap.size w w') : SpotAt D P TV TK w' := h.wrote (Wrote.of_below D hb)

set_option maxRecDepth 20000 in
set_option maxHeartbeats 4000000 in
theorem raiseCells_any (D : Nat → Prop) (P : Value → Prop) (TV TK : Nat → Prop) (a b : Option Nat) (p : PV) (v : Int) (w : World) (hs : SpotAt D P TV TK w) (ha : ∀ g, a = some g → TV g) (hp : p.In w w.heap.size) (hv : 0 ≤ v ∧ v ≤ 4294967295) :
    Calls Tryz.prog 60 #[.agg #[.map a, .map b], .agg #[.string p.name, p.val], .int .u32 v] w fun e w' => (∃ r : Int, e = .returned (.int .i64 r)) ∧ Wrote D w w' := by
  obtain ⟨pn, pad, pcp, pz⟩ := p
  obtain ⟨⟨hpn, hpz⟩, hsh, hc1, hc2⟩ := hp
  simp only [PV.val] at hpn hpz hsh hc1 hc2 ⊢
  have HS := Lib.hid hs
  have HA := Lib.hid ha
  have HV := Lib.hid hv
  have HPN := Lib.hid hpn
  have HRG := Lib.hid (cellsL_range hsh)
  obtain ⟨W0, hW0⟩ : ∃ W0, ((w.alloc (.cells #[.map a, .map b] 87)).alloc (.cells #[.string pn, .slice pad pz.length pcp] 61)) = W0 := ⟨_, rfl⟩
  have HB0 : Hid (Below w.heap.size w W0) := Lib.hid (by rw [← hW0]; exact ((Below.refl w.heap.size w).alloc (Nat.le_refl _) _).alloc (by simp) _)
  have HX0 : Hid (W0.heap[w.heap.size]? = some (.cells #[.map a, .map b] 87 (0, 0)) ∧ W0.heap[w.heap.size + 1]? = some (.cells #[.string pn, .slice pad pz.length pcp] 61 (0, 0))) := Lib.hid (by rw [← hW0]; exact ⟨heap_alloc2_old _ _ _, heap_alloc2_new _ _ _⟩)
  have HS0 : Hid (W0.heap.size = w.heap.size + 2) := Lib.hid (by rw [← hW0]; simp)
  have CC := Lib.hid (cells_any pad pz.length pcp pz W0 ((hsh.below HB0.out).more HB0.out.size) hpz hc1 hc2)
  have p1 : W0.cell? ⟨w.heap.size + 1, 1, none⟩ = some (.slice pad pz.length pcp) := by rw [Lib.cell_of_heap HX0.out.2]; rfl
  clear hs ha hv hpn hsh hpz hc1 hc2
  go_enter Tryz.func60, Tryz.ntmps60
  go_wp2_with fail
  clear hW0 p1
  refine CC.out.mono ?_
  rintro e w1 ⟨⟨A1, c1, rfl, hcel, hl1, hl2⟩, hb1⟩
  have HCL := Lib.hid hcel
  have HB1 := Lib.hid (HB0.out.trans (hb1.mono HB0.out.size))
  have HX1 : Hid (w1.heap[w.heap.size]? = some (.cells #[.map a, .map b] 87 (0, 0)) ∧ w1.heap[w.heap.size + 1]? = some (.cells #[.string pn, .slice pad pz.length pcp] 61 (0, 0))) := Lib.hid ⟨(hb1.block _ (by have := HS0.out; omega)).trans HX0.out.1, (hb1.block _ (by have := HS0.out; omega)).trans HX0.out.2⟩
  have HSP1 := Lib.hid (HS.out.on HB1.out)
  clear hcel hb1 CC
  obtain ⟨er, her⟩ : ∃ er, cellsE pz = er := ⟨_, rfl⟩
  rw [her]
  by_cases he : er = 0
  · subst he
    obtain ⟨lv, r, hlook, hlv⟩ := look_values_ok HSP1.out.sp HSP1.out.nil HA.out HPN.out
    obtain ⟨A2, n2, c2, rfl, hsl⟩ : ∃ A n c, lv = .slice A n c ∧ SlB w1 D (.slice A n c) := by
      have h := HSP1.out.good _ hlv
      obtain ⟨A, n, c, e, r⟩ := h
      exact ⟨A, n, c, e, A, n, c, rfl, r⟩
    have HSL := Lib.hid hsl
    have s0 : w1.cell? ⟨w.heap.size, 0, none⟩ = some (.map a) := by rw [Lib.cell_of_heap HX1.out.1]; rfl
    have p0 : w1.cell? ⟨w.heap.size + 1, 0, none⟩ = some (.string pn) := by rw [Lib.cell_of_heap HX1.out.2]; rfl
    clear hsl hlv her
    cases r
    · go_wp2
      go_ret
      exact ⟨⟨_, rfl⟩, Wrote.of_below D HB1.out⟩
    · obtain ⟨N, hN⟩ : ∃ N, (u32s (cellsL pz)).length = N := ⟨_, rfl⟩
      have HN := Lib.hid hN
      rw [hN] at HCL hl1 ⊢
      have HW1 : Hid (Wrote D w1 w1) := Lib.hid (Wrote.refl _ _)
      clear hN
      go_wp2_with fail
      clear hlook s0 p0
      go_loopw [34, 12] (fun i at_ wr => ∃ k : Nat, k ≤ N ∧ i = .int .i64 k ∧ Wrote D w1 wr) (fun i _ _ => N - (intOf i).toNat)
      case atStart => exact ⟨0, Nat.zero_le _, rfl, HW1.out⟩
      case round =>
        obtain ⟨k, hk, rfl, hwr⟩ := hrel
        have HWR := Lib.hid hwr
        by_cases hlt : k < N
        · obtain ⟨bb, oo, e, hbb, hcc⟩ := (Wrote.cel HCL.out hwr).2 (by omega)
          have hck := hcc k hlt
          have hlen : k < (u32s (cellsL pz)).length := by rw [HN.out]; exact hlt
          rw [List.getElem?_eq_getElem hlen] at hck
          obtain ⟨x, hx, hxe⟩ := List.mem_map.1 (List.getElem_mem hlen)
          rw [← hxe] at hck
          have hxr := HRG.out x hx
          obtain rfl : A1 = _ := e
          have CR := Lib.hid (raise_any D A2 n2 c2 x v wr (HSL.out.wrote hwr) (by omega) HV.out)
          have e9 : IntKind.i64.wrap x = x := IntWalk.i64_in _ (by omega)
          clear hwr hbb hcc hlen hx hxe
          go_wp2_with fail
          refine CR.out.mono ?_
          rintro e w4 ⟨⟨r4, rfl⟩, hw4⟩
          have HW4 := Lib.hid (HWR.out.trans hw4)
          clear hw4 CR hck
          by_cases he : r4 = 0
          · subst he
            go_wp2
            go_roundw
            case rel => exact ⟨k + 1, by omega, by go_num, HW4.out⟩
            case measure => simp [intOf]; omega
          · have j1 : (r4 != 0) = true := by rw [bne_iff_ne]; exact he
            go_wp2
            go_ret
            exact ⟨⟨_, rfl⟩, (Wrote.of_below D HB1.out).trans HW4.out⟩
        · go_wp2
          go_ret
          exact ⟨⟨_, rfl⟩, (Wrote.of_below D HB1.out).trans HWR.out⟩
  · have j1 : (er != 0) = true := by rw [bne_iff_ne]; exact he
    go_wp2
    go_ret
    exact ⟨⟨_, rfl⟩, Wrote.of_below D HB1.out⟩

set_option maxRecDepth 20000 in
set_option maxHeartbeats 4000000 in
theorem raiseLocal_any (D : Nat → Prop) (P : Value → Prop) (TV TK : Nat → Prop) (B : Nat) (hDB : ∀ g, D g → B ≤ g) (v : Int) (hv : 0 ≤ v ∧ v ≤ 4294967295) : ∀ (n : Nd) (a b : Option Nat) (w : World), SpotAt D P TV TK w → (∀ g, a = some g → TV g) → (∀ g, b = some g → TK g) → n.In w B → B ≤ w.heap.size →
    Calls Tryz.prog 37 #[.agg #[.map a, .map b], n.val, .int .u32 v] w fun e w' => (∃ r : Int, e = .returned (.int .i64 r)) ∧ Wrote D w w' := by
  refine Nd.ind ?_
  intro n ih a b w hs ha hb hin hB
  have HIH := Lib.hid ih
  have HS := Lib.hid hs
  have HAB := Lib.hid (And.intro ha hb)
  have HI := Lib.hid hin
  have HBB := Lib.hid hB
  have HDB := Lib.hid hDB
  have HV := Lib.hid hv
  have hpl := hin.plen
  have hkl := hin.klen
  have hnl := hin.name_le
  clear ih hs ha hb hin hB hDB hv
  obtain ⟨nm, pa, pc, ps, ka, kc, ks⟩ := n
  simp only [Nd.val, Nd.pv, Nd.kv, Nd.name, Nd.pa, Nd.pc, Nd.props, Nd.ka, Nd.kc, Nd.kids] at HIH hpl hkl hnl ⊢
  obtain ⟨W0, hW0⟩ : ∃ W0, ((w.alloc (.cells #[.map a, .map b] 87)).alloc (.cells #[.string nm, .slice pa ps.length pc, .slice ka ks.length kc] 27)) = W0 := ⟨_, rfl⟩
  have HB0 : Hid (Below w.heap.size w W0) := Lib.hid (by rw [← hW0]; exact ((Below.refl w.heap.size w).alloc (Nat.le_refl _) _).alloc (by simp) _)
  have HX0 : Hid (W0.heap[w.heap.size]? = some (.cells #[.map a, .map b] 87 (0, 0)) ∧ W0.heap[w.heap.size + 1]? = some (.cells #[.string nm, .slice pa ps.length pc, .slice ka ks.length kc] 27 (0, 0))) := Lib.hid (by rw [← hW0]; exact ⟨heap_alloc2_old _ _ _, heap_alloc2_new _ _ _⟩)
  have HS0 : Hid (W0.heap.size = w.heap.size + 2) := Lib.hid (by rw [← hW0]; simp)
  have HXX : Hid (∀ W : World, Wrote D W0 W → W.heap[w.heap.size]? = some (.cells #[.map a, .map b] 87 (0, 0)) ∧ W.heap[w.heap.size + 1]? = some (.cells #[.string nm, .slice pa ps.length pc, .slice ka ks.length kc] 27 (0, 0))) := Lib.hid (fun W h => ⟨(h.blk (by have := HS0.out; omega) (fun hd => by have := HS.out.dlt _ hd; omega)).trans HX0.out.1, (h.blk (by have := HS0.out; omega) (fun hd => by have := HS.out.dlt _ hd; omega)).trans HX0.out.2⟩)
  have HWA : Hid (Wrote D w W0) := Lib.hid (Wrote.of_below D HB0.out)
  have HIN : Hid (∀ W : World, Wrote D W0 W → (Nd.mk nm pa pc ps ka kc ks).In W B ∧ SpotAt D P TV TK W ∧ B ≤ W.heap.size) := Lib.hid (fun W h => ⟨HI.out.under ((HB0.out.mono HBB.out).trans (h.below (Nat.le_trans HBB.out HB0.out.size) HDB.out)), HS.out.wrote (HWA.out.trans h), Nat.le_trans HBB.out (Nat.le_trans HB0.out.size h.size)⟩)
  obtain ⟨PL, hPL⟩ : ∃ PL, ps.length = PL := ⟨_, rfl⟩
  obtain ⟨KL, hKL⟩ : ∃ KL, ks.length = KL := ⟨_, rfl⟩
  have HPL := Lib.hid hPL
  have HKL := Lib.hid hKL
  rw [hPL, hKL] at HX0 HXX hW0
  rw [hPL] at hpl hnl ⊢
  rw [hKL] at hkl hnl ⊢
  obtain ⟨l1, l2⟩ := hpl
  obtain ⟨l3, l4⟩ := hkl
  obtain ⟨_, l5, l6⟩ := hnl
  clear hPL hKL HI
  go_enter Tryz.func37, Tryz.ntmps37
  have c1 : W0.cell? ⟨w.heap.size + 1, 1, none⟩ = some (.slice pa PL pc) := by rw [Lib.cell_of_heap HX0.out.2]; rfl
  go_wp2_with fail
  clear c1 hW0
  go_loopw [16] (fun i wr => ∃ k : Nat, k ≤ PL ∧ i = .int .i64 k ∧ Wrote D W0 wr) (fun i _ => PL - (intOf i).toNat)
  case atStart => exact ⟨0, Nat.zero_le _, rfl, Wrote.refl _ _⟩
  case round =>
    obtain ⟨k, hk, rfl, hwr⟩ := hrel
    have HWR := Lib.hid hwr
    by_cases hlt : k < PL
    · obtain ⟨hin, hsp, hbs⟩ := HIN.out wr hwr
      have hkl : k < ps.length := by rw [HPL.out]; exact hlt
      obtain ⟨pb, po, e, hpb, c0, c1⟩ := hin.pcell (i := k) hkl
      obtain rfl : pa = _ := e
      replace c0 : _ = some (Value.string (ps[k]'hkl).name) := c0
      replace c1 : _ = some (ps[k]'hkl).val := c1
      have hpin : (ps[k]'hkl).In wr B := hin.prop (List.getElem_mem hkl)
      have HAL := Lib.hid ((Below.refl wr.heap.size wr).alloc (Nat.le_refl _) (.cells #[.string (ps[k]'hkl).name, (ps[k]'hkl).val] 61))
      have CR := Lib.hid (raiseCells_any D P TV TK a b (ps[k]'hkl) v _ (hsp.on HAL.out) HAB.out.1 ((hpin.more hbs).keep (fun q hq => HAL.out.cell hq) |>.more HAL.out.size) HV.out)
      have HX := Lib.hid (HXX.out _ (hwr.on HAL.out))
      have s0 : (wr.alloc (.cells #[.string (ps[k]'hkl).name, (ps[k]'hkl).val] 61)).cell? ⟨w.heap.size, 0, none⟩ = some (.map a) := by rw [Lib.cell_of_heap HX.out.1]; rfl
      have s1 : (wr.alloc (.cells #[.string (ps[k]'hkl).name, (ps[k]'hkl).val] 61)).cell? ⟨w.heap.size, 1, none⟩ = some (.map b) := by rw [Lib.cell_of_heap HX.out.1]; rfl
      generalize (ps[k]'hkl) = X at *
      obtain ⟨xn, xa, xc, xz⟩ := X
      simp only [PV.val] at c0 c1 CR HAL s0 s1
      clear hin hsp hbs hpb hpin hwr hkl HX
      go_wp2_with fail
      refine CR.out.mono ?_
      rintro e w4 ⟨⟨r4, rfl⟩, hw4⟩
      have HW4 := Lib.hid ((HWR.out.on HAL.out).trans hw4)
      clear hw4 CR c0 c1 s0 s1
      by_cases he : r4 = 0
      · subst he
        go_wp2
        go_roundw
        case rel => exact ⟨k + 1, by omega, by go_num, HW4.out⟩
        case measure => simp [intOf]; omega
      · have j1 : (r4 != 0) = true := by rw [bne_iff_ne]; exact he
        go_wp2
        go_ret
        exact ⟨⟨_, rfl⟩, HWA.out.trans HW4.out⟩
    · have HX := HXX.out wr hwr
      have c2 : wr.cell? ⟨w.heap.size + 1, 2, none⟩ = some (.slice ka KL kc) := by rw [Lib.cell_of_heap HX.2]; rfl
      clear HX hwr
      obtain ⟨wq, hwq⟩ : ∃ wq, wq = wr := ⟨_, rfl⟩
      rw [← hwq] at HWR c2 ⊢
      clear hwq
      go_wp2_with fail
      clear c2
      go_loopw [31] (fun i wr => ∃ k : Nat, k ≤ KL ∧ i = .int .i64 k ∧ Wrote D W0 wr) (fun i _ => KL - (intOf i).toNat)
      case atStart => exact ⟨0, Nat.zero_le _, rfl, HWR.out⟩
      case round =>
        obtain ⟨j, hj, rfl, hwr⟩ := hrel
        have HWJ := Lib.hid hwr
        by_cases hlj : j < KL
        · obtain ⟨hin, hsp, hbs⟩ := HIN.out wr hwr
          have hkl : j < ks.length := by rw [HKL.out]; exact hlj
          obtain ⟨kb, ko, e, hkb, c0, c1, c2⟩ := hin.kcell (i := j) hkl
          obtain rfl : ka = _ := e
          replace c0 : _ = some (Value.string (ks[j]'hkl).name) := c0
          replace c1 : _ = some (ks[j]'hkl).pv := c1
          replace c2 : _ = some (ks[j]'hkl).kv := c2
          have hkin : (ks[j]'hkl).In wr B := hin.kid (List.getElem_mem hkl)
          have HAL := Lib.hid ((Below.refl wr.heap.size wr).alloc (Nat.le_refl _) (.cells #[.string (ks[j]'hkl).name, (ks[j]'hkl).pv, (ks[j]'hkl).kv] 27))
          obtain ⟨lv, hlook, hlv⟩ := look_kids (hsp.on HAL.out).sp HAB.out.2 (s := (ks[j]'hkl).name) hkin.name_le.1
          obtain ⟨va, vb, rfl, hva, hvb⟩ := hlv
          have CR := Lib.hid (HIH.out (ks[j]'hkl) (List.getElem_mem hkl) va vb _ (hsp.on HAL.out) hva hvb (hkin.under (HAL.out.mono hbs)) (Nat.le_trans hbs HAL.out.size))
          have HX := Lib.hid (HXX.out _ (hwr.on HAL.out))
          have s1 : (wr.alloc (.cells #[.string (ks[j]'hkl).name, (ks[j]'hkl).pv, (ks[j]'hkl).kv] 27)).cell? ⟨w.heap.size, 1, none⟩ = some (.map b) := by rw [Lib.cell_of_heap HX.out.1]; rfl
          generalize (ks[j]'hkl) = X at *
          obtain ⟨xn, xpa, xpc, xps, xka, xkc, xks⟩ := X
          simp only [Nd.pv, Nd.kv, Nd.name, Nd.pa, Nd.pc, Nd.props, Nd.ka, Nd.kc, Nd.kids] at c0 c1 c2 CR HAL s1 hlook
          clear hin hsp hbs hkb hkin hwr hkl HX hva hvb
          go_wp2_with fail
          refine CR.out.mono ?_
          rintro e w4 ⟨⟨r4, rfl⟩, hw4⟩
          have HW4 := Lib.hid ((HWJ.out.on HAL.out).trans hw4)
          clear hw4 CR c0 c1 c2 s1 hlook
          by_cases he : r4 = 0
          · subst he
            go_wp2
            go_roundw
            case rel => exact ⟨j + 1, by omega, by go_num, HW4.out⟩
            case measure => simp [intOf]; omega
          · have j1 : (r4 != 0) = true := by rw [bne_iff_ne]; exact he
            go_wp2
            go_ret
            exact ⟨⟨_, rfl⟩, HWA.out.trans HW4.out⟩
        · go_wp2
          go_ret
          exact ⟨⟨_, rfl⟩, HWA.out.trans HWJ.out⟩
end Go.Proofs.YtihlpcbebpnmkaaGreatDoor
