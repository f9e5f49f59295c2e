/-
  Base, part 11: what the proofs of this claim lean on.
-/
import Derived.Test.YtihlpcbebpnmkaaGreatDoorBase10
import Derived.Test.YtihlpcbebpnmkaaGreatDoorBase8
import Derived.Test.YtihlpcbebpnmkaaGreatDoorBase2
import Derived.Test.YtihlpcbebpnmkaaGreatDoorBase1
import Derived.Test.YtihlpcbebpnmkaaGreatDoorBase3
import Derived.Lib.SlBytesConst
import Derived.Lib.SmallJoins
import Derived.Test.YtihlpcbebpnmkaaGreatDoorBase7

/-! The place of a path of full names: the document's answer for a path of a formed tree. -/
namespace Go.Proofs.YtihlpcbebpnmkaaGreatDoor
open Go.RowKit
set_option linter.unusedVariables false
set_option linter.unusedSimpArgs false
attribute [local go_sem ↓] Go.wp_at_zero Go.wp_at_succ

/-- A path of a formed tree, of one step or more, and its pieces. -/
theorem path_pieces {R x : Nd} {p : List Nat} (hw : wrongN R 1 = 0) (hat : nodeAt R p = some x) (h0 : p ≠ []) :
    partsL [] (pathOf R p).data.toList = [] :: (namesAt R p).map (fun s => s.data.toList) ∧ pathOf R p ≠ ⟨#[47]⟩ ∧ (pathOf R p).size ≤ 1048576 := by
  have hok := namesAt_ok p (by omega : (1 : Int) ≤ 1) hw hat
  have e : (pathOf R p).data.toList = pathB (namesAt R p) := by rw [pathOf, if_neg h0]
  have hl := namesAt_length p hat
  have h15 := place_short hw hat
  refine ⟨by rw [e]; exact partsL_path _ _ (fun s hs => nodeB_stroke (hok s hs)), fun e2 => ?_, ?_⟩
  · have e3 : pathB (namesAt R p) = [47] := by rw [← e, e2]
    rcases hc : namesAt R p with _ | ⟨s, l⟩
    · rw [hc] at hl
      exact h0 (List.eq_nil_of_length_eq_zero hl.symm)
    · rw [hc] at e3
      have e4 : 47 :: (s.data.toList ++ pathB l) = [47] := by simpa [pathB] using e3
      have e5 : s.data.toList = [] := by
        injection e4 with _ e4
        exact (List.append_eq_nil_iff.1 e4).1
      exact nodeB_some6 (hok s (by rw [hc]; simp)) e5
  · have hs : ∀ s ∈ namesAt R p, s.size ≤ 63 := fun s hs => nodeB_size (hok s hs)
    have h1 := pathB_size _ hs
    have h2 : (pathOf R p).size = (pathB (namesAt R p)).length := by rw [← e]; simp
    omega
theorem info_intQ : (Tryz.prog.info? 3).map (fun i => (i.zero, i.size, i.bytes)) = some (some (.int .i64 0), 1, 8) := by kernel_rfl
theorem own_sameQ {w w' : World} {B sz n : Nat} {e : TypeId} {v : Value} {xs : List Value} (h : w.ownsRow B e sz v n xs) (hk : ∀ g, v.ownBlock = some g → w'.heap[g]? = w.heap[g]?) : w'.ownsRow B e sz v n xs := by
  refine ⟨h.1, ?_⟩
  rcases h.2 with hn | ⟨g, cap, cur, rfl, hb, hg, r⟩
  · exact .inl hn
  · exact .inr ⟨g, cap, cur, rfl, hb, (hk g rfl).trans hg, r⟩
theorem take_snocQ {α : Type} {l : List α} {k : Nat} (hk : k < l.length) : l.take (k + 1) = l.take k ++ [l[k]] := by
  rw [List.take_add_one, List.getElem?_eq_getElem hk]; rfl
theorem txt_data (s : ByteArray) : txt s.data.toList = s := by
  apply ba_eq
  simp [txt]

set_option maxRecDepth 20000 in
set_option maxHeartbeats 8000000 in
theorem refnames_any (t : Tr) (p : List Nat) (nd : Nd) (s : ByteArray) (w : World) (hin : t.In w w.heap.size) (hw : wrongN t.root 1 = 0) (hat : nodeAt t.root p = some nd) (hs : s = pathOf t.root p) :
    Calls Tryz.prog 9 #[t.val, .string s] w fun e w' => (∃ A c, e = .returned (.tuple #[.slice A p.length c, .bool true]) ∧ Cel w' w'.heap.size A p.length (ints p) ∧ p.length ≤ c ∧ c ≤ 9223372036854775807) ∧ Below w.heap.size w w' := by
  have HI := Lib.hid hin.root
  obtain ⟨boot, ra, rc, rs, ⟨nm, pa, pc, ps, ka, kc, ks⟩⟩ := t
  replace HI : Hid ((Nd.mk nm pa pc ps ka kc ks).In w w.heap.size) := HI
  replace hw : wrongN (Nd.mk nm pa pc ps ka kc ks) 1 = 0 := hw
  replace hat : nodeAt (Nd.mk nm pa pc ps ka kc ks) p = some nd := hat
  replace hs : s = pathOf (Nd.mk nm pa pc ps ka kc ks) p := hs
  show Calls _ _ #[.agg #[.int .u32 boot, .slice ra rs.length rc, .string nm, .slice pa ps.length pc, .slice ka ks.length kc], .string s] w _
  obtain ⟨b0, b1, b2, b3, b4⟩ := box6_cells w (.int .u32 boot) (.slice ra rs.length rc) (.string nm) (.slice pa ps.length pc) (.slice ka ks.length kc) _ (Below.refl _ _)
  have HB0 := Lib.hid ((Below.refl w.heap.size w).alloc (Nat.le_refl _) (.cells #[.int .u32 boot, .slice ra rs.length rc, .string nm, .slice pa ps.length pc, .slice ka ks.length kc] 29))
  obtain ⟨R, hR⟩ : ∃ R, Nd.mk nm pa pc ps ka kc ks = R := ⟨_, rfl⟩
  have HRE := Lib.hid hR
  rw [hR] at HI hw hat hs
  clear hR hin
  by_cases h0 : p = []
  · subst h0
    have e : s = ⟨#[47]⟩ := by rw [hs]; rfl
    subst e
    clear hs hat hw
    go_enter Tryz.func9, Tryz.ntmps9
    go_wp2
    go_ret2
    exact ⟨⟨none, 0, rfl, Cel.nil _ _ _, Nat.le_refl _, by omega⟩, HB0.out⟩
  · obtain ⟨e1, e2, e3⟩ := path_pieces hw hat h0
    rw [← hs] at e1 e2 e3
    have HW := Lib.hid hw
    have HAT := Lib.hid hat
    have HPC := Lib.hid e1
    have HNL := Lib.hid (namesAt_length p hat)
    have hp15 := place_short hw hat
    have hp1 : 1 ≤ p.length := by
      rcases p with _ | ⟨i, r⟩
      · exact absurd rfl h0
      · simp
    have hne := str_ne e2
    rw [show (⟨#[47]⟩ : ByteArray).toList = [47] from by first | rfl | decide | simp] at hne
    have HSZ := Lib.hid e3
    clear hs hat hw e1 e2 e3 h0
    go_enter Tryz.func9, Tryz.ntmps9
    go_wp2_with fail
    refine (refparts_any s _ HSZ.out).mono ?_
    rintro e w1 ⟨⟨Al, nl, cl, rfl, hcl, hnc, hcm⟩, hb1⟩
    have HB1 := Lib.hid (HB0.out.trans (hb1.mono HB0.out.size))
    rw [HPC.out] at hcl
    have hnl : nl = p.length + 1 := by
      have := hcl.1
      simp [strsU, HNL.out] at this
      omega
    subst hnl
    have HCL := Lib.hid hcl
    obtain ⟨gl, ol, rfl, _, hcell⟩ := hcl.at_ (by omega)
    have hc0 : w1.cell? ⟨gl, ol, none⟩ = some (.string ⟨#[]⟩) := hcell 0 (by omega)
    have hb1' : Below (w.heap.size + 1) (w.alloc (.cells #[.int .u32 boot, .slice ra rs.length rc, .string nm, .slice pa ps.length pc, .slice ka ks.length kc] 29)) w1 := by
      have h := hb1
      simpa using h
    have d2 : w1.cell? ⟨w.heap.size, 2, none⟩ = some (.string nm) := (hb1'.cell (p := ⟨w.heap.size, 2, none⟩) (Nat.lt_succ_self _)).trans b2
    have d3 : w1.cell? ⟨w.heap.size, 3, none⟩ = some (.slice pa ps.length pc) := (hb1'.cell (p := ⟨w.heap.size, 3, none⟩) (Nat.lt_succ_self _)).trans b3
    have d4 : w1.cell? ⟨w.heap.size, 4, none⟩ = some (.slice ka ks.length kc) := (hb1'.cell (p := ⟨w.heap.size, 4, none⟩) (Nat.lt_succ_self _)).trans b4
    clear hcl hcell hb1 hb1' b0 b1 b2 b3 b4
    go_wp2_with fail
    clear hc0 d2 d3 d4 hne
    obtain ⟨g1, hg1⟩ : ∃ g1, w1.heap.size = g1 := ⟨_, rfl⟩
    have HG1 : Hid (w.heap.size ≤ g1) := Lib.hid (by have := HB1.out.size; omega)
    have HBX : Hid (Below w1.heap.size w1 (w1.alloc (.cells #[.string nm, .slice pa ps.length pc, .slice ka ks.length kc] 27)) ∧ (w1.alloc (.cells #[.string nm, .slice pa ps.length pc, .slice ka ks.length kc] 27)).heap[g1]? = some (.cells #[.string nm, .slice pa ps.length pc, .slice ka ks.length kc] 27 (0, 0)) ∧ g1 < (w1.alloc (.cells #[.string nm, .slice pa ps.length pc, .slice ka ks.length kc] 27)).heap.size) := Lib.hid ⟨(Below.refl _ _).alloc (Nat.le_refl _) _, by rw [← hg1]; exact heap_alloc_new _ _, by simp; omega⟩
    rw [hg1]
    have HCLg := Lib.hid (hg1 ▸ HCL.out)
    have HBXg := Lib.hid (hg1 ▸ HBX.out)
    go_loopw [7, 9] (fun v i wr => ∃ (k : Nat) (x : Nd) (A : Option Addr) (c : Nat), k ≤ p.length ∧ i = .int .i64 ((k : Int) + 1) ∧ v = .slice A k c ∧ nodeAt R (p.take k) = some x ∧ wr.ownsRow (g1 + 1) 3 1 v k (ints (p.take k)) ∧ wr.heap[g1]? = some (.cells #[.string x.name, x.pv, x.kv] 27 (0, 0)) ∧ Below g1 w1 wr) (fun _ i _ => p.length + 1 - (intOf i).toNat)
    case atStart =>
      exact ⟨0, R, none, 0, Nat.zero_le _, rfl, rfl, rfl, World.ownsRow_nil _ _ _ _, by rw [← HRE.out]; exact HBXg.out.2.1, HBXg.out.1⟩
    case round =>
      obtain ⟨k, x, A, c, hk, rfl, rfl, hx, hown, hbk, hb⟩ := hrel
      have HX := Lib.hid hx
      have HO := Lib.hid hown
      have HBK := Lib.hid hbk
      have HB := Lib.hid hb
      have hGB : Hid (g1 < wr.heap.size) := Lib.hid (Array.getElem?_eq_some_iff.1 hbk).1
      have HXI := Lib.hid ((nodeAt_in _ HI.out hx).under (HB1.out.trans (hb.mono HG1.out)))
      clear hx hown hbk hb
      by_cases hlt : k < p.length
      · have hkl : k + 1 < p.length + 1 := by omega
        have hpt : p.take (k + 1) = p.take k ++ [p[k]] := by rw [List.take_add_one, List.getElem?_eq_getElem hlt]; rfl
        have hq : p[k] < x.kids.length := by
          have e : p = p.take k ++ (p[k] :: p.drop (k + 1)) := by rw [List.getElem_cons_drop, List.take_append_drop]
          have h := HAT.out
          rw [e, nodeAt_append, HX.out] at h
          exact (nodeAt_some h).1
        have hnk : k < (namesAt R p).length := by rw [HNL.out]; exact hlt
        have hname : (namesAt R p)[k] = x.kids[p[k]].name := by
          have h1 := namesAt_next _ HX.out hq
          rw [← hpt, namesAt_take p R nd (k + 1) HAT.out, namesAt_take p R nd k HAT.out, take_snocQ hnk] at h1
          exact List.singleton_inj.1 (List.append_cancel_left h1)
        have hidx : idxOf (x.kids.map Nd.name) x.kids[p[k]].name = (p[k] : Int) := by
          have hnd := (well_of (well_at _ HW.out HX.out)).twice
          have h := idx_nodup (l := x.kids.map Nd.name) (k := p[k]) (by simpa using hq) hnd
          rwa [List.getElem_map] at h
        have HNX := Lib.hid (nodeAt_next HX.out hq)
        rw [← hpt] at HNX
        obtain ⟨gl', ol', el, hgl, hcell⟩ := (HCLg.out.below HB.out).at_ (by omega)
        obtain ⟨rfl, rfl⟩ : gl = gl' ∧ ol = ol' := by simpa using el
        have hck := hcell (k + 1) hkl
        have hck2 : (strsU ([] :: (namesAt R p).map (fun s => s.data.toList)))[k + 1]? = some (.string x.kids[p[k]].name) := by
          rw [strsU, List.map_cons, List.getElem?_cons_succ, List.getElem?_map, List.getElem?_map, List.getElem?_eq_getElem hnk, hname]
          show some (Value.string (txt x.kids[p[k]].name.data.toList)) = _
          rw [txt_data]
        rw [hck2] at hck
        have HHT : Hid (ints (p.take (k + 1)) = ints (p.take k) ++ [.int .i64 (p[k] : Nat)]) := Lib.hid (by unfold ints; rw [hpt, List.map_append]; rfl)
        have HKM := Lib.hid (fun i (hi : i < x.kids.length) => HXI.out.kcell hi)
        have hkm := HXI.out.klen
        have HXW : Hid (x.In wr wr.heap.size) := Lib.hid (HXI.out.more (Nat.le_trans HG1.out (Nat.le_of_lt hGB.out)))
        have HKID := Lib.hid (fun W (h : x.In W W.heap.size) => refkid_any x x.kids[p[k]].name W h (p[k] : Int) hidx.symm)
        clear hpt hname hidx hck2 hcell el
        generalize p[k] = q at *
        obtain ⟨kb, ko, ek, hkbw, y0, y1, y2⟩ := HKM.out q hq
        obtain ⟨xn, xpa, xpc, xps, xka, xkc, xks⟩ := x
        replace hq : q < xks.length := hq
        replace hkm : xks.length ≤ xkc ∧ xkc ≤ 9223372036854775807 := hkm
        obtain rfl : xka = _ := ek
        replace HBK : Hid (wr.heap[g1]? = some (.cells #[.string xn, .slice xpa xps.length xpc, .slice (some ⟨kb, ko, none⟩) xks.length xkc] 27 (0, 0))) := HBK
        replace y0 : wr.cell? ⟨kb, ko + q * 3, none⟩ = some (.string xks[q].name) := y0
        replace y1 : wr.cell? ⟨kb, ko + q * 3 + 1, none⟩ = some xks[q].pv := y1
        replace y2 : wr.cell? ⟨kb, ko + q * 3 + 2, none⟩ = some xks[q].kv := y2
        replace hck : wr.cell? ⟨gl, ol + (k + 1), none⟩ = some (.string xks[q].name) := hck
        replace HNX : Hid (nodeAt R (p.take (k + 1)) = some xks[q]) := HNX
        replace HKID : Hid (∀ W : World, (Nd.mk xn xpa xpc xps (some ⟨kb, ko, none⟩) xkc xks).In W W.heap.size → Calls Tryz.prog 20 #[.agg #[.string xn, .slice xpa xps.length xpc, .slice (some ⟨kb, ko, none⟩) xks.length xkc], .string xks[q].name] W fun e w' => e = .returned (.int .i64 (q : Int)) ∧ Below W.heap.size W w') := HKID
        obtain ⟨y, hy⟩ : ∃ y, xks[q] = y := ⟨_, rfl⟩
        rw [hy] at y0 y1 y2 hck HNX HKID
        obtain ⟨yn, ypa, ypc, yps, yka, ykc, yks⟩ := y
        replace y0 : wr.cell? ⟨kb, ko + q * 3, none⟩ = some (.string yn) := y0
        replace y1 : wr.cell? ⟨kb, ko + q * 3 + 1, none⟩ = some (.slice ypa yps.length ypc) := y1
        replace y2 : wr.cell? ⟨kb, ko + q * 3 + 2, none⟩ = some (.slice yka yks.length ykc) := y2
        replace hck : wr.cell? ⟨gl, ol + (k + 1), none⟩ = some (.string yn) := hck
        replace HKID : Hid (∀ W : World, (Nd.mk xn xpa xpc xps (some ⟨kb, ko, none⟩) xkc xks).In W W.heap.size → Calls Tryz.prog 20 #[.agg #[.string xn, .slice xpa xps.length xpc, .slice (some ⟨kb, ko, none⟩) xks.length xkc], .string yn] W fun e w' => e = .returned (.int .i64 (q : Int)) ∧ Below W.heap.size W w') := HKID
        have HYC := Lib.hid (And.intro y0 (And.intro y1 y2))
        have HKB := Lib.hid hkbw
        have HGL : Hid (gl < wr.heap.size) := Lib.hid (World.block_lt_of_cell? wr _ hck)
        have c0 := cell_of_row _ g1 0 _ _ _ HBK.out
        have c1 := cell_of_row _ g1 1 _ _ _ HBK.out
        have c2 := cell_of_row _ g1 2 _ _ _ HBK.out
        replace c0 : _ = some (Value.string xn) := c0
        replace c1 : _ = some (Value.slice xpa xps.length xpc) := c1
        replace c2 : _ = some (Value.slice (some ⟨kb, ko, none⟩) xks.length xkc) := c2
        have hkk : (0 : Int) ≤ (k : Int) + 1 ∧ (k : Int) + 1 < ((p.length + 1 : Nat) : Int) := ⟨by omega, by omega⟩
        have hkt : ((k : Int) + 1).toNat = k + 1 := by omega
        clear y0 y1 y2 hy HX HKM
        have hdl : decide ((k : Int) + 1 < (p.length : Int) + 1) = true := decide_eq_true (by omega)
        go_wp2_with fail
        refine wp_region_held_drew (S := fun V => V.cell? ⟨g1, 0, none⟩ = some (.string xn) ∧ V.cell? ⟨g1, 1, none⟩ = some (.slice xpa xps.length xpc) ∧ V.cell? ⟨g1, 2, none⟩ = some (.slice (some ⟨kb, ko, none⟩) xks.length xkc) ∧ V.cell? ⟨gl, ol + (k + 1), none⟩ = some (.string yn)) (by kernel_rfl) (by exact ⟨c0, c1, c2, hck⟩) (fun hHeld => ?_)
        refine held_take 0 rfl (by kernel_rfl) (by kernel_rfl) (by kernel_rfl) (fun _ _ _ h => h) (by rfl) hHeld (v := ?_) (fun w hSw => ?_) (fun _ => ?_)
        rotate_left
        · ((try dsimp only at hSw); go_simp; (try with_reducible rfl))
        simp only [Act.put, List.setIfInBounds_toArray, List.set_cons_zero, List.set_cons_succ]
        refine held_take 1 rfl (by kernel_rfl) (by kernel_rfl) (by kernel_rfl) (fun _ _ _ h => h) (by rfl) hHeld (v := ?_) (fun w hSw => ?_) (fun _ => ?_)
        rotate_left
        · ((try dsimp only at hSw); go_simp; (try with_reducible rfl))
        simp only [Act.put, List.setIfInBounds_toArray, List.set_cons_zero, List.set_cons_succ]
        refine held_take 2 rfl (by kernel_rfl) (by kernel_rfl) (by kernel_rfl) (fun _ _ _ h => h) (by rfl) hHeld (v := ?_) (fun w hSw => ?_) (fun _ => ?_)
        rotate_left
        · ((try dsimp only at hSw); go_simp; (try with_reducible rfl))
        simp only [Act.put, List.setIfInBounds_toArray, List.set_cons_zero, List.set_cons_succ]
        refine held_take 3 rfl (by kernel_rfl) (by kernel_rfl) (by kernel_rfl) (fun _ _ _ h => h) (by rfl) hHeld (v := ?_) (fun w hSw => ?_) (fun _ => ?_)
        rotate_left
        · ((try dsimp only at hSw); go_simp; (try with_reducible rfl))
        simp only [Act.put, List.setIfInBounds_toArray, List.set_cons_zero, List.set_cons_succ]
        refine held_take 4 rfl (by kernel_rfl) (by kernel_rfl) (by kernel_rfl) (fun _ _ _ h => h) (by rfl) hHeld (v := ?_) (fun w hSw => ?_) (fun _ => ?_)
        rotate_left
        · ((try dsimp only at hSw); go_simp; (try with_reducible rfl))
        simp only [Act.put, List.setIfInBounds_toArray, List.set_cons_zero, List.set_cons_succ]
        refine held_call 5 (by kernel_rfl) rfl (by rfl) (fun K hK => ?_)
        go_simp
        refine (HKID.out _ (by exact HXW.out.on (Below.refl _ _).drew)).mono ?_
        rintro e w2 ⟨rfl, hb2⟩
        have HB2 : Hid (Below wr.heap.size wr w2) := Lib.hid ((Below.refl _ wr).drew.trans hb2)
        have z0 := (HB2.out.cell (p := ⟨g1, 0, none⟩) hGB.out).trans c0
        have z1 := (HB2.out.cell (p := ⟨g1, 1, none⟩) hGB.out).trans c1
        have z2 := (HB2.out.cell (p := ⟨g1, 2, none⟩) hGB.out).trans c2
        have z3 := (HB2.out.cell (p := ⟨gl, ol + (k + 1), none⟩) HGL.out).trans hck
        dsimp only
        refine hK.out _ _ ⟨z0, z1, z2, z3⟩ (fun hHeld => ?_)
        clear hK K
        refine held_take 6 rfl (by kernel_rfl) (by kernel_rfl) (by kernel_rfl) (fun _ _ _ h => h) (by rfl) hHeld (v := ?_) (fun w hSw => ?_) (fun _ => ?_)
        rotate_left
        · ((try dsimp only at hSw); go_simp; (try with_reducible rfl))
        simp only [Act.put, List.setIfInBounds_toArray, List.set_cons_zero, List.set_cons_succ]
        refine wpAnyH_done (by kernel_rfl) ?_ _
        clear hHeld z0 z1 z2 z3 c0 c1 c2 hck hdl hb2
        obtain ⟨i0, hi0, hz0, hz1, hz2⟩ := info_any info_intQ
        obtain ⟨A', c', w3, hrun, hown3, hb3⟩ := app_lit Tryz.underlying39 hi0 hz0 hz1 hz2 rfl (own_on HO.out HB2.out) (.int .i64 (q : Int)) rfl (by omega) (by omega) (by have h1 := HB2.out.size; have h2 := hGB.out; omega) 39
        have HR := Lib.hid hrun
        have HO3 := Lib.hid hown3
        have HB3 := Lib.hid hb3
        have HBK3 := Lib.hid ((HB3.out.block g1 (Nat.lt_succ_self _)).trans ((HB2.out.block g1 hGB.out).trans HBK.out))
        have HKS : Hid (w3.cell? ⟨kb, ko + q * 3, none⟩ = some (.string yn) ∧ w3.cell? ⟨kb, ko + q * 3 + 1, none⟩ = some (.slice ypa yps.length ypc) ∧ w3.cell? ⟨kb, ko + q * 3 + 2, none⟩ = some (.slice yka yks.length ykc)) := by
          have h1 : kb < wr.heap.size := by have h1 := HKB.out; have h2 := HG1.out; have h3 := hGB.out; omega
          have h2 : kb < g1 + 1 := by have h1 := HKB.out; have h2 := HG1.out; omega
          exact ⟨(HB3.out.cell (p := ⟨kb, ko + q * 3, none⟩) h2).trans ((HB2.out.cell (p := ⟨kb, ko + q * 3, none⟩) h1).trans HYC.out.1), (HB3.out.cell (p := ⟨kb, ko + q * 3 + 1, none⟩) h2).trans ((HB2.out.cell (p := ⟨kb, ko + q * 3 + 1, none⟩) h1).trans HYC.out.2.1), (HB3.out.cell (p := ⟨kb, ko + q * 3 + 2, none⟩) h2).trans ((HB2.out.cell (p := ⟨kb, ko + q * 3 + 2, none⟩) h1).trans HYC.out.2.2)⟩
        clear hrun hown3 hb3 hi0 hz0 hz1 hz2
        have hq0 : decide ((q : Int) < 0) = false := decide_eq_false (by omega)
        have hqi : (0 : Int) ≤ (q : Int) ∧ (q : Int) < (xks.length : Int) := ⟨by omega, by omega⟩
        have c0 := cell_of_row _ g1 0 _ _ _ HBK3.out
        have c1 := cell_of_row _ g1 1 _ _ _ HBK3.out
        have c2 := cell_of_row _ g1 2 _ _ _ HBK3.out
        replace c0 : _ = some (Value.string xn) := c0
        replace c1 : _ = some (Value.slice xpa xps.length xpc) := c1
        replace c2 : _ = some (Value.slice (some ⟨kb, ko, none⟩) xks.length xkc) := c2
        have f0 := frozen_of_row _ g1 0 _ _ HBK3.out
        have f1 := frozen_of_row _ g1 1 _ _ HBK3.out
        have f2 := frozen_of_row _ g1 2 _ _ HBK3.out
        obtain ⟨y0, y1, y2⟩ := HKS.out
        generalize xks.length = xkl at *
        go_wp2_with (first | (at_builtin; refine Lib.wpList_append_run_sl _ rfl _ _ 39 rfl _ _ rfl rfl HR.out ?_) | fail)
        go_roundw
        case rel =>
          have b3 := heap_setCell_same _ g1 2 _ _ (.slice yka yks.length ykc) (heap_setCell_same _ g1 1 _ _ (.slice ypa yps.length ypc) (heap_setCell_same _ g1 0 _ _ (.string yn) HBK3.out))
          have hrow : ∀ V : World, (∀ j, j ≠ g1 → V.heap[j]? = w3.heap[j]?) → V.ownsRow (g1 + 1) 3 1 (.slice A' (k + 1) c') (k + 1) (ints (p.take (k + 1))) := fun V hV => by
            rw [HHT.out]
            exact own_sameQ HO3.out (fun j hj => hV j (fun e => by have := (HO3.out.lt j hj).1; omega))
          have hoth : ∀ (V : World) (i : Nat) (u : Value) (j : Nat), j ≠ g1 → (V.setCell ⟨g1, i, none⟩ u).heap[j]? = V.heap[j]? := fun V i u j h => heap_setCell_other _ _ _ _ h
          exact ⟨k + 1, Nd.mk yn ypa ypc yps yka ykc yks, A', c', by omega, by congr 1, rfl, HNX.out, hrow _ (fun j h => (hoth _ _ _ _ h).trans ((hoth _ _ _ _ h).trans (hoth _ _ _ _ h))), b3,
            (((HB.out.trans ((HB2.out.mono (Nat.le_of_lt hGB.out)).trans (HB3.out.mono (Nat.le_succ _)))).setCell (p := ⟨g1, 0, none⟩) (Nat.le_refl _) _).setCell (p := ⟨g1, 1, none⟩) (Nat.le_refl _) _).setCell (p := ⟨g1, 2, none⟩) (Nat.le_refl _) _⟩
        case measure => simp [intOf]; omega
      · obtain rfl : k = p.length := by omega
        have HCO := Lib.hid (cel_own HO.out)
        have hlt2 : ¬ (((p.length : Int) + 1) < ((p.length + 1 : Nat) : Int)) := by omega
        go_wp2
        go_ret2
        refine ⟨⟨A, c, rfl, ?_, HCO.out.2.1, HCO.out.2.2⟩, HB1.out.trans (HB.out.mono HG1.out)⟩
        have h := HCO.out.1
        rw [List.take_length] at h
        exact h
end Go.Proofs.YtihlpcbebpnmkaaGreatDoor

/-! Layer 11, OverlayKeeps: out of what the program's Apply answers. -/
namespace Go.Proofs.YtihlpcbebpnmkaaGreatDoor
open Go.RowKit
set_option linter.unusedVariables false
set_option linter.unusedSimpArgs false
attribute [local go_sem ↓] Go.wp_at_zero Go.wp_at_succ

/-- Each node of n is in m, at its place, of the same path, with its properties. -/
def Keeps (n m : Nd) : Prop := ∀ (p : List Nat) (x : Nd), nodeAt n p = some x → ∃ y, nodeAt m p = some y ∧ namesAt m p = namesAt n p ∧ ∀ s, 0 ≤ idxOf (x.props.map PV.name) s → 0 ≤ idxOf (y.props.map PV.name) s
def Awake11 : Prop := ∀ w : World, Calls Tryz.prog 4 #[] w fun e w' => e = .returned (.bool true) ∧ Below w.heap.size w w'
/-- What is asked of the program's Apply. -/
def ApplyOK : Prop := ∀ (t u : Tr) (w : World), t.In w w.heap.size → u.In w w.heap.size → heftN t.root + heftN u.root ≤ 134217728 →
  Calls Tryz.prog 6 #[t.val, u.val] w fun e w' => (∃ (x : Tr) (er : Int), e = .returned (.tuple #[x.val, .int .i64 er]) ∧ x.In w' w'.heap.size ∧ (er = 0 → checkE t = 0 ∧ checkE x = 0 ∧ Keeps t.root x.root)) ∧ Below w.heap.size w w'

theorem idxOf_neg_or' (l : List ByteArray) (s : ByteArray) : idxOf l s = -1 ∨ 0 ≤ idxOf l s := by
  cases l with
  | nil => exact .inl rfl
  | cons x l =>
    rw [idxOf]
    split
    · exact .inr (Int.le_refl _)
    · split
      · exact .inl rfl
      · exact .inr (by omega)
theorem one_there {n : Nd} {s : ByteArray} (h : (oneV n s).2.1 = true) : 0 ≤ idxOf (n.props.map PV.name) s := by
  rcases idxOf_neg_or' (n.props.map PV.name) s with h1 | h1
  · unfold oneV at h
    rw [find_none h1] at h
    cases h
  · exact h1
/-- Each handle is that of a node that has the property. -/
theorem refsFrom_mem (root : Nd) : ∀ (l : List (List Nat)) (acc : List (Int × List Nat)), (∀ y ∈ acc, ∃ nd, nodeAt root y.2 = some nd ∧ 0 ≤ idxOf (nd.props.map PV.name) phName) → ∀ y ∈ (refsFrom root acc l).1, ∃ nd, nodeAt root y.2 = some nd ∧ 0 ≤ idxOf (nd.props.map PV.name) phName
  | [], acc, h => h
  | p :: r, acc, h => by
    rw [refsFrom]
    by_cases h1 : (refStep root acc p).2 = 0
    · rw [if_pos h1]
      refine refsFrom_mem root r _ ?_
      unfold refStep at h1 ⊢
      split at h1
      · exact h
      · rename_i n hn
        by_cases h2 : (oneV n phName).2.2 ≠ 0
        · rw [if_pos h2] at h1; exact absurd h1 h2
        rw [if_neg h2] at h1 ⊢
        by_cases h3 : (oneV n phName).2.1 = false
        · rw [if_pos h3]; exact h
        rw [if_neg h3] at h1 ⊢
        by_cases h4 : (oneV n phName).1 = 0 ∨ (oneV n phName).1 = 4294967295
        · rw [if_pos h4] at h1; exact absurd h1 (by decide)
        rw [if_neg h4] at h1 ⊢
        by_cases h5 : acc.any (fun x => decide (x.1 = (oneV n phName).1)) = true
        · rw [if_pos h5] at h1; exact absurd h1 (by decide)
        rw [if_neg h5]
        intro y hy
        rcases List.mem_append.1 hy with hy | hy
        · exact h y hy
        · rw [List.mem_singleton.1 hy]
          exact ⟨n, hn, one_there (by simpa using h3)⟩
    · rw [if_neg h1]
      exact fun y hy => absurd hy (by simp)
theorem tree_box {V : World} {g : Nat} {a0 a1 a2 a3 a4 : Value} {t : TypeId} (h : V.heap[g]? = some (.cells #[a0, a1, a2, a3, a4] t (0, 0))) : V.cell? ⟨g, 0, none⟩ = some a0 ∧ V.cell? ⟨g, 1, none⟩ = some a1 ∧ V.cell? ⟨g, 2, none⟩ = some a2 ∧ V.cell? ⟨g, 3, none⟩ = some a3 ∧ V.cell? ⟨g, 4, none⟩ = some a4 := by
  refine ⟨?_, ?_, ?_, ?_, ?_⟩ <;> (rw [cell_of_row V g _ _ _ _ h]; rfl)

set_option maxRecDepth 20000 in
set_option maxHeartbeats 8000000 in
theorem overlayKeeps_true (hK : Awake11) (hA : ApplyOK) (t u : Tr) (w : World) (hin : t.In w w.heap.size) (hjn : u.In w w.heap.size) (hheft : heftN t.root + heftN u.root ≤ 134217728) :
    Calls Tryz.prog 3 #[t.val, u.val] w fun e w' => e = .returned (.bool true) ∧ Below w.heap.size w w' := by
  have HK := Lib.hid hK
  have HI := Lib.hid hin
  have HJ := Lib.hid hjn
  have F1 := Lib.hid (fun W h => few_any t W h)
  have F2 := Lib.hid (fun W h => few_any u W h)
  have CA := Lib.hid (fun W h1 h2 => hA t u W h1 h2 hheft)
  have CI := Lib.hid (fun W h => refindex_any t W h (by omega))
  have HMEM := Lib.hid (refsFrom_mem t.root (placesN t.root []) [] (fun y hy => by cases hy))
  have CP := Lib.hid (fun (W : World) (h : t.In W W.heap.size) (p : List Nat) (nd : Nd) A n c (h1 : nodeAt t.root p = some nd) h2 h3 h4 h5 h6 => refpath_any t p nd A n c W h h1 h2 h3 h4 h5 h6)
  have HTR : Hid (∃ R, t.root = R) := ⟨_, rfl⟩
  obtain ⟨R, hR⟩ := HTR.out
  have HCK : Hid (checkE t = 0 → wrongN R 1 = 0) := Lib.hid (fun h => by rw [← hR]; exact root_wrong h)
  obtain ⟨RS, hRS⟩ : ∃ RS, refsOf t.root = RS := ⟨_, rfl⟩
  replace HMEM : Hid (∀ y ∈ (refsOf t.root).1, ∃ nd, nodeAt t.root y.2 = some nd ∧ 0 ≤ idxOf (nd.props.map PV.name) phName) := HMEM
  rw [hRS] at CI HMEM
  rw [hR] at HMEM
  replace CA : Hid (∀ W : World, t.In W W.heap.size → u.In W W.heap.size → Calls Tryz.prog 6 #[t.val, u.val] W fun e w' => (∃ (x : Tr) (er : Int), e = .returned (.tuple #[x.val, .int .i64 er]) ∧ x.In w' w'.heap.size ∧ (er = 0 → checkE t = 0 ∧ checkE x = 0 ∧ Keeps R x.root)) ∧ Below W.heap.size W w') := by rw [← hR]; exact CA
  replace CP : Hid (∀ (W : World) (_ : t.In W W.heap.size) (p : List Nat) (nd : Nd) (A : Option Addr) (n c : Nat) (_ : nodeAt R p = some nd) (_ : ∀ s ∈ namesAt R p, s.size ≤ 63) (_ : p.length ≤ 15) (_ : Cel W W.heap.size A n (ints p)) (_ : n ≤ c) (_ : c ≤ 9223372036854775807), Calls Tryz.prog 8 #[t.val, .slice A n c] W fun e w' => e = .returned (.string (pathOf R p)) ∧ Below W.heap.size W w') := by rw [← hR]; exact CP
  clear hK hA hin hjn hheft hR hRS HTR
  obtain ⟨rl, er0⟩ := RS
  obtain ⟨boot, ra, rc, rs, ⟨nm, pa, pc, ps, ka, kc, ks⟩⟩ := t
  obtain ⟨boot', ra', rc', rs', ⟨nm', pa', pc', ps', ka', kc', ks'⟩⟩ := u
  simp only [Tr.val, Tr.rv, Nd.val, Nd.pv, Nd.kv, Nd.name, Nd.pa, Nd.pc, Nd.props, Nd.ka, Nd.kc, Nd.kids] at F1 F2 CA CI CP ⊢
  obtain ⟨W0, hW0⟩ : ∃ W0, ((w.alloc (.cells #[Value.int .u32 boot, Value.slice ra rs.length rc, Value.string nm, Value.slice pa ps.length pc, Value.slice ka ks.length kc] 29)).alloc (.cells #[Value.int .u32 boot', Value.slice ra' rs'.length rc', Value.string nm', Value.slice pa' ps'.length pc', Value.slice ka' ks'.length kc'] 29)) = W0 := ⟨_, rfl⟩
  have HB0 : Hid (Below w.heap.size w W0) := Lib.hid (by rw [← hW0]; exact ((Below.refl w.heap.size w).alloc (Nat.le_refl _) _).alloc (by simp) _)
  have HS0 : Hid (W0.heap.size = w.heap.size + 2) := Lib.hid (by rw [← hW0]; simp)
  have HX0 : Hid (W0.heap[w.heap.size]? = some (.cells #[Value.int .u32 boot, Value.slice ra rs.length rc, Value.string nm, Value.slice pa ps.length pc, Value.slice ka ks.length kc] 29 (0, 0)) ∧ W0.heap[w.heap.size + 1]? = some (.cells #[Value.int .u32 boot', Value.slice ra' rs'.length rc', Value.string nm', Value.slice pa' ps'.length pc', Value.slice ka' ks'.length kc'] 29 (0, 0))) := Lib.hid (by rw [← hW0]; exact ⟨heap_alloc2_old _ _ _, heap_alloc2_new _ _ _⟩)
  go_enter Tryz.func3, Tryz.ntmps3
  go_wp2_with fail
  clear hW0
  refine (HK.out _).mono ?_
  rintro e w1 ⟨rfl, hb⟩
  have HB1 := Lib.hid hb
  have HXA := Lib.hid ((hb.block w.heap.size (by have := HS0.out; omega)).trans HX0.out.1)
  have HXB := Lib.hid ((hb.block (w.heap.size + 1) (by have := HS0.out; omega)).trans HX0.out.2)
  have HBW := Lib.hid (HB0.out.trans (hb.mono HB0.out.size))
  obtain ⟨b0, b1, b2, b3, b4⟩ := tree_box HXA.out
  clear hb
  go_wp2_with fail
  refine (F1.out _ (HI.out.on HBW.out)).mono ?_
  rintro e w2 ⟨⟨f1, rfl⟩, hb⟩
  clear b0 b1 b2 b3 b4
  have HL1 : Hid (w.heap.size + 1 < w1.heap.size) := Lib.hid (by have h1 := HS0.out; have h2 := HB1.out.size; omega)
  have HXA2 := Lib.hid ((hb.block w.heap.size (by have := HL1.out; omega)).trans HXA.out)
  have HXB2 := Lib.hid ((hb.block (w.heap.size + 1) HL1.out).trans HXB.out)
  have HBW2 := Lib.hid (HBW.out.trans (hb.mono HBW.out.size))
  have HL2 : Hid (w.heap.size + 1 < w2.heap.size) := Lib.hid (by have h1 := HL1.out; have h2 := hb.size; omega)
  clear hb HXA HXB HB1 HBW HL1
  cases f1
  · go_wp2_with fail
    refine (HK.out _).mono ?_
    rintro e w3 ⟨rfl, hb⟩
    have HB3 := Lib.hid (HBW2.out.trans (hb.mono HBW2.out.size))
    clear hb
    go_wp2
    go_ret
    exact ⟨rfl, HB3.out⟩
  · obtain ⟨b0, b1, b2, b3, b4⟩ := tree_box HXB2.out
    go_wp2_with fail
    refine (F2.out _ (HJ.out.on HBW2.out)).mono ?_
    rintro e w3 ⟨⟨f2, rfl⟩, hb⟩
    clear b0 b1 b2 b3 b4
    have HXA3 := Lib.hid ((hb.block w.heap.size (by have := HL2.out; omega)).trans HXA2.out)
    have HXB3 := Lib.hid ((hb.block (w.heap.size + 1) HL2.out).trans HXB2.out)
    have HBW3 := Lib.hid (HBW2.out.trans (hb.mono HBW2.out.size))
    have HL3 : Hid (w.heap.size + 1 < w3.heap.size) := Lib.hid (by have h1 := HL2.out; have h2 := hb.size; omega)
    clear hb HXA2 HXB2 HBW2 HL2
    cases f2
    · go_wp2_with fail
      refine (HK.out _).mono ?_
      rintro e w4 ⟨rfl, hb⟩
      have HB4 := Lib.hid (HBW3.out.trans (hb.mono HBW3.out.size))
      clear hb
      go_wp2
      go_ret
      exact ⟨rfl, HB4.out⟩
    · obtain ⟨a0, a1, a2, a3, a4⟩ := tree_box HXA3.out
      obtain ⟨b0, b1, b2, b3, b4⟩ := tree_box HXB3.out
      go_wp2_with fail
      refine (CA.out _ (HI.out.on HBW3.out) (HJ.out.on HBW3.out)).mono ?_
      rintro e w4 ⟨⟨x, er, rfl, hxin, hxk⟩, hb⟩
      clear a0 a1 a2 a3 a4 b0 b1 b2 b3 b4
      have HXA4 := Lib.hid ((hb.block w.heap.size (by have := HL3.out; omega)).trans HXA3.out)
      have HBW4 := Lib.hid (HBW3.out.trans (hb.mono HBW3.out.size))
      have HL4 : Hid (w.heap.size + 1 < w4.heap.size) := Lib.hid (by have h1 := HL3.out; have h2 := hb.size; omega)
      have HXI := Lib.hid hxin
      have HXK := Lib.hid hxk
      clear hb hxin hxk HXA3 HXB3 HBW3 HL3
      have CN := Lib.hid (fun (W : World) (h : x.In W W.heap.size) (p : List Nat) (nd : Nd) (s : ByteArray) h1 h2 h3 => refnames_any x p nd s W h h1 h2 h3)
      have CG := Lib.hid (fun (W : World) (h : x.In W W.heap.size) (p : List Nat) A n c h1 h2 h3 => refget_any x (p.map Int.ofNat) A n c W h h1 h2 h3)
      obtain ⟨R2, hR2⟩ : ∃ R2, x.root = R2 := ⟨_, rfl⟩
      have HCX : Hid (checkE x = 0 → wrongN R2 1 = 0) := Lib.hid (fun h => by rw [← hR2]; exact root_wrong h)
      replace HXK : Hid (er = 0 → checkE (Tr.mk boot ra rc rs (Nd.mk nm pa pc ps ka kc ks)) = 0 ∧ checkE x = 0 ∧ Keeps R R2) := by rw [← hR2]; exact HXK
      replace CN : Hid (∀ (W : World) (_ : x.In W W.heap.size) (p : List Nat) (nd : Nd) (s : ByteArray) (_ : wrongN R2 1 = 0) (_ : nodeAt R2 p = some nd) (_ : s = pathOf R2 p), Calls Tryz.prog 9 #[x.val, .string s] W fun e w' => (∃ A c, e = .returned (.tuple #[.slice A p.length c, .bool true]) ∧ Cel w' w'.heap.size A p.length (ints p) ∧ p.length ≤ c ∧ c ≤ 9223372036854775807) ∧ Below W.heap.size W w') := by rw [← hR2]; exact CN
      replace CG : Hid (∀ (W : World) (_ : x.In W W.heap.size) (p : List Nat) (A : Option Addr) (n c : Nat) (_ : Cel W W.heap.size A n (intsZ (p.map Int.ofNat))) (_ : n ≤ c) (_ : c ≤ 9223372036854775807), Calls Tryz.prog 10 #[x.val, .slice A n c] W fun e w' => e = .returned (getVal (nodeZ R2 (p.map Int.ofNat))) ∧ Below W.heap.size W w') := by rw [← hR2]; exact CG
      have HR2I : Hid (R2.In w4 w4.heap.size) := Lib.hid (by rw [← hR2]; exact HXI.out.root)
      clear hR2
      have HE : Hid (er = 0 → (wrongN R 1 = 0 ∧ wrongN R2 1 = 0) ∧ Keeps R R2) := Lib.hid (fun h => ⟨⟨HCK.out (HXK.out h).1, HCX.out (HXK.out h).2.1⟩, (HXK.out h).2.2⟩)
      clear HXK HCK HCX
      obtain ⟨xb, xra, xrc, xrs, ⟨xnm, xpa, xpc, xps, xka, xkc, xks⟩⟩ := x
      simp only [Tr.val, Tr.rv, Nd.val, Nd.pv, Nd.kv, Nd.name, Nd.pa, Nd.pc, Nd.props, Nd.ka, Nd.kc, Nd.kids] at CN CG ⊢
      obtain ⟨W5, hW5⟩ : ∃ W5, w4.alloc (.cells #[Value.int .u32 xb, Value.slice xra xrs.length xrc, Value.string xnm, Value.slice xpa xps.length xpc, Value.slice xka xks.length xkc] 29) = W5 := ⟨_, rfl⟩
      have HB5 : Hid (Below w4.heap.size w4 W5) := Lib.hid (by rw [← hW5]; exact (Below.refl _ _).alloc (Nat.le_refl _) _)
      have HX5 : Hid (W5.heap[w4.heap.size]? = some (.cells #[Value.int .u32 xb, Value.slice xra xrs.length xrc, Value.string xnm, Value.slice xpa xps.length xpc, Value.slice xka xks.length xkc] 29 (0, 0)) ∧ W5.heap.size = w4.heap.size + 1) := Lib.hid (by rw [← hW5]; exact ⟨heap_alloc_new _ _, by simp⟩)
      have HXA5 := Lib.hid ((HB5.out.block w.heap.size (by have := HL4.out; omega)).trans HXA4.out)
      by_cases her : er = 0
      · subst her
        obtain ⟨⟨hw1, hw2⟩, hkp⟩ := HE.out rfl
        have HW1 := Lib.hid hw1
        have HW2 := Lib.hid hw2
        have HKP := Lib.hid hkp
        clear hw1 hw2 hkp HE
        obtain ⟨a0, a1, a2, a3, a4⟩ := tree_box HXA5.out
        go_wp2_with fail
        clear hW5
        refine (CI.out _ (HI.out.on (HBW4.out.trans (HB5.out.mono HBW4.out.size)))).mono ?_
        rintro e w6 ⟨⟨A6, n6, c6, rfl, s6, l6, m6⟩, hb⟩
        clear a0 a1 a2 a3 a4
        obtain rfl := s6.len
        have HS6 := Lib.hid s6
        have HXA6 := Lib.hid ((hb.block w.heap.size (by have h1 := HL4.out; have h2 := HX5.out.2; omega)).trans HXA5.out)
        have HXX6 := Lib.hid ((hb.block w4.heap.size (by have h2 := HX5.out.2; omega)).trans HX5.out.1)
        have HB6 := Lib.hid (HB5.out.trans (hb.mono HB5.out.size))
        have HL6 : Hid (w4.heap.size < w6.heap.size) := Lib.hid (by have h1 := hb.size; have h2 := HX5.out.2; omega)
        clear hb s6
        obtain ⟨N, hN⟩ : ∃ N, rl.length = N := ⟨_, rfl⟩
        have HN := Lib.hid hN
        rw [hN] at HS6 l6 ⊢
        clear hN
        go_wp2_with fail
        go_loopw [44] (fun i wr => ∃ j : Nat, j ≤ N ∧ i = .int .i64 j ∧ Below w6.heap.size w6 wr) (fun i _ => N - (intOf i).toNat)
        case atStart => exact ⟨0, Nat.zero_le _, rfl, Below.refl _ _⟩
        case round =>
          obtain ⟨j, hj, rfl, hb⟩ := hrel
          have HBX := Lib.hid hb
          by_cases hlt : j < N
          · have hja : j < rl.length := by rw [HN.out]; exact hlt
            obtain ⟨b, o, A7, c7, e, hbb, p1, p2, p3, p4, p5⟩ := (HS6.out.on hb).at_ hja
            obtain rfl : A6 = _ := e
            obtain ⟨nd, hat, hph⟩ := HMEM.out _ (List.getElem_mem hja)
            generalize rl[j] = Y at *
            obtain ⟨hv, P⟩ := Y
            simp only at p1 p2 p3 p4 hat hph
            obtain ⟨y, hy1, hy2, hy3⟩ := HKP.out P nd hat
            have HAT := Lib.hid hat
            have HY := Lib.hid (And.intro hy1 (And.intro hy2 (hy3 phName hph)))
            have HNM : Hid (∀ s ∈ namesAt R P, s.size ≤ 63) := Lib.hid (fun s hs => nodeB_size (namesAt_ok P (by omega) HW1.out hat s hs))
            have HP15 := Lib.hid (place_short HW1.out hat)
            have HSAME : Hid (pathOf R2 P = pathOf R P) := Lib.hid (by unfold pathOf; rw [hy2])
            have HP3 := Lib.hid p3
            have HP45 := Lib.hid (And.intro p4 p5)
            have HAr := Lib.hid ((hb.block w.heap.size (by have h1 := HL4.out; have h2 := HL6.out; omega)).trans HXA6.out)
            have HXr := Lib.hid ((hb.block w4.heap.size HL6.out).trans HXX6.out)
            clear hat hph hy1 hy2 hy3 p3 hja hb
            obtain ⟨pl, hpl⟩ : ∃ pl, P.length = pl := ⟨_, rfl⟩
            have HPL := Lib.hid hpl
            rw [hpl] at HP3 p4 p2 HP45
            clear hpl
            obtain ⟨a0, a1, a2, a3, a4⟩ := tree_box HAr.out
            go_wp2_with fail
            refine wp_region_held_drew (S := fun V => (V.cell? ⟨w.heap.size, 0, none⟩ = some (.int .u32 boot) ∧ V.cell? ⟨w.heap.size, 1, none⟩ = some (.slice ra rs.length rc) ∧ V.cell? ⟨w.heap.size, 2, none⟩ = some (.string nm) ∧ V.cell? ⟨w.heap.size, 3, none⟩ = some (.slice pa ps.length pc) ∧ V.cell? ⟨w.heap.size, 4, none⟩ = some (.slice ka ks.length kc)) ∧ V.cell? ⟨b, o + j * 2 + 1, none⟩ = some (.slice A7 pl c7)) (by kernel_rfl) (by exact ⟨⟨a0, a1, a2, a3, a4⟩, p2⟩) (fun hHeld => ?_)
            refine held_take 0 rfl (by kernel_rfl) (by kernel_rfl) (by kernel_rfl) (fun _ _ _ h => h) (by rfl) hHeld (v := ?_) (fun w hSw => ?_) (fun _ => ?_)
            rotate_left
            · ((try dsimp only at hSw); go_simp; (try with_reducible rfl))
            simp only [Act.put, List.setIfInBounds_toArray, List.set_cons_zero, List.set_cons_succ]
            refine held_take 1 rfl (by kernel_rfl) (by kernel_rfl) (by kernel_rfl) (fun _ _ _ h => h) (by rfl) hHeld (v := ?_) (fun w hSw => ?_) (fun _ => ?_)
            rotate_left
            · ((try dsimp only at hSw); go_simp; (try with_reducible rfl))
            simp only [Act.put, List.setIfInBounds_toArray, List.set_cons_zero, List.set_cons_succ]
            refine held_take 2 rfl (by kernel_rfl) (by kernel_rfl) (by kernel_rfl) (fun _ _ _ h => h) (by rfl) hHeld (v := ?_) (fun w hSw => ?_) (fun _ => ?_)
            rotate_left
            · ((try dsimp only at hSw); go_simp; (try with_reducible rfl))
            simp only [Act.put, List.setIfInBounds_toArray, List.set_cons_zero, List.set_cons_succ]
            refine held_take 3 rfl (by kernel_rfl) (by kernel_rfl) (by kernel_rfl) (fun _ _ _ h => h) (by rfl) hHeld (v := ?_) (fun w hSw => ?_) (fun _ => ?_)
            rotate_left
            · ((try dsimp only at hSw); go_simp; (try with_reducible rfl))
            simp only [Act.put, List.setIfInBounds_toArray, List.set_cons_zero, List.set_cons_succ]
            refine held_take 4 rfl (by kernel_rfl) (by kernel_rfl) (by kernel_rfl) (fun _ _ _ h => h) (by rfl) hHeld (v := ?_) (fun w hSw => ?_) (fun _ => ?_)
            rotate_left
            · ((try dsimp only at hSw); go_simp; (try with_reducible rfl))
            simp only [Act.put, List.setIfInBounds_toArray, List.set_cons_zero, List.set_cons_succ]
            refine held_take 5 rfl (by kernel_rfl) (by kernel_rfl) (by kernel_rfl) (fun _ _ _ h => h) (by rfl) hHeld (v := ?_) (fun w hSw => ?_) (fun _ => ?_)
            rotate_left
            · ((try dsimp only at hSw); go_simp; (try with_reducible rfl))
            simp only [Act.put, List.setIfInBounds_toArray, List.set_cons_zero, List.set_cons_succ]
            refine held_call 6 (by kernel_rfl) rfl (by rfl) (fun K hK => ?_)
            go_simp
            have hIW : Tr.In wr.drew wr.drew.heap.size ⟨boot, ra, rc, rs, .mk nm pa pc ps ka kc ks⟩ := HI.out.on (HBW4.out.trans ((HB6.out.trans (HBX.out.mono HB6.out.size)).mono HBW4.out.size)).drew
            refine (CP.out wr.drew hIW P nd A7 pl c7 HAT.out HNM.out HP15.out HP3.out HP45.out.1 HP45.out.2).mono ?_
            rintro e w8 ⟨rfl, hb8⟩
            have HB8 : Hid (Below wr.heap.size wr w8) := Lib.hid ((Below.refl _ wr).drew.trans hb8)
            have hA8 := (HB8.out.block w.heap.size (by have h1 := HL4.out; have h2 := HL6.out; have h3 := HBX.out.size; omega)).trans HAr.out
            have HX8 := Lib.hid ((HB8.out.block w4.heap.size (by have h2 := HL6.out; have h3 := HBX.out.size; omega)).trans HXr.out)
            have z2 := (HB8.out.cell (p := ⟨b, o + j * 2 + 1, none⟩) hbb).trans p2
            clear hb8 hIW a0 a1 a2 a3 a4 p1 p2
            dsimp only
            refine hK.out _ _ ⟨tree_box hA8, z2⟩ (fun hHeld => ?_)
            clear hK K
            refine held_take 7 rfl (by kernel_rfl) (by kernel_rfl) (by kernel_rfl) (fun _ _ _ h => h) (by rfl) hHeld (v := ?_) (fun w hSw => ?_) (fun _ => ?_)
            rotate_left
            · ((try dsimp only at hSw); go_simp; (try with_reducible rfl))
            simp only [Act.put, List.setIfInBounds_toArray, List.set_cons_zero, List.set_cons_succ]
            refine wpAnyH_done (by kernel_rfl) ?_ _
            clear hHeld hA8 z2 hbb
            obtain ⟨x0, x1, x2, x3, x4⟩ := tree_box HX8.out
            have HXI8 : Hid (Tr.In w8 w8.heap.size ⟨xb, xra, xrc, xrs, .mk xnm xpa xpc xps xka xkc xks⟩) := Lib.hid (HXI.out.on (HB6.out.trans ((HBX.out.trans (HB8.out.mono HBX.out.size)).mono HB6.out.size)))
            go_wp2_with fail
            clear x0 x1 x2 x3 x4
            refine (CN.out w8 HXI8.out P y _ HW2.out HY.out.1 HSAME.out.symm).mono ?_
            rintro e w9 ⟨⟨A9, c9, rfl, hc9, h91, h92⟩, hb9⟩
            have HB9 := Lib.hid hb9
            have HC9 := Lib.hid (And.intro hc9 (And.intro h91 h92))
            have HX9 := Lib.hid ((hb9.block w4.heap.size (by have h1 := HB8.out.size; have h2 := HL6.out; have h3 := HBX.out.size; omega)).trans HX8.out)
            have HXI9 := Lib.hid (HXI8.out.on hb9)
            clear hb9 hc9 h91 h92
            obtain ⟨x0, x1, x2, x3, x4⟩ := tree_box HX9.out
            rw [HPL.out]
            rw [HPL.out] at HC9
            go_wp2_with fail
            clear x0 x1 x2 x3 x4
            refine (CG.out w9 HXI9.out P A9 pl c9 (by rw [← ints_eq]; exact HC9.out.1) HC9.out.2.1 HC9.out.2.2).mono ?_
            rintro e w10 ⟨rfl, hb10⟩
            rw [nodeZ_nat, HY.out.1]
            have HB10 := Lib.hid hb10
            have HYI : Hid (y.In w10 w10.heap.size) := Lib.hid (nodeAt_in P ((HR2I.out.on (HB6.out.trans ((HBX.out.trans ((HB8.out.trans (HB9.out.mono HB8.out.size)).mono HBX.out.size)).mono HB6.out.size))).on hb10) HY.out.1)
            have HFI := Lib.hid (fun W (h : y.In W W.heap.size) => reffind_any y phName W h _ rfl)
            have hge : ¬ (idxOf (y.props.map PV.name) phName < 0) := by have := HY.out.2.2; omega
            generalize idxOf (y.props.map PV.name) phName = q at *
            clear hb10
            obtain ⟨yn, ypa, ypc, yps, yka, ykc, yks⟩ := y
            simp only [getVal, Nd.val, Nd.pv, Nd.kv, Nd.name, Nd.pa, Nd.pc, Nd.props, Nd.ka, Nd.kc, Nd.kids] at HFI ⊢
            have HYB := Lib.hid ((Below.refl w10.heap.size w10).alloc (Nat.le_refl _) (.cells #[Value.string yn, Value.slice ypa yps.length ypc, Value.slice yka yks.length ykc] 27))
            have HFI2 : Hid (∀ W : World, (Nd.mk yn ypa ypc yps yka ykc yks).In W W.heap.size → Calls Tryz.prog 11 #[.agg #[.string yn, .slice ypa yps.length ypc, .slice yka yks.length ykc], .string ⟨#[112, 104, 97, 110, 100, 108, 101]⟩] W fun e w' => e = .returned (.int .i64 q) ∧ Below W.heap.size W w') := HFI.out
            have hq : decide (q < 0) = false := decide_eq_false hge
            clear HFI hge
            go_wp2_with fail
            refine (HFI2.out _ (HYI.out.on HYB.out)).mono ?_
            rintro e w11 ⟨rfl, hb11⟩
            have HB11 := Lib.hid (HYB.out.trans (hb11.mono HYB.out.size))
            clear hb11
            go_wp2
            go_roundw
            case rel => exact ⟨j + 1, by omega, by go_num, HBX.out.trans ((HB8.out.trans ((HB9.out.trans ((HB10.out.trans (HB11.out.mono HB10.out.size)).mono HB9.out.size)).mono HB8.out.size)).mono HBX.out.size)⟩
            case measure => simp [intOf]; omega
          · go_wp2
            go_ret
            exact ⟨rfl, HBW4.out.trans ((HB6.out.trans (HBX.out.mono HB6.out.size)).mono HBW4.out.size)⟩
      · have hne : (er != 0) = true := by simpa using her
        go_wp2
        go_ret
        exact ⟨rfl, HBW4.out.trans (HB5.out.mono HBW4.out.size)⟩
end Go.Proofs.YtihlpcbebpnmkaaGreatDoor

/-! Layer 2, NameSplits: for every text name.Split parts it at the first @, as the document says. -/
namespace Go.Proofs.YtihlpcbebpnmkaaGreatDoor
open Go.RowKit
set_option linter.unusedVariables false
set_option linter.unusedSimpArgs false

theorem split_none (s : ByteArray) (w : World) (h : NoCut s) :
    Calls Tryz.prog 126 #[.string s] w fun e w' => e = .returned (.tuple #[.string s, .string ByteArray.empty]) ∧ w = w' := by
  have C := Lib.hid (cut_none s w h)
  clear h
  go_enter Tryz.func126, Tryz.ntmps126
  go_wp2_with (go_at_call 95; refine C.out.mono ?_; rintro e w' ⟨rfl, rfl⟩)
  go_ret2
  exact ⟨rfl, rfl⟩
theorem split_some (s : ByteArray) (i : Nat) (w : World) (h : CutAt s i) (hs : s.size ≤ 140737488351232) :
    Calls Tryz.prog 126 #[.string s] w fun e w' => e = .returned (.tuple #[.string (s.extract 0 i), .string (s.extract (i + 1) s.size)]) ∧ w' = w.drewN 1 := by
  have C := Lib.hid (cut_some s i w h hs)
  clear h
  go_enter Tryz.func126, Tryz.ntmps126
  go_wp2_with (go_at_call 95; refine C.out.mono ?_; rintro e w' ⟨rfl, rfl⟩)
  go_ret2
  exact ⟨rfl, rfl⟩
end Go.Proofs.YtihlpcbebpnmkaaGreatDoor

/-! Layer 11: what keeps a node's nodes, at their places, of the same names, with their properties; a node laid over another one does. -/
namespace Go.Proofs.YtihlpcbebpnmkaaGreatDoor
open Go.RowKit
set_option linter.unusedVariables false
set_option linter.unusedSimpArgs false

inductive KeepsP : PN → PN → Prop where
  | mk (n m : PN) (hp : ∀ s, s ∈ n.props.map Prod.fst → s ∈ m.props.map Prod.fst) (hl : n.kids.length ≤ m.kids.length) (hkn : ∀ i (h : i < n.kids.length) (h' : i < m.kids.length), m.kids[i].name = n.kids[i].name) (hk : ∀ i (h : i < n.kids.length) (h' : i < m.kids.length), KeepsP n.kids[i] m.kids[i]) : KeepsP n m
theorem KeepsP.parts {n m : PN} (h : KeepsP n m) : (∀ s, s ∈ n.props.map Prod.fst → s ∈ m.props.map Prod.fst) ∧ n.kids.length ≤ m.kids.length ∧ ∀ i (h : i < n.kids.length) (h' : i < m.kids.length), m.kids[i].name = n.kids[i].name ∧ KeepsP n.kids[i] m.kids[i] := by
  cases h with | mk _ _ h1 h2 h3 h4 => exact ⟨h1, h2, fun i h h' => ⟨h3 i h h', h4 i h h'⟩⟩
theorem KeepsP.of {n m : PN} (h1 : ∀ s, s ∈ n.props.map Prod.fst → s ∈ m.props.map Prod.fst) (h2 : n.kids.length ≤ m.kids.length) (h3 : ∀ i (h : i < n.kids.length) (h' : i < m.kids.length), m.kids[i].name = n.kids[i].name ∧ KeepsP n.kids[i] m.kids[i]) : KeepsP n m :=
  .mk n m h1 h2 (fun i h h' => (h3 i h h').1) (fun i h h' => (h3 i h h').2)
theorem pn_ind {p : PN → Prop} (h : ∀ n, (∀ k ∈ n.kids, p k) → p n) (n : PN) : p n := by
  have : ∀ m : Nat, ∀ n : PN, SizeOf.sizeOf n ≤ m → p n := by
    intro m
    induction m with
    | zero => intro n hn; cases n; simp at hn
    | succ m ih =>
      intro n hn
      refine h n fun k hk => ih k ?_
      have h1 := List.sizeOf_lt_of_mem hk
      cases n with
      | mk a b c => simp only [PN.mk.sizeOf_spec] at hn; simp only [PN.kids] at h1; omega
  exact this _ n (Nat.le_refl _)
theorem KeepsP.refl : ∀ n, KeepsP n n := pn_ind (fun n ih => KeepsP.of (fun _ h => h) (Nat.le_refl _) (fun i h _ => ⟨rfl, ih _ (List.getElem_mem h)⟩))
theorem KeepsP.trans : ∀ (n : PN) {m k : PN}, KeepsP n m → KeepsP m k → KeepsP n k :=
  pn_ind (p := fun n => ∀ {m k : PN}, KeepsP n m → KeepsP m k → KeepsP n k) (fun n ih m k h1 h2 => by
    obtain ⟨a1, a2, a3⟩ := h1.parts
    obtain ⟨b1, b2, b3⟩ := h2.parts
    refine KeepsP.of (fun s h => b1 s (a1 s h)) (Nat.le_trans a2 b2) (fun i h h' => ?_)
    have hm : i < m.kids.length := by omega
    exact ⟨(b3 i hm h').1.trans (a3 i h hm).1, ih _ (List.getElem_mem h) (a3 i h hm).2 (b3 i hm h').2⟩)
def KeepsL (l l' : List PN) : Prop := l.length ≤ l'.length ∧ ∀ i (h : i < l.length) (h' : i < l'.length), l'[i].name = l[i].name ∧ KeepsP l[i] l'[i]
theorem KeepsL.refl (l : List PN) : KeepsL l l := ⟨Nat.le_refl _, fun i h _ => ⟨rfl, KeepsP.refl _⟩⟩
theorem KeepsL.trans {l m k : List PN} (h1 : KeepsL l m) (h2 : KeepsL m k) : KeepsL l k := ⟨Nat.le_trans h1.1 h2.1, fun i h h' => by
  have hm : i < m.length := Nat.lt_of_lt_of_le h h1.1
  exact ⟨(h2.2 i hm h').1.trans (h1.2 i h hm).1, KeepsP.trans _ (h1.2 i h hm).2 (h2.2 i hm h').2⟩⟩
theorem putP_keeps (p : ByteArray × List Int) (s : ByteArray) : ∀ l : List (ByteArray × List Int), s ∈ l.map Prod.fst → s ∈ (putP l p).map Prod.fst
  | [], h => absurd h (by simp)
  | x :: l, h => by
    rw [putP]
    by_cases hx : x.1 = p.1
    · rw [if_pos hx]
      rw [List.map_cons, List.mem_cons] at h ⊢
      rcases h with h | h
      · exact .inl (h.trans hx)
      · exact .inr h
    · rw [if_neg hx]
      rw [List.map_cons, List.mem_cons] at h ⊢
      rcases h with h | h
      · exact .inl h
      · exact .inr (putP_keeps p s l h)
theorem putPs_keeps (s : ByteArray) : ∀ (ps l : List (ByteArray × List Int)), s ∈ l.map Prod.fst → s ∈ (ps.foldl putP l).map Prod.fst
  | [], l, h => h
  | p :: ps, l, h => putPs_keeps s ps _ (putP_keeps p s l h)
theorem updK_keeps {f : PN → PN} (hf : ∀ x, (f x).name = x.name ∧ KeepsP x (f x)) (k : PN) : ∀ l : List PN, KeepsL l (updK f k l)
  | [] => ⟨Nat.zero_le _, fun i h => absurd h (by simp)⟩
  | x :: l => by
    rw [updK]
    by_cases hx : x.name = k.name
    · rw [if_pos hx]
      refine ⟨Nat.le_refl _, fun i h h' => ?_⟩
      rcases i with _ | i
      · exact hf x
      · exact ⟨rfl, KeepsP.refl _⟩
    · rw [if_neg hx]
      have ih := updK_keeps hf k l
      refine ⟨Nat.succ_le_succ ih.1, fun i h h' => ?_⟩
      rcases i with _ | i
      · exact ⟨rfl, KeepsP.refl _⟩
      · exact ih.2 i (by simpa using h) (by simpa using h')
mutual
/-- A node laid over another one leaves all that was there. -/
theorem merge_keeps : ∀ (b a : PN), (mergeN b a).name = a.name ∧ KeepsP a (mergeN b a)
  | .mk n ps ks, a => by
    have h := mergeL_keeps ks a.kids
    refine ⟨by rw [mergeN]; rfl, KeepsP.of (fun s hs => ?_) ?_ (fun i h1 h2 => ?_)⟩
    · rw [mergeN]; exact putPs_keeps s ps a.props hs
    · rw [mergeN]; exact h.1
    · have e : (mergeN (.mk n ps ks) a).kids = mergeL ks a.kids := by rw [mergeN]; rfl
      have h2' : i < (mergeL ks a.kids).length := by rw [← e]; exact h2
      have := h.2 i h1 h2'
      simp only [e]
      exact this
theorem mergeL_keeps : ∀ (ks l : List PN), KeepsL l (mergeL ks l)
  | [], l => by rw [mergeL]; exact KeepsL.refl l
  | k :: r, l => by
    rw [mergeL]
    exact (updK_keeps (fun x => merge_keeps k x) k l).trans (mergeL_keeps r _)
end
/-- Another node at a place. -/
def putAt : List Nat → PN → PN → PN
  | [], _, x => x
  | i :: p, n, x => match n.kids[i]? with
    | none => n
    | some k => .mk n.name n.props (n.kids.set i (putAt p k x))
def atP : List Nat → PN → Option PN
  | [], n => some n
  | i :: p, n => match n.kids[i]? with
    | none => none
    | some k => atP p k
theorem putAt_name : ∀ (p : List Nat) (n y x : PN), atP p n = some y → x.name = y.name → (putAt p n x).name = n.name
  | [], n, y, x, h, e => by rw [atP] at h; rw [putAt, e, ← Option.some.inj h]
  | i :: p, n, y, x, h, e => by
    rw [putAt]
    split
    · rfl
    · rfl
theorem putAt_keeps : ∀ (p : List Nat) (n y x : PN), atP p n = some y → x.name = y.name → KeepsP y x → KeepsP n (putAt p n x)
  | [], n, y, x, h, e, hk => by rw [atP] at h; rw [putAt, Option.some.inj h]; exact hk
  | i :: p, n, y, x, h, e, hk => by
    rw [atP] at h
    rw [putAt]
    split at h
    · cases h
    · rename_i k hi
      have ih := putAt_keeps p k y x h e hk
      obtain ⟨hlt, hik⟩ := List.getElem?_eq_some_iff.1 hi
      refine KeepsP.of (fun _ h => h) (by show n.kids.length ≤ (n.kids.set i _).length; rw [List.length_set]; exact Nat.le_refl _) (fun j h1 h2 => ?_)
      have key : ∀ h3 : j < (n.kids.set i (putAt p k x)).length, ((n.kids.set i (putAt p k x))[j]'h3).name = n.kids[j].name ∧ KeepsP n.kids[j] ((n.kids.set i (putAt p k x))[j]'h3) := fun h3 => by
        rw [List.getElem_set]
        split
        · rename_i e2
          subst e2
          rw [hik]
          exact ⟨putAt_name p k y x h e, ih⟩
        · exact ⟨rfl, KeepsP.refl _⟩
      exact key h2
theorem mem_idx {l : List ByteArray} {s : ByteArray} : 0 ≤ idxOf l s ↔ s ∈ l := by
  induction l with
  | nil => simp [idxOf]
  | cons x l ih =>
    rw [idxOf, List.mem_cons]
    by_cases hx : x = s
    · simp [hx]
    · rw [if_neg hx]
      by_cases h : idxOf l s < 0
      · rw [if_pos h]
        constructor
        · intro h1; omega
        · rintro (h1 | h1)
          · exact absurd h1.symm hx
          · have := ih.2 h1; omega
      · rw [if_neg h]
        constructor
        · intro _; exact .inr (ih.1 (by omega))
        · intro _; omega
theorem pure_kids (n : Nd) : (pureN n).kids = n.kids.map pureN := by rw [pureN_mk]; rfl
theorem pure_props (n : Nd) : (pureN n).props.map Prod.fst = n.props.map PV.name := by
  rw [pureN_mk]
  show (n.props.map PV.pure).map Prod.fst = _
  rw [List.map_map]; rfl
theorem pure_name (n : Nd) : (pureN n).name = n.name := by rw [pureN_mk]; rfl
/-- In memory likewise. -/
theorem keeps_of : ∀ (p : List Nat) (n m x : Nd), KeepsP (pureN n) (pureN m) → nodeAt n p = some x → ∃ y, nodeAt m p = some y ∧ namesAt m p = namesAt n p ∧ ∀ s, 0 ≤ idxOf (x.props.map PV.name) s → 0 ≤ idxOf (y.props.map PV.name) s
  | [], n, m, x, h, e => by
    rw [nodeAt] at e
    obtain rfl := Option.some.inj e
    refine ⟨m, rfl, rfl, fun s hs => ?_⟩
    rw [mem_idx] at hs ⊢
    have := h.parts.1 s
    rw [pure_props, pure_props] at this
    exact this hs
  | i :: p, n, m, x, h, e => by
    obtain ⟨hi, e2⟩ := nodeAt_some e
    obtain ⟨_, hl, hk⟩ := h.parts
    rw [pure_kids, pure_kids, List.length_map, List.length_map] at hl
    have hm : i < m.kids.length := by omega
    have h3 := hk i (by rw [pure_kids, List.length_map]; exact hi) (by rw [pure_kids, List.length_map]; exact hm)
    simp only [pure_kids, List.getElem_map, pure_name] at h3
    obtain ⟨y, y1, y2, y3⟩ := keeps_of p _ _ x h3.2 e2
    refine ⟨y, by rw [nodeAt_cons hm]; exact y1, ?_, y3⟩
    rw [namesAt_cons hm, namesAt_cons hi, y2, h3.1]
theorem keepsOf {n m : Nd} (h : KeepsP (pureN n) (pureN m)) : Keeps n m := fun p x e => keeps_of p n m x h e
end Go.Proofs.YtihlpcbebpnmkaaGreatDoor

/-! Layer 7: the program's Text and Texts; bytes.HasSuffix and bytes.Count at a nought. -/
namespace Go.Proofs.YtihlpcbebpnmkaaGreatDoor
open Go.RowKit
set_option linter.unusedVariables false
set_option maxRecDepth 20000
set_option linter.unusedSimpArgs false

theorem proptext_any (A : Option Addr) (n c : Nat) (zs : List Int) (w : World) (hs : Shows w w.heap.size A n zs) (hn : n ≤ 134217728) (hnc : n ≤ c) (hc : c ≤ 9223372036854775807) :
    Calls Tryz.prog 48 #[.slice A n c] w fun e w' => e = .returned (.tuple #[.string (textS zs), .int .i64 (textE zs)]) ∧ Below w.heap.size w w' := by
  have hl := hs.1
  have HV : Hid (textV zs = match textFrom zs 0 with | none => none | some s => if s.length + 1 = zs.length then some s else none) := Lib.hid rfl
  obtain ⟨o, ho⟩ : ∃ o, textFrom zs 0 = o := ⟨_, rfl⟩
  have C := text_any A n c 0 0 rfl zs w _ hs (by omega) hnc o ho
  rw [ho] at HV
  have HO := Lib.hid ho
  have HL := Lib.hid hl
  have HB := Lib.hid (Below.refl w.heap.size w)
  clear hs hl ho
  rcases o with _ | s
  · have HC := Lib.hid (show Calls _ _ _ w fun e w' => e = .returned (.tuple #[.string ByteArray.empty, .bool false]) ∧ w = w' from C)
    clear C
    go_enter Tryz.func48, Tryz.ntmps48
    go_wp2_with fail
    refine HC.out.mono ?_
    rintro e w2 ⟨rfl, rfl⟩
    go_wp2
    go_ret2
    exact ⟨by rw [textS, textE, HV.out]; rfl, HB.out⟩
  · have HC := Lib.hid (show Calls _ _ _ w fun e w' => e = .returned (.tuple #[.string (strOfNums s), .bool true]) ∧ w = w' from C)
    obtain ⟨x, hx⟩ : ∃ x, strOfNums s = x := ⟨_, rfl⟩
    have hsz : x.size = s.length := by rw [← hx]; exact strOf_size6 s
    have HX := Lib.hid hx
    have hb := textFrom_len HO.out
    rw [hx] at HC
    obtain ⟨m, hm⟩ : ∃ m, x.size = m := ⟨_, rfl⟩
    have HM := Lib.hid (hm.symm.trans hsz)
    have hm5 : m ≤ 134217728 := by have := HM.out; have := HL.out; omega
    clear C hx hsz hb
    by_cases he : m + 1 = n
    · have k1 : ((m : Int) + 1 != (n : Int)) = false := by rw [bne_eq_false_iff_eq]; omega
      have HE : Hid (textV zs = some s) := Lib.hid (by rw [HV.out]; exact if_pos (by rw [HL.out, ← HM.out]; exact he))
      clear he
      go_enter Tryz.func48, Tryz.ntmps48
      go_wp2_with fail
      refine HC.out.mono ?_
      rintro e w2 ⟨rfl, rfl⟩
      go_wp2
      go_ret2
      exact ⟨by rw [textS, textE, HE.out, ← HX.out]; rfl, HB.out⟩
    · have k1 : ((m : Int) + 1 != (n : Int)) = true := by rw [bne_iff_ne]; omega
      have HE : Hid (textV zs = none) := Lib.hid (by rw [HV.out]; exact if_neg (by rw [HL.out, ← HM.out]; exact he))
      clear he
      go_enter Tryz.func48, Tryz.ntmps48
      go_wp2_with fail
      refine HC.out.mono ?_
      rintro e w2 ⟨rfl, rfl⟩
      go_wp2
      go_ret2
      exact ⟨by rw [textS, textE, HE.out]; rfl, HB.out⟩
theorem textOK : TextOK := fun A n c zs w hs hn hnc hc => proptext_any A n c zs w hs (by omega) hnc hc

/-! ### How many texts there are: how many noughts -/
def noughts (zs : List Int) : Nat := zs.countP fun z => decide (z = 0)
/-- As many texts are read from a place on as there are noughts behind it, if the last byte is one. -/
theorem texts_count {zs : List Int} (h0 : zs.getD (zs.length - 1) 0 = 0) : ∀ (f a : Nat), zs.length - a ≤ f → (textsGo zs f a).length = noughts (zs.drop a)
  | 0, a, h => by rw [List.drop_of_length_le (by omega)]; rfl
  | f + 1, a, h => by
    rw [textsGo]
    by_cases ha : a < zs.length
    · obtain ⟨s, hs⟩ := text_there h0 ha
      rw [if_pos ha, hs]
      have hl := textFrom_len hs
      show (textsGo zs f (a + s.length + 1)).length + 1 = _
      rw [texts_count h0 f (a + s.length + 1) (by omega)]
      unfold textFrom at hs
      split at hs
      · rename_i hm
        simp only [Option.some.injEq] at hs
        have e : zs.drop a = s ++ zs.drop (a + s.length) := by
          have hp : s <+: zs.drop a := by rw [← hs]; exact List.takeWhile_prefix _
          obtain ⟨t, ht⟩ := hp
          rw [← List.drop_drop, ← ht, List.drop_left]
        have hat : zs.getD (a + s.length) 0 = 0 := by
          have h1 : (zs.drop a).dropWhile (fun z => decide (z ≠ 0)) = zs.drop (a + s.length) := by
            have := List.takeWhile_append_dropWhile (p := fun z : Int => decide (z ≠ 0)) (l := zs.drop a)
            rw [hs] at this
            exact List.append_cancel_left (this.trans e)
          have h2 := List.head?_dropWhile_not (fun z : Int => decide (z ≠ 0)) (zs.drop a)
          rw [h1] at h2
          rw [List.head?_drop] at h2
          rcases hg : zs[a + s.length]? with _ | z
          · simp [List.getD, hg]
          · rw [hg] at h2
            simp [List.getD, hg]
            simpa using h2
        have hn0 : noughts s = 0 := by
          unfold noughts
          rw [List.countP_eq_zero]
          intro z hz
          rw [← hs] at hz
          have := List.all_takeWhile (p := fun z : Int => decide (z ≠ 0)) (l := zs.drop a)
          rw [List.all_eq_true] at this
          simpa using this z hz
        rw [e]
        have e2 : zs.drop (a + s.length) = 0 :: zs.drop (a + s.length + 1) := by
          rw [List.drop_eq_getElem_cons (by omega)]
          congr 1
          simpa [List.getD, List.getElem?_eq_getElem (show a + s.length < zs.length by omega)] using hat
        rw [e2]
        unfold noughts at hn0 ⊢
        rw [List.countP_append, hn0, List.countP_cons]
        simp
      · cases hs
    · rw [if_neg ha, List.drop_of_length_le (by omega)]; rfl
theorem texts_all {zs : List Int} (h0 : zs.getD (zs.length - 1) 0 = 0) : (textsGo zs zs.length 0).length = noughts zs := by
  have := texts_count h0 zs.length 0 (by omega)
  simpa using this
theorem countByte_noughts (zs : List Int) (hz : ∀ z ∈ zs, 0 ≤ z ∧ z < 256) : Lib.countByte (Lib.bytesOf zs) (0 : Int).toNat.toUInt8 = noughts zs := by
  unfold Lib.countByte Lib.bytesOf noughts
  rw [List.count, List.countP_map]
  refine List.countP_congr fun z hm => ?_
  have := byte_eq_zero z (hz z hm)
  simp only [Function.comp, beq_iff_eq, decide_eq_true_eq]
  exact this

/-- bytes.Count of a nought. -/
theorem bcount_any (A : Option Addr) (n c g d : Nat) (zs : List Int) (w : World) (B : Nat) (hs : Shows w B A n zs) (hc : n ≤ c) (hn : n ≤ 140737488351232) (h2 : w.cell? ⟨g, 0, none⟩ = some (.int .u8 0)) (k : Nat) (hk : noughts zs = k) :
    Calls Tryz.prog 90 #[.slice A n c, .slice (some ⟨g, 0, none⟩) 1 d] w fun e w' => e = .returned (.int .i64 (k : Int)) ∧ w' = w := by
  rcases Nat.eq_zero_or_pos n with h0 | h0
  · subst h0
    obtain rfl : zs = [] := List.eq_nil_of_length_eq_zero hs.1
    obtain rfl : k = 0 := hk.symm
    rcases A with _ | ⟨b, o, s⟩
    · go_enter Tryz.func90, Tryz.ntmps90
      go_wp2
      rw [run_callFunc_extern Tryz.func111 (by kernel_rfl) (by kernel_rfl) (by kernel_rfl) (e := Extern.BytealgCount.count) (by kernel_rfl), Lib.run_countNil w 0 c 0]
      simp only [Result.andThen]
      rw [Oper.upon_value]
      go_wp2
      go_ret
      exact ⟨rfl, rfl⟩
    · exact Go.Proofs.Tryz.bytes_Count_one_at ⟨b, o, s⟩ 0 c g 0 d [] 0 w rfl (fun i hi => absurd hi (Nat.not_lt_zero _)) h2
  · obtain ⟨b, o, rfl, _, hcell⟩ := hs.at_ h0
    have := Go.Proofs.Tryz.bytes_Count_one b o n c g 0 d zs 0 w hs.1 hcell h2
    rw [countByte_noughts zs hs.2.1, hk] at this
    exact this

theorem suffix_nought (zs : List Int) (n : Nat) (hl : zs.length = n) (h0 : 0 < n) (hz : ∀ z ∈ zs, 0 ≤ z ∧ z < 256) : Lib.hasSuffix (Lib.bytesOf zs) (Lib.bytesOf [0]) = decide (zs.getD (n - 1) 0 = 0) := by
  subst hl
  obtain ⟨l, z, rfl⟩ : ∃ l z, zs = l ++ [z] := ⟨zs.dropLast, zs.getLast (List.ne_nil_of_length_pos h0), (List.dropLast_concat_getLast _).symm⟩
  have h := byte_eq_zero z (hz z (by simp))
  have e : (l ++ [z]).getD ((l ++ [z]).length - 1) 0 = z := by simp [List.getD]
  rw [e, Bool.eq_iff_iff, decide_eq_true_iff, ← h]
  unfold Lib.hasSuffix Lib.bytesOf
  rw [List.isSuffixOf_iff_suffix, List.map_append]
  simp only [List.map_cons, List.map_nil]
  constructor
  · rintro ⟨t, ht⟩
    have := List.append_inj_right' ht rfl
    simpa using this.symm
  · intro e
    exact ⟨_, by rw [e]⟩

/-- bytes.HasSuffix of a nought. -/
theorem hassuf_any (A : Option Addr) (n c g d : Nat) (zs : List Int) (w : World) (B : Nat) (hs : Shows w B A n zs) (h0 : 0 < n) (hnc : n ≤ c) (hn : n ≤ 9223372036854775807) (h2 : w.cell? ⟨g, 0, none⟩ = some (.int .u8 0)) (r : Bool) (hr : decide (zs.getD (n - 1) 0 = 0) = r) :
    Calls Tryz.prog 89 #[.slice A n c, .slice (some ⟨g, 0, none⟩) 1 d] w fun e w' => e = .returned (.bool r) ∧ w' = w := by
  obtain ⟨b, o, rfl, _, hcell⟩ := hs.at_ h0
  have := Go.Proofs.Tryz.bytes_HasSuffix_all (some ⟨b, o, none⟩) (some ⟨g, 0, none⟩) n c 1 d zs [0] w hs.1 rfl hnc hn (Lib.BytesIn.of_cells fun i hi => by
    rw [addr_add]; exact hcell i hi) (Lib.BytesIn.of_cells fun i hi => by
    obtain rfl : i = 0 := by omega
    rw [addr_add]; exact h2)
  rw [suffix_nought zs n hs.1 h0 hs.2.1, hr] at this
  exact this

theorem make_strs (k : Nat) (hk : k ≤ 1099511627776) (w : World) :
    (Instr.makeSlice 57 (.int .i64 (k : Int)) (.int .i64 (k : Int))).run Tryz.prog w = .ok (.slice (some ⟨w.heap.size, 0, none⟩) k k) (w.alloc (.cells (madeCells #[.string ⟨#[]⟩] k) 9)) :=
  run_make_row' (P := Tryz.prog) 57 9 (.string ⟨#[]⟩) 16 Tryz.underlying57 info_str rfl .i64 .i64 k (by omega) (by omega) w

/-- How the texts go on: the k-th one begins at a, and is this. -/
theorem texts_next {zs : List Int} (h0 : zs.getD (zs.length - 1) 0 = 0) {m f a k : Nat} {xs : List (List Int)} (hx : xs ++ textsGo zs f a = textsGo zs zs.length 0) (hk : xs.length = k) (hf : zs.length - a ≤ f) (hm : (textsGo zs zs.length 0).length = m) (hlt : k < m) :
    ∃ s f', textFrom zs a = some s ∧ a + s.length + 1 ≤ zs.length ∧ f = f' + 1 ∧ (xs ++ [s]) ++ textsGo zs f' (a + s.length + 1) = textsGo zs zs.length 0 ∧ (textsGo zs zs.length 0)[k]? = some s := by
  have hl : (textsGo zs f a).length = m - k := by
    have := congrArg List.length hx
    rw [List.length_append, hm, hk] at this
    omega
  obtain ⟨f', rfl⟩ : ∃ f', f = f' + 1 := by
    rcases f with _ | f'
    · rw [textsGo] at hl; simp at hl; omega
    · exact ⟨f', rfl⟩
  by_cases ha : a < zs.length
  · obtain ⟨s, hs⟩ := text_there h0 ha
    have hlen := textFrom_len hs
    have e : textsGo zs (f' + 1) a = s :: textsGo zs f' (a + s.length + 1) := by rw [textsGo, if_pos ha, hs]
    refine ⟨s, f', hs, by omega, rfl, ?_, ?_⟩
    · rw [← hx, e, List.append_assoc]; rfl
    · rw [← hx, e, List.getElem?_append_right (by omega), hk, Nat.sub_self]; rfl
  · rw [textsGo, if_neg ha] at hl; simp at hl; omega

set_option maxRecDepth 20000 in
set_option maxHeartbeats 4000000 in
theorem proptexts_any (A : Option Addr) (n c : Nat) (zs : List Int) (w : World) (hs : Shows w w.heap.size A n zs) (hn : n ≤ 134217728) (hnc : n ≤ c) (hc : c ≤ 9223372036854775807) :
    Calls Tryz.prog 64 #[.slice A n c] w fun e w' => RowOut w' (strs6 (txtsL zs)) (txtsE zs) e ∧ Below w.heap.size w w' := by
  have HS := Lib.hid hs
  have HC := Lib.hid (And.intro hnc hc)
  have HL := Lib.hid hs.1
  have HB0 := Lib.hid ((Below.refl w.heap.size w).alloc (Nat.le_refl _) (.cells #[.int .u8 0] 5 (1, 2)))
  have HC0 : Hid ((w.alloc (.cells #[.int .u8 0] 5 (1, 2))).cell? ⟨w.heap.size, 0, none⟩ = some (.int .u8 0)) := Lib.hid (World.cell?_alloc_mark _ _ _ _ _)
  have kc := fun (w : World) (C : Array Value) (n c : Nat) => Lib.run_convert_bytes_const (P := Tryz.prog) w 59 5 C n c Tryz.underlying59 Tryz.underlying5
  by_cases hbad : 0 < n ∧ zs.getD (n - 1) 0 ≠ 0
  · obtain ⟨h0, hlast⟩ := hbad
    have HE : Hid (textsV zs = none) := Lib.hid (by rw [textsV, HL.out]; exact if_pos ⟨h0, hlast⟩)
    have C := Lib.hid (hassuf_any A n c w.heap.size 1 zs _ _ (HS.out.below HB0.out) h0 hnc (by omega) HC0.out false (decide_eq_false hlast))
    have k0 : decide ((0 : Int) < (n : Int)) = true := decide_eq_true (by omega)
    have k1 : (0 : Int) < (n : Int) := by omega
    clear hs hlast h0
    go_enter Tryz.func64, Tryz.ntmps64
    go_wp2_with fail
    refine C.out.mono ?_
    rintro e w2 ⟨rfl, rfl⟩
    go_wp2
    go_ret2
    exact ⟨by rw [txtsL, txtsE, HE.out]; exact rowOut_nil rfl, HB0.out⟩
  · have HT : Hid (textsV zs = some (textsGo zs n 0)) := Lib.hid (by rw [textsV, HL.out]; exact if_neg hbad)
    have hz0 : zs.getD (n - 1) 0 = 0 := by
      rcases Nat.eq_zero_or_pos n with h | h
      · subst h
        rw [List.eq_nil_of_length_eq_zero HL.out]; rfl
      · exact Classical.byContradiction fun h' => hbad ⟨h, h'⟩
    obtain ⟨m, hm⟩ : ∃ m, (textsGo zs n 0).length = m := ⟨_, rfl⟩
    have hcnt : noughts zs = m := by
      have := texts_all (zs := zs) (by rw [HL.out]; exact hz0)
      rw [HL.out] at this
      omega
    have hmn : m ≤ n := by
      have := List.countP_le_length (p := fun z : Int => decide (z = 0)) (l := zs)
      unfold noughts at hcnt
      have := HL.out
      omega
    have HE : Hid (txtsE zs = 0) := Lib.hid (by rw [txtsE, HT.out])
    have HU : Hid (txtsL zs = (textsGo zs n 0).map strOfNums) := Lib.hid (by rw [txtsL, HT.out])
    have HUL : Hid ((strs6 (txtsL zs)).length = m) := Lib.hid (by rw [List.length_map, HU.out, List.length_map, hm])
    have HM := make_strs m (by omega)
    have HZ := Lib.hid hz0
    have HMM := Lib.hid hm
    have hm9 : m ≤ 134217728 := by omega
    generalize hUU : strs6 (txtsL zs) = U at HUL
    have HUU := Lib.hid hUU
    rcases Nat.eq_zero_or_pos n with h0 | h0
    · subst h0
      obtain rfl : m = 0 := by omega
      have C := Lib.hid (bcount_any A 0 c w.heap.size 1 zs _ _ (HS.out.below HB0.out) (Nat.zero_le _) (by omega) HC0.out 0 hcnt)
      obtain rfl : U = [] := List.eq_nil_of_length_eq_zero HUL.out
      have HB1 := Lib.hid (HB0.out.alloc HB0.out.size (.cells (madeCells #[.string ⟨#[]⟩] 0) 9))
      replace HM : ∀ w, (Instr.makeSlice 57 (.int .i64 0) (.int .i64 0)).run Tryz.prog w = .ok (.slice (some ⟨w.heap.size, 0, none⟩) 0 0) (w.alloc (.cells (madeCells #[.string ⟨#[]⟩] 0) 9)) := HM
      clear hs hbad hz0 hm hcnt hmn hUU hnc hn
      go_enter Tryz.func64, Tryz.ntmps64
      go_wp2_with fail
      refine C.out.mono ?_
      rintro e w2 ⟨rfl, rfl⟩
      go_wp2_with fail
      go_loopw [24] (fun i wr => i = .int .i64 0 ∧ Below w.heap.size w wr) (fun _ _ => 0)
      case atStart => exact ⟨rfl, HB1.out⟩
      case round =>
        obtain ⟨rfl, hb⟩ := hrel
        have HB := Lib.hid hb
        clear hb
        go_wp2
        go_ret2
        refine ⟨?_, HB.out⟩
        rw [HE.out]
        exact ⟨_, 0, rfl, Cel.nil _ _ _, Nat.le_refl _, by omega⟩
    · have C := Lib.hid (hassuf_any A n c w.heap.size 1 zs _ _ (HS.out.below HB0.out) h0 hnc (by omega) HC0.out true (decide_eq_true hz0))
      have k0 : decide ((0 : Int) < (n : Int)) = true := decide_eq_true (by omega)
      have k1 : (0 : Int) < (n : Int) := by omega
      have HB1 := Lib.hid (HB0.out.alloc HB0.out.size (.cells #[.int .u8 0] 5 (1, 2)))
      have HC1 : Hid (((w.alloc (.cells #[.int .u8 0] 5 (1, 2))).alloc (.cells #[.int .u8 0] 5 (1, 2))).cell? ⟨w.heap.size + 1, 0, none⟩ = some (.int .u8 0)) := Lib.hid (Joins.cell_alloc_mark_at _ _ _ _ _ _ (by simp))
      have C1 := Lib.hid (bcount_any A n c (w.heap.size + 1) 1 zs _ _ (HS.out.below HB1.out) hnc (by omega) HC1.out m hcnt)
      have kc2 := fun n c => Joins.run_convert_bytes_const_at (P := Tryz.prog) (w.alloc (.cells #[.int .u8 0] 5 (1, 2))) 59 5 #[.int .u8 0] n c (w.heap.size + 1) (by simp) Tryz.underlying59 Tryz.underlying5
      obtain ⟨g, hg⟩ : ∃ g, g = w.heap.size + 1 + 1 := ⟨_, rfl⟩
      have HB2 := Lib.hid (HB1.out.alloc HB1.out.size (.cells (madeCells #[.string ⟨#[]⟩] m) 9))
      have HVR : Hid (VRow (((w.alloc (.cells #[.int .u8 0] 5 (1, 2))).alloc (.cells #[.int .u8 0] 5 (1, 2))).alloc (.cells (madeCells #[.string ⟨#[]⟩] m) 9)) g 9 (partV U (.string ⟨#[]⟩) m 0)) := Lib.hid (by
        rw [partV_none, hg]
        have := made_vrow ((w.alloc (.cells #[.int .u8 0] 5 (1, 2))).alloc (.cells #[.int .u8 0] 5 (1, 2))) (.string ⟨#[]⟩) m 9
        simpa using this)
      have HUAT : Hid (∀ k s, (textsGo zs n 0)[k]? = some s → U[k]? = some (Value.string (strOfNums s))) := Lib.hid (fun k s h => by
        rw [← hUU, strs6, HU.out, List.map_map, List.getElem?_map, h]; rfl)
      have HN := Lib.hid (And.intro h0 hn)
      have hgw : w.heap.size ≤ g := by omega
      clear hs hbad hz0 hm hcnt hnc hn h0 hUU
      go_enter Tryz.func64, Tryz.ntmps64
      go_wp2_with fail
      refine C.out.mono ?_
      rintro e w2 ⟨rfl, rfl⟩
      go_wp2_with fail
      refine C1.out.mono ?_
      rintro e w2 ⟨rfl, rfl⟩
      go_wp2_with fail
      rw [← hg]
      clear hg
      go_loopw [5, 24] (fun at_ i wr => ∃ (k a f : Nat) (xs : List (List Int)), k ≤ m ∧ a ≤ n ∧ i = .int .i64 k ∧ at_ = .int .i64 a ∧ Hid (xs ++ textsGo zs f a = textsGo zs n 0 ∧ xs.length = k ∧ n - a ≤ f) ∧ VRow wr g 9 (partV U (.string ⟨#[]⟩) m k) ∧ Below w.heap.size w wr) (fun _ i _ => m - (intOf i).toNat)
      case atStart => exact ⟨0, 0, n, [], Nat.zero_le _, Nat.zero_le _, rfl, rfl, Lib.hid ⟨rfl, rfl, by omega⟩, HVR.out, HB2.out⟩
      case round =>
        obtain ⟨k, a, f, xs, hk, ha, rfl, rfl, HX, hrow, hb⟩ := hrel
        have HB := Lib.hid hb
        have HR := Lib.hid hrow
        by_cases hlt : k < m
        · have hnext := texts_next (zs := zs) (f := f) (a := a) (k := k) (xs := xs) (m := m) (by rw [HL.out]; exact HZ.out) (by rw [HL.out]; exact HX.out.1) HX.out.2.1 (by rw [HL.out]; exact HX.out.2.2) (by rw [HL.out]; exact HMM.out) hlt
          obtain ⟨s, f', hs, hle, rfl, hxs, hat⟩ := hnext
          rw [HL.out] at hle hxs hat
          have CT := fun q hq => text_any A n c a q hq zs wr w.heap.size (HS.out.below hb) HN.out.2 HC.out.1 (some s) hs
          obtain ⟨x, hx⟩ : ∃ x, strOfNums s = x := ⟨_, rfl⟩
          obtain ⟨l, hl⟩ : ∃ l, x.size = l := ⟨_, rfl⟩
          have hsl : s.length = l := by rw [← hl, ← hx]; exact (strOf_size6 s).symm
          have HCT : Hid (∀ q : Int, q = (a : Int) → Calls Tryz.prog 68 #[.slice A n c, .int .i64 q] wr fun e w' => e = .returned (.tuple #[.string x, .bool true]) ∧ wr = w') := Lib.hid (fun q hq => by rw [← hx]; exact CT q hq)
          rw [hsl] at hle hxs
          have huat := HUAT.out k s hat
          rw [hx] at huat
          have HSET : Hid ((partV U (.string ⟨#[]⟩) m k).set k (.string x) = partV U (.string ⟨#[]⟩) m (k + 1)) := Lib.hid (partV_set U _ m k hlt HUL.out _ huat)
          have hcell := hrow.at_ (partV_at U (.string ⟨#[]⟩) m k hlt HUL.out)
          have hfree := hrow.free k
          have HR2 := Lib.hid (hrow.set k (.string x))
          have hcell2 : (wr.setCell ⟨g, k, none⟩ (.string x)).cell? ⟨g, k, none⟩ = some (.string x) := by
            refine HR2.out.at_ ?_
            rw [HSET.out, partV]
            have : (U.take (k + 1)).length = k + 1 := by rw [List.length_take, HUL.out]; omega
            rw [List.getElem?_append_left (by omega), List.getElem?_take_of_lt (by omega)]
            exact huat
          have HB2 := Lib.hid (hb.setCell (p := ⟨g, k, none⟩) hgw (.string x))
          have HNX := Lib.hid (show (xs ++ [s]) ++ textsGo zs f' (a + l + 1) = textsGo zs n 0 ∧ (xs ++ [s]).length = k + 1 ∧ n - (a + l + 1) ≤ f' from ⟨hxs, by rw [List.length_append, HX.out.2.1]; rfl, by have := HX.out.2.2; omega⟩)
          have hle2 : a + l + 1 ≤ 134217728 := by have := HN.out.2; omega
          clear hx hsl hxs hat huat CT hs hrow hb
          go_wp2_with fail
          refine (HCT.out _ rfl).mono ?_
          rintro e w1 ⟨rfl, rfl⟩
          go_wp2
          go_roundw
          case rel => exact ⟨k + 1, a + l + 1, f', xs ++ [s], by omega, by omega, by go_num, by go_num, HNX, by rw [← HSET.out]; exact HR2.out, HB2.out⟩
          case measure => simp [intOf]; omega
        · obtain rfl : k = m := by omega
          have HV : Hid (VRow wr g 9 U) := Lib.hid (by have := HR.out; rw [partV_all _ _ _ HUL.out] at this; exact this)
          clear hrow hb
          go_wp2
          go_ret2
          refine ⟨?_, HB.out⟩
          rw [HE.out]
          exact rowOut_vrow HV.out HUL.out (Nat.le_refl _) (by omega) rfl
theorem textsOK : TextsOK := fun A n c zs w hs hn hnc hc => proptexts_any A n c zs w hs (by omega) hnc hc
end Go.Proofs.YtihlpcbebpnmkaaGreatDoor

/-! Three new blocks, one behind the other; any node is laid over any other one. -/
namespace Go.Proofs.YtihlpcbebpnmkaaGreatDoor
open Go.RowKit
set_option linter.unusedVariables false
set_option linter.unusedSimpArgs false

theorem lay_all : ∀ b : Nd, LayOK b := Nd.ind (fun b ih => lay_of b (layKids_of b.kids ih))
theorem allocs3 (w : World) (o0 o1 o2 : Obj) : ((w.alloc o0).alloc o1).alloc o2 = ((w.alloc o0).alloc o1).alloc o2 ∧ (((w.alloc o0).alloc o1).alloc o2).heap.size = w.heap.size + 3 ∧ (((w.alloc o0).alloc o1).alloc o2).heap[w.heap.size]? = some o0 ∧ (((w.alloc o0).alloc o1).alloc o2).heap[w.heap.size + 1]? = some o1 ∧ (((w.alloc o0).alloc o1).alloc o2).heap[w.heap.size + 2]? = some o2 ∧ Below w.heap.size w (((w.alloc o0).alloc o1).alloc o2) := by
  obtain ⟨w1, h1⟩ : ∃ w1, w.alloc o0 = w1 := ⟨_, rfl⟩
  obtain ⟨w2, h2⟩ : ∃ w2, w1.alloc o1 = w2 := ⟨_, rfl⟩
  obtain ⟨w3, h3⟩ : ∃ w3, w2.alloc o2 = w3 := ⟨_, rfl⟩
  have z1 : w1.heap.size = w.heap.size + 1 := by rw [← h1]; simp
  have z2 : w2.heap.size = w.heap.size + 2 := by rw [← h2]; simp [z1]
  have z3 : w3.heap.size = w.heap.size + 3 := by rw [← h3]; simp [z2]
  have b1 : Below w.heap.size w w1 := by rw [← h1]; exact (Below.refl _ _).alloc (Nat.le_refl _) _
  have b2 : Below w1.heap.size w1 w2 := by rw [← h2]; exact (Below.refl _ _).alloc (Nat.le_refl _) _
  have b3 : Below w2.heap.size w2 w3 := by rw [← h3]; exact (Below.refl _ _).alloc (Nat.le_refl _) _
  have n1 : w1.heap[w.heap.size]? = some o0 := by rw [← h1]; exact heap_alloc_new _ _
  have n2 : w2.heap[w.heap.size + 1]? = some o1 := by rw [← z1, ← h2]; exact heap_alloc_new _ _
  have n3 : w3.heap[w.heap.size + 2]? = some o2 := by rw [← z2, ← h3]; exact heap_alloc_new _ _
  rw [h1, h2, h3]
  exact ⟨rfl, z3, (b3.block _ (by omega)).trans ((b2.block _ (by omega)).trans n1), (b3.block _ (by omega)).trans n2, n3, b1.trans ((b2.mono (by omega)).trans (b3.mono (by omega)))⟩

end Go.Proofs.YtihlpcbebpnmkaaGreatDoor
