/-
  Layer 8: the program's handles: the iterator over all handles has its contract.
-/
import Derived.Test.YtapfcbcojnplaaaRNodes
import Derived.Test.YtapfcbcojnplaaaBase4
import Derived.Test.YtapfcbcojnplaaaBase5
namespace Go.Proofs.Ytapfcbcojnplaaa
open Go.RowKit
set_option linter.unusedVariables false
set_option linter.unusedSimpArgs false
attribute [local go_sem] Oper.semAt_some

/-- The handle of the node at a place. -/
def hOf (root : Nd) (p : List Nat) : Option (Int × List Nat) :=
  match nodeAt root p with
  | some x => if (oneV x phName).2.1 = true then some ((oneV x phName).1, p) else none
  | none => none
/-- What comes: a place, and the handle of the node that stands there. -/
def EncH (W : World) (r : Int × List Nat) (args : Array Value) : Prop :=
  ∃ A c, args = #[.slice A r.2.length c, .int .u32 r.1] ∧ Cel W W.heap.size A r.2.length (ints r.2) ∧ r.2.length ≤ c ∧ c ≤ 9223372036854775807 ∧ 0 ≤ r.1 ∧ r.1 ≤ 4294967295
theorem hOf_at {root x : Nd} {p : List Nat} (h : nodeAt root p = some x) : hOf root p = if (oneV x phName).2.1 = true then some ((oneV x phName).1, p) else none := by
  unfold hOf
  rw [h]
theorem hand_snoc {root : Nd} {pre : List (List Nat)} {p : List Nat} : (pre ++ [p]).filterMap (hOf root) = pre.filterMap (hOf root) ++ (hOf root p).toList := by
  rw [List.filterMap_append]
  congr 1
theorem hand_prefix {root : Nd} {q es : List (List Nat)} (h : q <+: es) : q.filterMap (hOf root) <+: es.filterMap (hOf root) := by
  obtain ⟨t, rfl⟩ := h
  exact ⟨t.filterMap (hOf root), by rw [List.filterMap_append]⟩

set_option maxRecDepth 20000 in
set_option maxHeartbeats 2000000 in
theorem handles_any (t : Tr) (w : World) : Calls Try.prog 45 #[t.val] w fun e w' => e = .returned (.func (.func 49) #[] #[.pointer (some ⟨w.heap.size, 0, none⟩)]) ∧ w' = w.alloc (tbox t) := by
  obtain ⟨boot, ra, rc, rs, ⟨nm, pa, pc, ps, ka, kc, ks⟩⟩ := t
  simp only [tbox, Tr.val, Tr.rv, Nd.val, Nd.pv, Nd.kv, Nd.name, Nd.pa, Nd.pc, Nd.props, Nd.ka, Nd.kc, Nd.kids]
  refine (callsIn_wide (n := 0)).1 ?_
  refine callsIn_of_wp Try.func45 rfl trivial ?_ rfl
  simp only [Try.ntmps45, List.size_toArray, List.length_cons, List.length_nil, Nat.reduceAdd, Nat.reduceSub, Array.replicate_succ, Array.replicate_zero, List.push_toArray, List.append_toArray, List.nil_append, List.cons_append]
  gi_wp2
  go_ret
  exact ⟨rfl, rfl⟩

set_option maxRecDepth 20000 in
set_option maxHeartbeats 8000000 in
theorem handles_walks (t : Tr) (n k : Nat) (w : World) (hin : t.In w n) (hn : n ≤ w.heap.size) (hk : w.heap[k]? = some (tbox t)) (hh : heftN t.root ≤ 134217728) :
    Walks Try.prog 49 #[.pointer (some ⟨k, 0, none⟩)] n EncH ((placesN t.root []).filterMap (hOf t.root)) w := by
  intro l J Jx W hW hJ hJx hY h0
  have hkw : W.heap[k]? = some (tbox t) := (hW.block k (Array.getElem?_eq_some_iff.1 hk).1).trans hk
  have hnW : n ≤ W.heap.size := Nat.le_trans hn hW.size
  obtain ⟨Wa, hWa⟩ : ∃ Wa, Wa = W.alloc (.cells #[.func (.yield l) #[] #[]] 111) := ⟨_, rfl⟩
  have hsa : Wa.heap.size = W.heap.size + 1 := by rw [hWa]; simp
  have hal : Below W.heap.size W Wa := by rw [hWa]; exact (Below.refl _ W).alloc (Nat.le_refl _) _
  have hya : Wa.heap[W.heap.size]? = some (.cells #[.func (.yield l) #[] #[]] 111 (0, 0)) := by rw [hWa]; exact heap_alloc_new _ _
  obtain ⟨Wb, hWb⟩ : ∃ Wb, Wb = Wa.alloc (tbox t) := ⟨_, rfl⟩
  have hsb : Wb.heap.size = W.heap.size + 2 := by rw [hWb]; simp [hsa]
  have hab : Below Wa.heap.size Wa Wb := by rw [hWb]; exact (Below.refl _ Wa).alloc (Nat.le_refl _) _
  have hbb : Below W.heap.size W Wb := hal.trans (hab.mono (by omega))
  have hyb : Wb.heap[W.heap.size]? = some (.cells #[.func (.yield l) #[] #[]] 111 (0, 0)) := (hab.block _ (by omega)).trans hya
  have hbx : Wb.heap[W.heap.size + 1]? = some (tbox t) := by rw [hWb, ← hsa]; exact heap_alloc_new _ _
  have htb : Turn (fun _ => False) (fun j => False ∨ j = W.heap.size) W Wb := Turn.own hbb _ (by omega)
  have hinb : t.In Wb n := hin.under ((hW.mono hn).trans (hbb.mono hnW))
  have hNW := Lib.hid (nodes_walks t n (W.heap.size + 1) Wb hinb (by omega) hbx hh)
  have HNA : Hid (Calls Try.prog 48 #[t.val] Wa fun e w' => e = .returned (.func (.func 51) #[] #[.pointer (some ⟨W.heap.size + 1, 0, none⟩)]) ∧ w' = Wb) := Lib.hid (by have h := nodes_any t Wa; rw [hsa, ← hWb] at h; exact h)
  have HN := Lib.hid (show n ≤ Wb.heap.size by omega)
  have HNW := Lib.hid hnW
  have HSB := Lib.hid hsb
  have HYB := Lib.hid hyb
  have HBB := Lib.hid hbb
  have HUB := Lib.hid (htb.ups (B := W.heap.size) (fun k h => h.elim) (Nat.le_refl _))
  have HJB := Lib.hid (hJ _ _ _ _ _ h0 (Nat.le_refl _) (fun k h => h.elim) htb)
  have HY := Lib.hid hY
  have HJ := Lib.hid hJ
  have HJX := Lib.hid hJx
  have HH := Lib.hid hh
  obtain ⟨es, hes⟩ : ∃ es, placesN t.root [] = es := ⟨_, rfl⟩
  rw [hes] at hNW HY ⊢
  have HSA := Lib.hid hsa
  have d0 := Lib.cell?_alloc_some (.cells #[.func (.yield l) #[] #[]] 111) ((Lib.cell_of_heap hkw 0).trans rfl)
  have d1 := Lib.cell?_alloc_some (.cells #[.func (.yield l) #[] #[]] 111) ((Lib.cell_of_heap hkw 1).trans rfl)
  have d2 := Lib.cell?_alloc_some (.cells #[.func (.yield l) #[] #[]] 111) ((Lib.cell_of_heap hkw 2).trans rfl)
  have d3 := Lib.cell?_alloc_some (.cells #[.func (.yield l) #[] #[]] 111) ((Lib.cell_of_heap hkw 3).trans rfl)
  have d4 := Lib.cell?_alloc_some (.cells #[.func (.yield l) #[] #[]] 111) ((Lib.cell_of_heap hkw 4).trans rfl)
  have HRT : Hid (∃ R, R = t.root) := Lib.hid ⟨_, rfl⟩
  obtain ⟨R, hR⟩ := HRT.out
  rw [← hR] at hNW HY HH ⊢
  clear hWb hes hY hJ hJx hh hin hn hk hW h0 hal hya hab hbb hyb hbx htb hinb hnW hkw hsb HRT
  obtain ⟨boot, ra, rc, rs, ⟨nm, pa, pc, ps, ka, kc, ks⟩⟩ := t
  simp only [tbox, Tr.val, Tr.rv, Nd.val, Nd.pv, Nd.kv, Nd.name, Nd.pa, Nd.pc, Nd.props, Nd.ka, Nd.kc, Nd.kids] at HNA d0 d1 d2 d3 d4
  rw [hWa] at HNA
  clear hR
  refine (callsIn_wide (n := 0)).1 ?_
  refine callsIn_of_wp_marks Try.func49 rfl trivial ?_ rfl
  simp only [Try.ntmps49, List.size_toArray, List.length_cons, List.length_nil, Nat.reduceAdd, Nat.reduceSub, Array.replicate_succ, Array.replicate_zero, List.push_toArray, List.append_toArray, List.nil_append, List.cons_append]
  gi_wp2_with (refine ⟨trivial, rfl, (callsIn_wide.2 HNA.out).mono ?_⟩; rintro e W4 ⟨rfl, hW4⟩)

  clear hW4 HNA d0 d1 d2 d3 d4 W4
  refine rangeFunc_iter (gf := 51) (lb := #[.pointer (some ⟨W.heap.size + 1, 0, none⟩)]) rfl (enters_of Try.func51 (by kernel_rfl) rfl) hNW.out (Below.refl _ _) HN.out (fun Wx p args h => by obtain ⟨A, c, nd, rfl, _⟩ := h; rfl) W.heap.size HBB.out.size (fun j => False ∨ j = W.heap.size) HUB.out
    (fun M pre Wx => J M (pre.filterMap (hOf R)) Wx ∧ Wx.heap[W.heap.size]? = some (.cells #[.func (.yield l) #[] #[]] 111 (0, 0))) (fun c M pre Wx => c = .ret ∧ Jx M (pre.filterMap (hOf R)) Wx)
    (fun T T' s A C hs hB hT ht hst => ⟨HJ.out _ _ _ _ _ hs.1 hB hT ht, (hst _ (.inr rfl)).trans hs.2⟩) (fun c T T' s A C hs hB hT ht hst => ⟨hs.1, HJX.out _ _ _ _ _ hs.2 hB hT ht⟩) ⟨HJB.out, HYB.out⟩ ?round ?done ?stop
  case round =>
    rintro l2 M pre p args Wr hM hu hsz hbn ⟨hj, hyx⟩ ⟨A, c, nd, rfl, hat, hcel, hc1, hc2, hndin⟩ hpre
    have hWsz : W.heap.size ≤ Wr.heap.size := Nat.le_trans HBB.out.size hsz
    have hMy : M W.heap.size := hM _ (.inr rfl)
    have hout := hOf_at hat
    have hsn : (pre ++ [p]).filterMap (hOf R) = pre.filterMap (hOf R) ++ (hOf R p).toList := hand_snoc
    have hpx : (pre ++ [p]).filterMap (hOf R) <+: es.filterMap (hOf R) := hand_prefix hpre
    rw [hout] at hsn
    have hrg := oneV_range hndin phName
    obtain ⟨hv, fl, er, hov⟩ : ∃ hv fl er, oneV nd phName = (hv, fl, er) := ⟨_, _, _, rfl⟩
    rw [hov] at hsn hrg
    -- the node's box of this round
    obtain ⟨Wc, hWc⟩ : ∃ Wc, Wc = Wr.alloc (.cells #[.string nd.name, nd.pv, nd.kv] 27) := ⟨_, rfl⟩
    have hcs : Wc.heap.size = Wr.heap.size + 1 := by rw [hWc]; simp
    have hbc : Below Wr.heap.size Wr Wc := by rw [hWc]; exact (Below.refl _ _).alloc (Nat.le_refl _) _
    have hcn : Wc.heap[Wr.heap.size]? = some (.cells #[.string nd.name, nd.pv, nd.kv] 27 (0, 0)) := by rw [hWc]; exact heap_alloc_new _ _
    have huc : Ups W.heap.size M Wc := hu.more (by omega)
    have hjc : J M (pre.filterMap (hOf R)) Wc := HJ.out _ _ _ _ _ hj hWsz hu (Turn.of_below hbc)
    have hyc : Wc.heap[W.heap.size]? = some (.cells #[.func (.yield l) #[] #[]] 111 (0, 0)) := (hbc.block _ (hu _ hMy).2).trans hyx
    have hkc : Kp n M Wr Wc := Kp.of_below hbc (Nat.le_trans HNW.out hWsz) hu
    have HIC := Lib.hid (And.intro hjc hyc)
    have HKC := Lib.hid hkc
    have HMY := Lib.hid hMy
    have HSN := Lib.hid hsn
    have HPX := Lib.hid hpx
    have HRG := Lib.hid hrg
    have HUC := Lib.hid huc
    have HCS := Lib.hid hcs
    have HCN := Lib.hid hcn
    have HWS := Lib.hid hWsz
    have HC12 := Lib.hid (And.intro hc1 hc2)
    have HCEL := Lib.hid ((hcel.below hbc).more (B' := Wc.heap.size) (by omega))
    have HBN : Hid (Below n Wb Wc) := Lib.hid (hbn.trans hkc.below)
    have HNI := Lib.hid (hndin.under hkc.below)
    have HONE := Lib.hid (fun Wx (h : nd.In Wx Wx.heap.size) => oneOK nd ⟨#[112, 104, 97, 110, 100, 108, 101]⟩ Wx h (by decide))
    have HOV : Hid (oneV nd ⟨#[112, 104, 97, 110, 100, 108, 101]⟩ = (hv, fl, er)) := Lib.hid hov
    clear hj hyx hat hcel hc1 hc2 hndin hpre hout hsn hpx hrg hov hcs hbc hcn huc hjc hyc hkc hMy hWsz hsz hu hbn hM
    obtain ⟨xn, xpa, xpc, xps, xka, xkc, xks⟩ := nd
    simp only [Nd.val, Nd.pv, Nd.kv, Nd.name, Nd.pa, Nd.pc, Nd.props, Nd.ka, Nd.kc, Nd.kids] at hWc HCN HONE ⊢
    gi_wp2
    rw [← hWc]
    refine ⟨HIC.out, HKC.out, ?_⟩
    clear hWc
    intro W2 hj2 hy2 ht2 hcl2 hfz2
    have hW2s : Wc.heap.size ≤ W2.heap.size := ht2.size
    have hWc2 : W.heap.size ≤ Wc.heap.size := by have := HWS.out; have := HCS.out; omega
    have hin2 := (HNI.out.keep (w' := W2) (fun a _ => hcl2 a)).more (B' := W2.heap.size) (by have := HNW.out; omega)
    have HC := Lib.hid (HONE.out W2 hin2)
    have HU2 := Lib.hid (ht2.ups HUC.out hWc2)
    have HB2 : Hid (Below n Wb W2) := Lib.hid (HBN.out.trans ((ht2.below HUC.out hWc2).mono HNW.out))
    have HCEL2 := Lib.hid ((HCEL.out.keep (w' := W2) (fun a _ => hcl2 a)).more hW2s)
    have HJ2 := Lib.hid hj2
    have HY2 := Lib.hid hy2
    have HS2 : Hid (W.heap.size ≤ W2.heap.size) := Lib.hid (by omega)
    have b0 := (hcl2 ⟨Wr.heap.size, 0, none⟩).trans (Lib.cell_of_heap HCN.out 0)
    have b1 := (hcl2 ⟨Wr.heap.size, 1, none⟩).trans (Lib.cell_of_heap HCN.out 1)
    have b2 := (hcl2 ⟨Wr.heap.size, 2, none⟩).trans (Lib.cell_of_heap HCN.out 2)
    have e0 : (#[Value.string xn, .slice xpa xps.length xpc, .slice xka xks.length xkc] : Array Value)[0]? = some (.string xn) := rfl
    have e1 : (#[Value.string xn, .slice xpa xps.length xpc, .slice xka xks.length xkc] : Array Value)[1]? = some (.slice xpa xps.length xpc) := rfl
    have e2 : (#[Value.string xn, .slice xpa xps.length xpc, .slice xka xks.length xkc] : Array Value)[2]? = some (.slice xka xks.length xkc) := rfl
    rw [e0] at b0
    rw [e1] at b1
    rw [e2] at b2
    have hov := HOV.out
    obtain ⟨O, hO⟩ : ∃ O, oneV (Nd.mk xn xpa xpc xps xka xkc xks) ⟨#[112, 104, 97, 110, 100, 108, 101]⟩ = O := ⟨_, rfl⟩
    rw [hO] at HC hov
    subst hov
    clear hO HOV HONE
    simp only [oneVal] at HC
    clear e0 e1 e2 hj2 hy2 ht2 hcl2 hfz2 hin2 hWc2 hW2s
    cases fl
    · gi_wp2_with (refine ⟨trivial, rfl, (CallsIn.inRound l2 (callsIn_wide.2 HC.out)).mono ?_⟩; rintro e W3 ⟨rfl, hb3⟩)
      have HB3 := Lib.hid hb3
      have HJ3 := Lib.hid (HJ.out _ _ _ _ _ HJ2.out HS2.out HU2.out (Turn.of_below hb3))
      have HY3 : Hid (W3.heap[W.heap.size]? = some (.cells #[.func (.yield l) #[] #[]] 111 (0, 0))) := Lib.hid ((hb3.block _ (Array.getElem?_eq_some_iff.1 HY2.out).1).trans HY2.out)
      have HK3 := Lib.hid (Kp.of_below hb3 (Nat.le_trans HNW.out HS2.out) HU2.out)
      have HSN2 := HSN.out
      simp only [Bool.false_eq_true, ↓reduceIte, Option.toList_none, List.append_nil] at HSN2
      have HSN3 := Lib.hid HSN2
      clear HSN2 b0 b1 b2 hb3
      refine ⟨fun _ h => (by cases h), ?_⟩
      gi_wp2
      exact ⟨HK3.out, by rw [HSN3.out]; exact HJ3.out, HY3.out⟩
    · have HSN2 := HSN.out
      have HPX2 := HPX.out
      rw [HSN2] at HPX2
      simp only [↓reduceIte, Option.toList_some] at HSN2 HPX2
      have HSN3 := Lib.hid HSN2
      have HPX3 := Lib.hid HPX2
      have HC2 : Hid (Calls Try.prog 28 #[.agg #[.string xn, .slice xpa xps.length xpc, .slice xka xks.length xkc], .string ⟨#[112, 104, 97, 110, 100, 108, 101]⟩] W2 fun e W3 => ∃ fn tmps asg bd, e = .returned (.tuple #[.int .u32 hv, .bool true, .int .i64 er]) ∧ Below W2.heap.size W2 W3 ∧ W3.cell? ⟨W.heap.size, 0, none⟩ = some (.func (.yield l) #[] #[]) ∧ (Instr.yield l #[.slice A p.length c, .int .u32 hv]).run Try.prog W3 = .ok (.round l fn tmps asg bd) W3 ∧
          Hid (RoundIn Fence.wide 0 Try.prog l fn tmps asg bd W3 fun e W' => Kp n M W3 W' ∧ ((e = .returned (.bool true) ∧ J M (pre.filterMap (hOf R) ++ [(hv, p)]) W') ∨ (e = .returned (.bool false) ∧ Jx M (pre.filterMap (hOf R) ++ [(hv, p)]) W')))) := Lib.hid (HC.out.mono (by
        rintro e W3 ⟨rfl, hb3⟩
        have hj3 := HJ.out _ _ _ _ _ HJ2.out HS2.out HU2.out (Turn.of_below hb3)
        have hn3 := HNW.out
        have hs3 := HS2.out
        obtain ⟨fn, tmps, asg, bd, h1, h2⟩ := HY.out M (pre.filterMap (hOf R)) (hv, p) #[.slice A p.length c, .int .u32 hv] W3 hj3 (HU2.out.more hb3.size) (Nat.le_trans HS2.out hb3.size) (((HBB.out.mono HNW.out).trans HB2.out).trans (hb3.mono (by omega))) ⟨A, c, rfl, HCEL2.out.on hb3, HC12.out.1, HC12.out.2, HRG.out.1, HRG.out.2⟩ HPX3.out
        exact ⟨fn, tmps, asg, bd, rfl, hb3, (hb3.cell (p := ⟨W.heap.size, 0, none⟩) (Array.getElem?_eq_some_iff.1 HY2.out).1).trans (by rw [Lib.cell_of_heap HY2.out]; rfl), h1, Lib.hid h2⟩))
      clear HSN2 HPX2 HC
      gi_wp2_with (first
        | (refine ⟨trivial, rfl, (CallsIn.inRound l2 (callsIn_wide.2 HC2.out)).mono ?_⟩; clear HC2; rintro e W3 ⟨fn, tmps, asg, bd, rfl, hb3, y3, hyr, hR⟩)
        | (refine ⟨rfl, RoundIn.mono (F := Fence.wide.inRound l2) hR.out ?_⟩; clear hR hyr; rintro e W4 ⟨hk4, (⟨rfl, hj4⟩ | ⟨rfl, hx4⟩)⟩))
      · exact ⟨(Kp.of_below hb3 (Nat.le_trans HNW.out HS2.out) HU2.out).trans hk4, by rw [HSN3.out]; exact hj4, (hk4.same _ HMY.out).trans ((hb3.block _ (Array.getElem?_eq_some_iff.1 HY2.out).1).trans HY2.out)⟩
      · exact ⟨(Kp.of_below hb3 (Nat.le_trans HNW.out HS2.out) HU2.out).trans hk4, rfl, by rw [HSN3.out]; exact hx4⟩
  case done =>
    rintro D M Wd hM hu hsz hD ⟨hj, _⟩ hd
    have HF := Lib.hid (HJ.out _ _ _ _ _ hj (Nat.le_trans HBB.out.size hsz) hu (Turn.putObj Wd hD (.deferred none)))
    have HU : Hid (Ups W.heap.size M (Wd.putObj D (.deferred none))) := Lib.hid (hu.more (by simp))
    have HS : Hid (W.heap.size ≤ (Wd.putObj D (.deferred none)).heap.size) := Lib.hid (by have := HBB.out.size; simp; omega)
    gi_wp2
    refine ⟨by simp, .inl ⟨_, _, rfl, run_takeDeferred hd, ?_⟩⟩
    exact ⟨_, results_none rfl _ _ _, ⟨_, rfl⟩, M, HU.out, HS.out, .inl HF.out⟩
  case stop =>
    rintro D c M pre Wd hM hu hsz hD hpre ⟨rfl, hx⟩ hd
    have HF := Lib.hid (HJX.out _ _ _ _ _ hx (Nat.le_trans HBB.out.size hsz) hu (Turn.putObj Wd hD (.deferred none)))
    have HU : Hid (Ups W.heap.size M (Wd.putObj D (.deferred none))) := Lib.hid (hu.more (by simp))
    have HS : Hid (W.heap.size ≤ (Wd.putObj D (.deferred none)).heap.size) := Lib.hid (by have := HBB.out.size; simp; omega)
    gi_wp2
    refine ⟨by simp, .inl ⟨_, _, rfl, run_takeDeferred hd, ?_⟩⟩
    exact ⟨_, results_none rfl _ _ _, ⟨_, rfl⟩, M, HU.out, HS.out, .inr ⟨_, hand_prefix hpre, HF.out⟩⟩
end Go.Proofs.Ytapfcbcojnplaaa
