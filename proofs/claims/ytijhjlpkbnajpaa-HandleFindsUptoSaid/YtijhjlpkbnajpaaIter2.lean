/-
  Iter, part 2: what the proofs of this claim lean on.
-/
import Derived.Test.YtijhjlpkbnajpaaIter1
import Derived.Test.YtijhjlpkbnajpaaBase5
import Derived.Test.YtijhjlpkbnajpaaBase6
import Derived.Maps.Own
import Derived.Maps.OwnSet
import Derived.Maps.OwnOps
import Derived.Maps.OwnIn
import Derived.Maps.Views

/-! Layer 8: the program's handles: the iterator over all handles has its contract. -/
namespace Go.Proofs.Ytijhjlpkbnajpaa
open Go.RowKit
set_option linter.unusedVariables false
set_option linter.unusedSimpArgs false
attribute [local go_sem] Oper.semAt_some

/-- The handle of the node at a place. -/
def hOf (root : Nd) (p : List Nat) : Option (Int × List Nat) :=
  match nodeAt root p with
  | some x => if (oneV x phName).2.1 = true then some ((oneV x phName).1, p) else none
  | none => none
/-- What comes: a place, and the handle of the node that stands there. -/
def EncH (W : World) (r : Int × List Nat) (args : Array Value) : Prop :=
  ∃ A c, args = #[.slice A r.2.length c, .int .u32 r.1] ∧ Cel W W.heap.size A r.2.length (ints r.2) ∧ r.2.length ≤ c ∧ c ≤ 9223372036854775807 ∧ 0 ≤ r.1 ∧ r.1 ≤ 4294967295
theorem hOf_at {root x : Nd} {p : List Nat} (h : nodeAt root p = some x) : hOf root p = if (oneV x phName).2.1 = true then some ((oneV x phName).1, p) else none := by
  unfold hOf
  rw [h]
theorem hand_snoc {root : Nd} {pre : List (List Nat)} {p : List Nat} : (pre ++ [p]).filterMap (hOf root) = pre.filterMap (hOf root) ++ (hOf root p).toList := by
  rw [List.filterMap_append]
  congr 1
theorem hand_prefix {root : Nd} {q es : List (List Nat)} (h : q <+: es) : q.filterMap (hOf root) <+: es.filterMap (hOf root) := by
  obtain ⟨t, rfl⟩ := h
  exact ⟨t.filterMap (hOf root), by rw [List.filterMap_append]⟩

set_option maxRecDepth 20000 in
set_option maxHeartbeats 2000000 in
theorem handles_any (t : Tr) (w : World) : Calls Try.prog 17 #[t.val] w fun e w' => e = .returned (.func (.func 24) #[] #[.pointer (some ⟨w.heap.size, 0, none⟩)]) ∧ w' = w.alloc (tbox t) := by
  obtain ⟨boot, ra, rc, rs, ⟨nm, pa, pc, ps, ka, kc, ks⟩⟩ := t
  simp only [tbox, Tr.val, Tr.rv, Nd.val, Nd.pv, Nd.kv, Nd.name, Nd.pa, Nd.pc, Nd.props, Nd.ka, Nd.kc, Nd.kids]
  refine (callsIn_wide (n := 0)).1 ?_
  refine callsIn_of_wp Try.func17 rfl trivial ?_ rfl
  simp only [Try.ntmps17, List.size_toArray, List.length_cons, List.length_nil, Nat.reduceAdd, Nat.reduceSub, Array.replicate_succ, Array.replicate_zero, List.push_toArray, List.append_toArray, List.nil_append, List.cons_append]
  gi_wp2
  go_ret
  exact ⟨rfl, rfl⟩

set_option maxRecDepth 20000 in
set_option maxHeartbeats 8000000 in
theorem handles_walks (t : Tr) (n k : Nat) (w : World) (hin : t.In w n) (hn : n ≤ w.heap.size) (hk : w.heap[k]? = some (tbox t)) (hh : heftN t.root ≤ 134217728) :
    Walks Try.prog 24 #[.pointer (some ⟨k, 0, none⟩)] n EncH ((placesN t.root []).filterMap (hOf t.root)) w := by
  intro l J Jx W hW hJ hJx hY h0
  have hkw : W.heap[k]? = some (tbox t) := (hW.block k (Array.getElem?_eq_some_iff.1 hk).1).trans hk
  have hnW : n ≤ W.heap.size := Nat.le_trans hn hW.size
  obtain ⟨Wa, hWa⟩ : ∃ Wa, Wa = W.alloc (.cells #[.func (.yield l) #[] #[]] 73) := ⟨_, rfl⟩
  have hsa : Wa.heap.size = W.heap.size + 1 := by rw [hWa]; simp
  have hal : Below W.heap.size W Wa := by rw [hWa]; exact (Below.refl _ W).alloc (Nat.le_refl _) _
  have hya : Wa.heap[W.heap.size]? = some (.cells #[.func (.yield l) #[] #[]] 73 (0, 0)) := by rw [hWa]; exact heap_alloc_new _ _
  obtain ⟨Wb, hWb⟩ : ∃ Wb, Wb = Wa.alloc (tbox t) := ⟨_, rfl⟩
  have hsb : Wb.heap.size = W.heap.size + 2 := by rw [hWb]; simp [hsa]
  have hab : Below Wa.heap.size Wa Wb := by rw [hWb]; exact (Below.refl _ Wa).alloc (Nat.le_refl _) _
  have hbb : Below W.heap.size W Wb := hal.trans (hab.mono (by omega))
  have hyb : Wb.heap[W.heap.size]? = some (.cells #[.func (.yield l) #[] #[]] 73 (0, 0)) := (hab.block _ (by omega)).trans hya
  have hbx : Wb.heap[W.heap.size + 1]? = some (tbox t) := by rw [hWb, ← hsa]; exact heap_alloc_new _ _
  have htb : Turn (fun _ => False) (fun j => False ∨ j = W.heap.size) W Wb := Turn.own hbb _ (by omega)
  have hinb : t.In Wb n := hin.under ((hW.mono hn).trans (hbb.mono hnW))
  have hNW := Lib.hid (nodes_walks t n (W.heap.size + 1) Wb hinb (by omega) hbx hh)
  have HNA : Hid (Calls Try.prog 22 #[t.val] Wa fun e w' => e = .returned (.func (.func 27) #[] #[.pointer (some ⟨W.heap.size + 1, 0, none⟩)]) ∧ w' = Wb) := Lib.hid (by have h := nodes_any t Wa; rw [hsa, ← hWb] at h; exact h)
  have HN := Lib.hid (show n ≤ Wb.heap.size by omega)
  have HNW := Lib.hid hnW
  have HSB := Lib.hid hsb
  have HYB := Lib.hid hyb
  have HBB := Lib.hid hbb
  have HUB := Lib.hid (htb.ups (B := W.heap.size) (fun k h => h.elim) (Nat.le_refl _))
  have HJB := Lib.hid (hJ _ _ _ _ _ h0 (Nat.le_refl _) (fun k h => h.elim) htb)
  have HY := Lib.hid hY
  have HJ := Lib.hid hJ
  have HJX := Lib.hid hJx
  have HH := Lib.hid hh
  obtain ⟨es, hes⟩ : ∃ es, placesN t.root [] = es := ⟨_, rfl⟩
  rw [hes] at hNW HY ⊢
  have HSA := Lib.hid hsa
  have d0 := Lib.cell?_alloc_some (.cells #[.func (.yield l) #[] #[]] 73) ((Lib.cell_of_heap hkw 0).trans rfl)
  have d1 := Lib.cell?_alloc_some (.cells #[.func (.yield l) #[] #[]] 73) ((Lib.cell_of_heap hkw 1).trans rfl)
  have d2 := Lib.cell?_alloc_some (.cells #[.func (.yield l) #[] #[]] 73) ((Lib.cell_of_heap hkw 2).trans rfl)
  have d3 := Lib.cell?_alloc_some (.cells #[.func (.yield l) #[] #[]] 73) ((Lib.cell_of_heap hkw 3).trans rfl)
  have d4 := Lib.cell?_alloc_some (.cells #[.func (.yield l) #[] #[]] 73) ((Lib.cell_of_heap hkw 4).trans rfl)
  have HRT : Hid (∃ R, R = t.root) := Lib.hid ⟨_, rfl⟩
  obtain ⟨R, hR⟩ := HRT.out
  rw [← hR] at hNW HY HH ⊢
  clear hWb hes hY hJ hJx hh hin hn hk hW h0 hal hya hab hbb hyb hbx htb hinb hnW hkw hsb HRT
  obtain ⟨boot, ra, rc, rs, ⟨nm, pa, pc, ps, ka, kc, ks⟩⟩ := t
  simp only [tbox, Tr.val, Tr.rv, Nd.val, Nd.pv, Nd.kv, Nd.name, Nd.pa, Nd.pc, Nd.props, Nd.ka, Nd.kc, Nd.kids] at HNA d0 d1 d2 d3 d4
  rw [hWa] at HNA
  clear hR
  refine (callsIn_wide (n := 0)).1 ?_
  refine callsIn_of_wp_marks Try.func24 rfl trivial ?_ rfl
  simp only [Try.ntmps24, List.size_toArray, List.length_cons, List.length_nil, Nat.reduceAdd, Nat.reduceSub, Array.replicate_succ, Array.replicate_zero, List.push_toArray, List.append_toArray, List.nil_append, List.cons_append]
  gi_wp2_with (refine ⟨trivial, rfl, (callsIn_wide.2 HNA.out).mono ?_⟩; rintro e W4 ⟨rfl, hW4⟩)

  clear hW4 HNA d0 d1 d2 d3 d4 W4
  refine rangeFunc_iter (gf := 27) (lb := #[.pointer (some ⟨W.heap.size + 1, 0, none⟩)]) rfl (enters_of Try.func27 (by kernel_rfl) rfl) hNW.out (Below.refl _ _) HN.out (fun Wx p args h => by obtain ⟨A, c, nd, rfl, _⟩ := h; rfl) W.heap.size HBB.out.size (fun j => False ∨ j = W.heap.size) HUB.out
    (fun M pre Wx => J M (pre.filterMap (hOf R)) Wx ∧ Wx.heap[W.heap.size]? = some (.cells #[.func (.yield l) #[] #[]] 73 (0, 0))) (fun c M pre Wx => c = .ret ∧ Jx M (pre.filterMap (hOf R)) Wx)
    (fun T T' s A C hs hB hT ht hst => ⟨HJ.out _ _ _ _ _ hs.1 hB hT ht, (hst _ (.inr rfl)).trans hs.2⟩) (fun c T T' s A C hs hB hT ht hst => ⟨hs.1, HJX.out _ _ _ _ _ hs.2 hB hT ht⟩) ⟨HJB.out, HYB.out⟩ ?round ?done ?stop
  case round =>
    rintro l2 M pre p args Wr hM hu hsz hbn ⟨hj, hyx⟩ ⟨A, c, nd, rfl, hat, hcel, hc1, hc2, hndin⟩ hpre
    have hWsz : W.heap.size ≤ Wr.heap.size := Nat.le_trans HBB.out.size hsz
    have hMy : M W.heap.size := hM _ (.inr rfl)
    have hout := hOf_at hat
    have hsn : (pre ++ [p]).filterMap (hOf R) = pre.filterMap (hOf R) ++ (hOf R p).toList := hand_snoc
    have hpx : (pre ++ [p]).filterMap (hOf R) <+: es.filterMap (hOf R) := hand_prefix hpre
    rw [hout] at hsn
    have hrg := oneV_range hndin phName
    obtain ⟨hv, fl, er, hov⟩ : ∃ hv fl er, oneV nd phName = (hv, fl, er) := ⟨_, _, _, rfl⟩
    rw [hov] at hsn hrg
    -- the node's box of this round
    obtain ⟨Wc, hWc⟩ : ∃ Wc, Wc = Wr.alloc (.cells #[.string nd.name, nd.pv, nd.kv] 27) := ⟨_, rfl⟩
    have hcs : Wc.heap.size = Wr.heap.size + 1 := by rw [hWc]; simp
    have hbc : Below Wr.heap.size Wr Wc := by rw [hWc]; exact (Below.refl _ _).alloc (Nat.le_refl _) _
    have hcn : Wc.heap[Wr.heap.size]? = some (.cells #[.string nd.name, nd.pv, nd.kv] 27 (0, 0)) := by rw [hWc]; exact heap_alloc_new _ _
    have huc : Ups W.heap.size M Wc := hu.more (by omega)
    have hjc : J M (pre.filterMap (hOf R)) Wc := HJ.out _ _ _ _ _ hj hWsz hu (Turn.of_below hbc)
    have hyc : Wc.heap[W.heap.size]? = some (.cells #[.func (.yield l) #[] #[]] 73 (0, 0)) := (hbc.block _ (hu _ hMy).2).trans hyx
    have hkc : Kp n M Wr Wc := Kp.of_below hbc (Nat.le_trans HNW.out hWsz) hu
    have HIC := Lib.hid (And.intro hjc hyc)
    have HKC := Lib.hid hkc
    have HMY := Lib.hid hMy
    have HSN := Lib.hid hsn
    have HPX := Lib.hid hpx
    have HRG := Lib.hid hrg
    have HUC := Lib.hid huc
    have HCS := Lib.hid hcs
    have HCN := Lib.hid hcn
    have HWS := Lib.hid hWsz
    have HC12 := Lib.hid (And.intro hc1 hc2)
    have HCEL := Lib.hid ((hcel.below hbc).more (B' := Wc.heap.size) (by omega))
    have HBN : Hid (Below n Wb Wc) := Lib.hid (hbn.trans hkc.below)
    have HNI := Lib.hid (hndin.under hkc.below)
    have HONE := Lib.hid (fun Wx (h : nd.In Wx Wx.heap.size) => oneOK nd ⟨#[112, 104, 97, 110, 100, 108, 101]⟩ Wx h (by decide))
    have HOV : Hid (oneV nd ⟨#[112, 104, 97, 110, 100, 108, 101]⟩ = (hv, fl, er)) := Lib.hid hov
    clear hj hyx hat hcel hc1 hc2 hndin hpre hout hsn hpx hrg hov hcs hbc hcn huc hjc hyc hkc hMy hWsz hsz hu hbn hM
    obtain ⟨xn, xpa, xpc, xps, xka, xkc, xks⟩ := nd
    simp only [Nd.val, Nd.pv, Nd.kv, Nd.name, Nd.pa, Nd.pc, Nd.props, Nd.ka, Nd.kc, Nd.kids] at hWc HCN HONE ⊢
    gi_wp2
    rw [← hWc]
    refine ⟨HIC.out, HKC.out, ?_⟩
    clear hWc
    intro W2 hj2 hy2 ht2 hcl2 hfz2
    have hW2s : Wc.heap.size ≤ W2.heap.size := ht2.size
    have hWc2 : W.heap.size ≤ Wc.heap.size := by have := HWS.out; have := HCS.out; omega
    have hin2 := (HNI.out.keep (w' := W2) (fun a _ => hcl2 a)).more (B' := W2.heap.size) (by have := HNW.out; omega)
    have HC := Lib.hid (HONE.out W2 hin2)
    have HU2 := Lib.hid (ht2.ups HUC.out hWc2)
    have HB2 : Hid (Below n Wb W2) := Lib.hid (HBN.out.trans ((ht2.below HUC.out hWc2).mono HNW.out))
    have HCEL2 := Lib.hid ((HCEL.out.keep (w' := W2) (fun a _ => hcl2 a)).more hW2s)
    have HJ2 := Lib.hid hj2
    have HY2 := Lib.hid hy2
    have HS2 : Hid (W.heap.size ≤ W2.heap.size) := Lib.hid (by omega)
    have b0 := (hcl2 ⟨Wr.heap.size, 0, none⟩).trans (Lib.cell_of_heap HCN.out 0)
    have b1 := (hcl2 ⟨Wr.heap.size, 1, none⟩).trans (Lib.cell_of_heap HCN.out 1)
    have b2 := (hcl2 ⟨Wr.heap.size, 2, none⟩).trans (Lib.cell_of_heap HCN.out 2)
    have e0 : (#[Value.string xn, .slice xpa xps.length xpc, .slice xka xks.length xkc] : Array Value)[0]? = some (.string xn) := rfl
    have e1 : (#[Value.string xn, .slice xpa xps.length xpc, .slice xka xks.length xkc] : Array Value)[1]? = some (.slice xpa xps.length xpc) := rfl
    have e2 : (#[Value.string xn, .slice xpa xps.length xpc, .slice xka xks.length xkc] : Array Value)[2]? = some (.slice xka xks.length xkc) := rfl
    rw [e0] at b0
    rw [e1] at b1
    rw [e2] at b2
    have hov := HOV.out
    obtain ⟨O, hO⟩ : ∃ O, oneV (Nd.mk xn xpa xpc xps xka xkc xks) ⟨#[112, 104, 97, 110, 100, 108, 101]⟩ = O := ⟨_, rfl⟩
    rw [hO] at HC hov
    subst hov
    clear hO HOV HONE
    simp only [oneVal] at HC
    clear e0 e1 e2 hj2 hy2 ht2 hcl2 hfz2 hin2 hWc2 hW2s
    cases fl
    · gi_wp2_with (refine ⟨trivial, rfl, (CallsIn.inRound l2 (callsIn_wide.2 HC.out)).mono ?_⟩; rintro e W3 ⟨rfl, hb3⟩)
      have HB3 := Lib.hid hb3
      have HJ3 := Lib.hid (HJ.out _ _ _ _ _ HJ2.out HS2.out HU2.out (Turn.of_below hb3))
      have HY3 : Hid (W3.heap[W.heap.size]? = some (.cells #[.func (.yield l) #[] #[]] 73 (0, 0))) := Lib.hid ((hb3.block _ (Array.getElem?_eq_some_iff.1 HY2.out).1).trans HY2.out)
      have HK3 := Lib.hid (Kp.of_below hb3 (Nat.le_trans HNW.out HS2.out) HU2.out)
      have HSN2 := HSN.out
      simp only [Bool.false_eq_true, ↓reduceIte, Option.toList_none, List.append_nil] at HSN2
      have HSN3 := Lib.hid HSN2
      clear HSN2 b0 b1 b2 hb3
      refine ⟨fun _ h => (by cases h), ?_⟩
      gi_wp2
      exact ⟨HK3.out, by rw [HSN3.out]; exact HJ3.out, HY3.out⟩
    · have HSN2 := HSN.out
      have HPX2 := HPX.out
      rw [HSN2] at HPX2
      simp only [↓reduceIte, Option.toList_some] at HSN2 HPX2
      have HSN3 := Lib.hid HSN2
      have HPX3 := Lib.hid HPX2
      have HC2 : Hid (Calls Try.prog 23 #[.agg #[.string xn, .slice xpa xps.length xpc, .slice xka xks.length xkc], .string ⟨#[112, 104, 97, 110, 100, 108, 101]⟩] W2 fun e W3 => ∃ fn tmps asg bd, e = .returned (.tuple #[.int .u32 hv, .bool true, .int .i64 er]) ∧ Below W2.heap.size W2 W3 ∧ W3.cell? ⟨W.heap.size, 0, none⟩ = some (.func (.yield l) #[] #[]) ∧ (Instr.yield l #[.slice A p.length c, .int .u32 hv]).run Try.prog W3 = .ok (.round l fn tmps asg bd) W3 ∧
          Hid (RoundIn Fence.wide 0 Try.prog l fn tmps asg bd W3 fun e W' => Kp n M W3 W' ∧ ((e = .returned (.bool true) ∧ J M (pre.filterMap (hOf R) ++ [(hv, p)]) W') ∨ (e = .returned (.bool false) ∧ Jx M (pre.filterMap (hOf R) ++ [(hv, p)]) W')))) := Lib.hid (HC.out.mono (by
        rintro e W3 ⟨rfl, hb3⟩
        have hj3 := HJ.out _ _ _ _ _ HJ2.out HS2.out HU2.out (Turn.of_below hb3)
        have hn3 := HNW.out
        have hs3 := HS2.out
        obtain ⟨fn, tmps, asg, bd, h1, h2⟩ := HY.out M (pre.filterMap (hOf R)) (hv, p) #[.slice A p.length c, .int .u32 hv] W3 hj3 (HU2.out.more hb3.size) (Nat.le_trans HS2.out hb3.size) (((HBB.out.mono HNW.out).trans HB2.out).trans (hb3.mono (by omega))) ⟨A, c, rfl, HCEL2.out.on hb3, HC12.out.1, HC12.out.2, HRG.out.1, HRG.out.2⟩ HPX3.out
        exact ⟨fn, tmps, asg, bd, rfl, hb3, (hb3.cell (p := ⟨W.heap.size, 0, none⟩) (Array.getElem?_eq_some_iff.1 HY2.out).1).trans (by rw [Lib.cell_of_heap HY2.out]; rfl), h1, Lib.hid h2⟩))
      clear HSN2 HPX2 HC
      gi_wp2_with (first
        | (refine ⟨trivial, rfl, (CallsIn.inRound l2 (callsIn_wide.2 HC2.out)).mono ?_⟩; clear HC2; rintro e W3 ⟨fn, tmps, asg, bd, rfl, hb3, y3, hyr, hR⟩)
        | (refine ⟨rfl, RoundIn.mono (F := Fence.wide.inRound l2) hR.out ?_⟩; clear hR hyr; rintro e W4 ⟨hk4, (⟨rfl, hj4⟩ | ⟨rfl, hx4⟩)⟩))
      · exact ⟨(Kp.of_below hb3 (Nat.le_trans HNW.out HS2.out) HU2.out).trans hk4, by rw [HSN3.out]; exact hj4, (hk4.same _ HMY.out).trans ((hb3.block _ (Array.getElem?_eq_some_iff.1 HY2.out).1).trans HY2.out)⟩
      · exact ⟨(Kp.of_below hb3 (Nat.le_trans HNW.out HS2.out) HU2.out).trans hk4, rfl, by rw [HSN3.out]; exact hx4⟩
  case done =>
    rintro D M Wd hM hu hsz hD ⟨hj, _⟩ hd
    have HF := Lib.hid (HJ.out _ _ _ _ _ hj (Nat.le_trans HBB.out.size hsz) hu (Turn.putObj Wd hD (.deferred none)))
    have HU : Hid (Ups W.heap.size M (Wd.putObj D (.deferred none))) := Lib.hid (hu.more (by simp))
    have HS : Hid (W.heap.size ≤ (Wd.putObj D (.deferred none)).heap.size) := Lib.hid (by have := HBB.out.size; simp; omega)
    gi_wp2
    refine ⟨by simp, .inl ⟨_, _, rfl, run_takeDeferred hd, ?_⟩⟩
    exact ⟨_, results_none rfl _ _ _, ⟨_, rfl⟩, M, HU.out, HS.out, .inl HF.out⟩
  case stop =>
    rintro D c M pre Wd hM hu hsz hD hpre ⟨rfl, hx⟩ hd
    have HF := Lib.hid (HJX.out _ _ _ _ _ hx (Nat.le_trans HBB.out.size hsz) hu (Turn.putObj Wd hD (.deferred none)))
    have HU : Hid (Ups W.heap.size M (Wd.putObj D (.deferred none))) := Lib.hid (hu.more (by simp))
    have HS : Hid (W.heap.size ≤ (Wd.putObj D (.deferred none)).heap.size) := Lib.hid (by have := HBB.out.size; simp; omega)
    gi_wp2
    refine ⟨by simp, .inl ⟨_, _, rfl, run_takeDeferred hd, ?_⟩⟩
    exact ⟨_, results_none rfl _ _ _, ⟨_, rfl⟩, M, HU.out, HS.out, .inr ⟨_, hand_prefix hpre, HF.out⟩⟩
end Go.Proofs.Ytijhjlpkbnajpaa

/-! Layer 8: the program's check: the first error in the handles of a tree. -/
namespace Go.Proofs.Ytijhjlpkbnajpaa
open Go.RowKit Go.Maps Go.WideMaps
set_option linter.unusedVariables false
set_option linter.unusedSimpArgs false
attribute [local go_sem] Oper.semAt_some

/-- The key that a handle is; the set of the handles so far. -/
def keyH (h : Int) : Lit := .int .u32 h
def SnH (acc : List (Int × List Nat)) : DataW Unit := setOf (.agg []) (acc.map fun x => keyH x.1)
theorem SnH_snoc (acc : List (Int × List Nat)) (h : Int) (p : List Nat) : SnH (acc ++ [(h, p)]) = (SnH acc).put (keyH h) (.agg []) := by
  unfold SnH
  rw [List.map_append, ← setOf_snoc]
  rfl
theorem has_SnH (acc : List (Int × List Nat)) (h : Int) : Maps.has (SnH acc) (keyH h) = acc.any (fun x => decide (x.1 = h)) := by
  unfold SnH
  rw [Bool.eq_iff_iff, has_setOf _ _ _ (fun y hy => by obtain ⟨_, _, rfl⟩ := List.mem_map.1 hy; trivial), List.any_map]
  have e : ((fun x => x.sameKey (keyH h)) ∘ fun x : Int × List Nat => keyH x.1) = fun x => decide (x.1 = h) := by
    funext x
    simp [keyH, Lit.sameKey]
  rw [← e]
theorem refsFrom_append (root : Nd) : ∀ (p q : List (List Nat)) (acc : List (Int × List Nat)), refsFrom root acc (p ++ q) = if (refsFrom root acc p).2 = 0 then refsFrom root (refsFrom root acc p).1 q else ([], (refsFrom root acc p).2)
  | [], q, acc => by rw [List.nil_append]; simp [refsFrom]
  | x :: p, q, acc => by
    rw [List.cons_append, refsFrom, refsFrom]
    by_cases h : (refStep root acc x).2 = 0
    · rw [if_pos h, if_pos h, refsFrom_append root p q]
    · rw [if_neg h, if_neg h, if_neg h]
theorem lawU : Keyed Try.prog 22 := int_keyed Try.underlying22
theorem zeroU (w : World) : (zeroValue 71).run Try.prog w = .ok (.agg #[]) w := by kernel_rfl
theorem keyH_ok {h : Int} (h0 : 0 ≤ h) (h1 : h ≤ 4294967295) : keyOf Try.prog 22 (.int .u32 h) = some (keyH h) := keyOf_int_mk Try.underlying22 (by simp [Lit.wf, IntKind.min, IntKind.max, IntKind.signed, IntKind.bits]; omega)
theorem mapO {w w' : World} {b n : Nat} {k : TypeId} {R : Value → Option (DataW Unit × List MemPlace)} {D : DataW Unit} (h : w.ownsMap Try.prog k R b n D) (hb : w'.heap[b]? = w.heap[b]?) : w'.ownsMap Try.prog k R b n D := by
  obtain ⟨es, clock, h1, h2⟩ := h
  exact ⟨es, clock, hb.trans h1, h2⟩
theorem mapO_lt {w : World} {b n : Nat} {k : TypeId} {R : Value → Option (DataW Unit × List MemPlace)} {D : DataW Unit} (h : w.ownsMap Try.prog k R b n D) : b < w.heap.size := by
  obtain ⟨es, clock, h1, h2⟩ := h
  exact (Array.getElem?_eq_some_iff.1 h1).1

theorem allocs5 (w : World) (o0 o1 o2 o3 o4 : Obj) : (((((w.alloc o0).alloc o1).alloc o2).alloc o3).alloc o4).heap.size = w.heap.size + 5 ∧ (((((w.alloc o0).alloc o1).alloc o2).alloc o3).alloc o4).heap[w.heap.size + 1]? = some o1 ∧ (((((w.alloc o0).alloc o1).alloc o2).alloc o3).alloc o4).heap[w.heap.size + 2]? = some o2 ∧
    (((((w.alloc o0).alloc o1).alloc o2).alloc o3).alloc o4).heap[w.heap.size + 3]? = some o3 ∧ (((((w.alloc o0).alloc o1).alloc o2).alloc o3).alloc o4).heap[w.heap.size + 4]? = some o4 ∧ Below w.heap.size w (((((w.alloc o0).alloc o1).alloc o2).alloc o3).alloc o4) := by
  obtain ⟨w1, h1⟩ : ∃ w1, w.alloc o0 = w1 := ⟨_, rfl⟩
  obtain ⟨w2, h2⟩ : ∃ w2, w1.alloc o1 = w2 := ⟨_, rfl⟩
  obtain ⟨w3, h3⟩ : ∃ w3, w2.alloc o2 = w3 := ⟨_, rfl⟩
  obtain ⟨w4, h4⟩ : ∃ w4, w3.alloc o3 = w4 := ⟨_, rfl⟩
  obtain ⟨w5, h5⟩ : ∃ w5, w4.alloc o4 = w5 := ⟨_, rfl⟩
  have z1 : w1.heap.size = w.heap.size + 1 := by rw [← h1]; simp
  have z2 : w2.heap.size = w.heap.size + 2 := by rw [← h2]; simp [z1]
  have z3 : w3.heap.size = w.heap.size + 3 := by rw [← h3]; simp [z2]
  have z4 : w4.heap.size = w.heap.size + 4 := by rw [← h4]; simp [z3]
  have z5 : w5.heap.size = w.heap.size + 5 := by rw [← h5]; simp [z4]
  have b1 : Below w.heap.size w w1 := by rw [← h1]; exact (Below.refl _ _).alloc (Nat.le_refl _) _
  have b2 : Below w1.heap.size w1 w2 := by rw [← h2]; exact (Below.refl _ _).alloc (Nat.le_refl _) _
  have b3 : Below w2.heap.size w2 w3 := by rw [← h3]; exact (Below.refl _ _).alloc (Nat.le_refl _) _
  have b4 : Below w3.heap.size w3 w4 := by rw [← h4]; exact (Below.refl _ _).alloc (Nat.le_refl _) _
  have b5 : Below w4.heap.size w4 w5 := by rw [← h5]; exact (Below.refl _ _).alloc (Nat.le_refl _) _
  have n2 : w2.heap[w.heap.size + 1]? = some o1 := by rw [← z1, ← h2]; exact heap_alloc_new _ _
  have n3 : w3.heap[w.heap.size + 2]? = some o2 := by rw [← z2, ← h3]; exact heap_alloc_new _ _
  have n4 : w4.heap[w.heap.size + 3]? = some o3 := by rw [← z3, ← h4]; exact heap_alloc_new _ _
  have n5 : w5.heap[w.heap.size + 4]? = some o4 := by rw [← z4, ← h5]; exact heap_alloc_new _ _
  rw [h1, h2, h3, h4, h5]
  refine ⟨z5, ?_, ?_, ?_, n5, b1.trans ((b2.mono (by omega)).trans ((b3.mono (by omega)).trans ((b4.mono (by omega)).trans (b5.mono (by omega)))))⟩
  · rw [b5.block _ (by omega), b4.block _ (by omega), b3.block _ (by omega)]; exact n2
  · rw [b5.block _ (by omega), b4.block _ (by omega)]; exact n3
  · rw [b5.block _ (by omega)]; exact n4
/-- What one more place does to the handles so far. -/
theorem refs_next {R : Nd} {pre t : List (List Nat)} {p : List Nat} {acc : List (Int × List Nat)} {nd : Nd} {hv : Int} {fl : Bool} {er : Int} (h : refsFrom R [] pre = (acc, 0)) (ht : pre ++ [p] ++ t = placesN R []) (hat : nodeAt R p = some nd) (ho : oneV nd phName = (hv, fl, er)) :
    (er ≠ 0 → (refsOf R).2 = er) ∧ (er = 0 → fl = false → refsFrom R [] (pre ++ [p]) = (acc, 0)) ∧ (er = 0 → fl = true → (hv = 0 ∨ hv = 4294967295) → (refsOf R).2 = 11) ∧ (er = 0 → fl = true → ¬ (hv = 0 ∨ hv = 4294967295) → acc.any (fun x => decide (x.1 = hv)) = true → (refsOf R).2 = 9) ∧ (er = 0 → fl = true → ¬ (hv = 0 ∨ hv = 4294967295) → acc.any (fun x => decide (x.1 = hv)) = false → refsFrom R [] (pre ++ [p]) = (acc ++ [(hv, p)], 0)) := by
  have hs : refStep R acc p = if er ≠ 0 then ([], er) else if fl = false then (acc, 0) else if hv = 0 ∨ hv = 4294967295 then ([], 11) else if acc.any (fun x => decide (x.1 = hv)) = true then ([], 9) else (acc ++ [(hv, p)], 0) := by
    unfold refStep
    rw [hat]
    simp only [ho]
  have h1 : refsFrom R [] (pre ++ [p]) = if (refStep R acc p).2 = 0 then ((refStep R acc p).1, 0) else ([], (refStep R acc p).2) := by
    rw [refsFrom_append, h, if_pos rfl, refsFrom]
    simp only [refsFrom]
  have h2 : (refStep R acc p).2 ≠ 0 → (refsOf R).2 = (refStep R acc p).2 := fun hne => by
    rw [refsOf, ← ht, refsFrom_append, h1, if_neg hne, if_neg hne]
  refine ⟨fun he => ?_, fun he hf => ?_, fun he hf h3 => ?_, fun he hf h3 h4 => ?_, fun he hf h3 h4 => ?_⟩
  · rw [if_pos he] at hs
    rw [h2 (by rw [hs]; exact he), hs]
  · rw [if_neg (by simp [he]), if_pos hf] at hs
    rw [h1, hs]
    simp
  · rw [if_neg (by simp [he]), if_neg (by simp [hf]), if_pos h3] at hs
    rw [h2 (by rw [hs]; decide), hs]
  · rw [if_neg (by simp [he]), if_neg (by simp [hf]), if_neg h3, if_pos h4] at hs
    rw [h2 (by rw [hs]; decide), hs]
  · rw [if_neg (by simp [he]), if_neg (by simp [hf]), if_neg h3, if_neg (by simp [h4])] at hs
    rw [h1, hs]
    simp

set_option maxRecDepth 20000 in
set_option maxHeartbeats 8000000 in
theorem hcheck_any (t : Tr) (w : World) (hin : t.In w w.heap.size) (hh : heftN t.root ≤ 134217728) :
    Calls Try.prog 16 #[t.val] w fun e w' => e = .returned (.int .i64 (refsOf t.root).2) ∧ Below w.heap.size w w' := by
  have hmm := @run_makeMap Try.prog
  have HNA := Lib.hid (nodes_any t)
  have HNW := Lib.hid (fun (k : Nat) (W : World) (h : Below w.heap.size w W) hk => nodes_walks t w.heap.size k W (hin.under h) h.size hk hh)
  have HPN : Hid ((placesN t.root []).length ≤ 134217728) := Lib.hid (Nat.le_trans (places_len t.root []).1 hh)
  obtain ⟨R, hR⟩ : ∃ R, t.root = R := ⟨_, rfl⟩
  rw [hR] at HNW HPN ⊢
  clear hR hin hh
  obtain ⟨boot, ra, rc, rs, ⟨nm, pa, pc, ps, ka, kc, ks⟩⟩ := t
  simp only [tbox, Tr.val, Tr.rv, Nd.val, Nd.pv, Nd.kv, Nd.name, Nd.pa, Nd.pc, Nd.props, Nd.ka, Nd.kc, Nd.kids] at HNA HNW ⊢
  refine (callsIn_wide (n := 0)).1 ?_
  refine callsIn_of_wp_marks Try.func16 rfl trivial ?_ rfl
  simp only [Try.ntmps16, List.size_toArray, List.length_cons, List.length_nil, Nat.reduceAdd, Nat.reduceSub, Array.replicate_succ, Array.replicate_zero, List.push_toArray, List.append_toArray, List.nil_append, List.cons_append]
  gi_wp2_with (refine ⟨trivial, rfl, (callsIn_wide.2 (HNA.out _)).mono ?_⟩; rintro e W4 ⟨rfl, hW4⟩)
  clear hW4 HNA hmm
  obtain ⟨g, hg⟩ : ∃ g, w.heap.size = g := ⟨_, rfl⟩
  have HG := Lib.hid hg
  obtain ⟨W5, hW5⟩ : ∃ W5, (((((w.alloc (.cells #[.int .u32 boot, .slice ra rs.length rc, .string nm, .slice pa ps.length pc, .slice ka ks.length kc] 29)).alloc (.cells #[.int .i64 0] 33)).alloc (.map #[] 0)).alloc (.cells #[.map (some (w.heap.size + 1 + 1))] 67)).alloc (.cells #[.int .u32 boot, .slice ra rs.length rc, .string nm, .slice pa ps.length pc, .slice ka ks.length kc] 29)) = W5 := ⟨_, rfl⟩
  obtain ⟨s5, s1, s2, s3, s4, sb⟩ := allocs5 w (.cells #[.int .u32 boot, .slice ra rs.length rc, .string nm, .slice pa ps.length pc, .slice ka ks.length kc] 29) (.cells #[.int .i64 0] 33) (.map #[] 0) (.cells #[.map (some (w.heap.size + 1 + 1))] 67) (.cells #[.int .u32 boot, .slice ra rs.length rc, .string nm, .slice pa ps.length pc, .slice ka ks.length kc] 29)
  rw [hW5] at s5 s1 s2 s3 s4 sb ⊢
  clear hW5
  have HW5 := Lib.hid (HNW.out (w.heap.size + 4) W5 sb s4)
  rw [hg] at HNW HW5 s5 s1 s2 s3 s4 sb ⊢
  have HSB := Lib.hid sb
  have HS5 := Lib.hid s5
  have HI0 : Hid (∃ acc, refsFrom R [] [] = (acc, 0) ∧ acc.length ≤ ([] : List (List Nat)).length ∧ (¬ False ∧ ¬ False ∧ ¬ False) ∧ W5.heap[g + 1]? = some (.cells #[.int .i64 0] 33 (0, 0)) ∧ W5.heap[g + 3]? = some (.cells #[.map (some (g + 2))] 67 (0, 0)) ∧ W5.ownsMap Try.prog 22 unitElem (g + 2) acc.length (SnH acc) ∧ Below g w W5) :=
    Lib.hid ⟨[], rfl, Nat.le_refl _, ⟨id, id, id⟩, s1, s3, ⟨#[], 0, s2, ⟨by simp, Go.MapKept.stamped_empty 0, by simp⟩, Nat.le_refl _, by simp [SnH, setOf]⟩, sb⟩
  clear s1 s2 s3 s4 s5 sb hg HNW
  refine rangeFunc_iter (gf := 27) (lb := #[.pointer (some ⟨g + 4, 0, none⟩)]) rfl (enters_of Try.func27 (by kernel_rfl) rfl) HW5.out (Below.refl _ _) (by have := HS5.out; omega) (fun Wx p args h => by obtain ⟨A, c, nd, rfl, _⟩ := h; rfl) (g + 5) (by have := HS5.out; omega) (fun _ => False) (fun k h => h.elim)
    (fun M pre Wx => ∃ acc, refsFrom R [] pre = (acc, 0) ∧ acc.length ≤ pre.length ∧ (¬ M (g + 1) ∧ ¬ M (g + 2) ∧ ¬ M (g + 3)) ∧ Wx.heap[g + 1]? = some (.cells #[.int .i64 0] 33 (0, 0)) ∧ Wx.heap[g + 3]? = some (.cells #[.map (some (g + 2))] 67 (0, 0)) ∧ Wx.ownsMap Try.prog 22 unitElem (g + 2) acc.length (SnH acc) ∧ Below g w Wx)
    (fun c M pre Wx => c = .ret ∧ Below g w Wx ∧ ¬ M (g + 1) ∧ Wx.heap[g + 1]? = some (.cells #[.int .i64 (refsOf R).2] 33 (0, 0)))
    (fun T T' s A C hs hB hT ht hst => by
      obtain ⟨acc, a1, a2, ⟨a3, a4, a5⟩, a6, a7, a8, a9⟩ := hs
      have hn : ∀ k, k < g + 5 → ¬ T k → ¬ T' k := fun k hk hnk h => (ht.fresh k h).elim hnk (fun h => by omega)
      exact ⟨acc, a1, a2, ⟨hn _ (by omega) a3, hn _ (by omega) a4, hn _ (by omega) a5⟩, (ht.same _ (by omega) a3).trans a6, (ht.same _ (by omega) a5).trans a7, mapO a8 (ht.same _ (by omega) a4), a9.trans ((ht.below hT hB).mono (by omega))⟩)
    (fun c T T' s A C hs hB hT ht hst => ⟨hs.1, hs.2.1.trans ((ht.below hT hB).mono (by omega)), fun h => (ht.fresh _ h).elim hs.2.2.1 (fun h => by omega), (ht.same _ (by omega) hs.2.2.1).trans hs.2.2.2⟩) HI0.out ?round ?done ?stop
  case round =>
    rintro l2 M pre p args Wr hM hu hsz hbn ⟨acc, a1, a2, ⟨a3, a4, a5⟩, a6, a7, a8, a9⟩ ⟨A, c, nd, rfl, hat, hcel, hc1, hc2, hndin⟩ hpre
    have hrg := oneV_range hndin phName
    obtain ⟨hv, fl, er, hov⟩ : ∃ hv fl er, oneV nd phName = (hv, fl, er) := ⟨_, _, _, rfl⟩
    rw [hov] at hrg
    have HRN : Hid _ := Lib.hid (refs_next a1 (t := hpre.choose) hpre.choose_spec hat hov)
    -- the node's box of this round
    obtain ⟨Wc, hWc⟩ : ∃ Wc, Wc = Wr.alloc (.cells #[.string nd.name, nd.pv, nd.kv] 27) := ⟨_, rfl⟩
    have hcs : Wc.heap.size = Wr.heap.size + 1 := by rw [hWc]; simp
    have hbc : Below Wr.heap.size Wr Wc := by rw [hWc]; exact (Below.refl _ _).alloc (Nat.le_refl _) _
    have hcn : Wc.heap[Wr.heap.size]? = some (.cells #[.string nd.name, nd.pv, nd.kv] 27 (0, 0)) := by rw [hWc]; exact heap_alloc_new _ _
    have hgr : g + 5 ≤ Wr.heap.size := by have := HS5.out; omega
    have huc : Ups (g + 5) M Wc := hu.more (by omega)
    have hkc : Kp g M Wr Wc := Kp.of_below hbc (by omega) hu
    have HIC : Hid (∃ acc, refsFrom R [] pre = (acc, 0) ∧ acc.length ≤ pre.length ∧ (¬ M (g + 1) ∧ ¬ M (g + 2) ∧ ¬ M (g + 3)) ∧ Wc.heap[g + 1]? = some (.cells #[.int .i64 0] 33 (0, 0)) ∧ Wc.heap[g + 3]? = some (.cells #[.map (some (g + 2))] 67 (0, 0)) ∧ Wc.ownsMap Try.prog 22 unitElem (g + 2) acc.length (SnH acc) ∧ Below g w Wc) :=
      Lib.hid ⟨acc, a1, a2, ⟨a3, a4, a5⟩, (hbc.block _ (by omega)).trans a6, (hbc.block _ (by omega)).trans a7, mapO a8 (hbc.block _ (by omega)), a9.trans hkc.below⟩
    have HKC := Lib.hid hkc
    have HRG := Lib.hid hrg
    have HUC := Lib.hid huc
    have HCS := Lib.hid hcs
    have HCN := Lib.hid hcn
    have HGR := Lib.hid hgr
    have HNI := Lib.hid (hndin.under hkc.below)
    have HONE := Lib.hid (fun Wx (h : nd.In Wx Wx.heap.size) => oneOK nd ⟨#[112, 104, 97, 110, 100, 108, 101]⟩ Wx h (by decide))
    have HOV : Hid (oneV nd ⟨#[112, 104, 97, 110, 100, 108, 101]⟩ = (hv, fl, er)) := Lib.hid hov
    have HA1 := Lib.hid a1
    have HA3 : Hid (acc.length ≤ pre.length) := Lib.hid a2
    have HA2 : Hid (acc.length + 1 ≤ 134217728) := Lib.hid (by have h1 := hpre.length_le; have h2 := HPN.out; rw [List.length_append, List.length_singleton] at h1; omega)
    clear hat hcel hc1 hc2 hndin hpre hov hcs hbc hcn huc hkc hsz hu hbn hM a1 a2 a3 a4 a5 a6 a7 a8 a9 hrg hgr
    obtain ⟨xn, xpa, xpc, xps, xka, xkc, xks⟩ := nd
    simp only [Nd.val, Nd.pv, Nd.kv, Nd.name, Nd.pa, Nd.pc, Nd.props, Nd.ka, Nd.kc, Nd.kids] at hWc HCN HONE ⊢
    gi_wp2
    rw [← hWc]
    refine ⟨HIC.out, HKC.out, ?_⟩
    clear hWc
    intro W2 acc2 x1 x2 x3 x4 x5 x6 x7 x8 x9 ht2 hcl2 hfz2
    obtain rfl : acc2 = acc := by rw [HA1.out] at x1; exact (Prod.mk.inj x1).1.symm
    have hW2s : Wc.heap.size ≤ W2.heap.size := ht2.size
    have hgc : g + 5 ≤ Wc.heap.size := by have := HGR.out; have := HCS.out; omega
    have hin2 := (HNI.out.keep (w' := W2) (fun a _ => hcl2 a)).more (B' := W2.heap.size) (by omega)
    have HC := Lib.hid (HONE.out W2 hin2)
    have HU2 := Lib.hid (ht2.ups HUC.out hgc)
    have HX3 := Lib.hid (And.intro x3 (And.intro x4 x5))
    have HX6 := Lib.hid x6
    have HX7 := Lib.hid x7
    have HX8 := Lib.hid x8
    have HX9 := Lib.hid x9
    have HS2 : Hid (g + 5 ≤ W2.heap.size) := Lib.hid (by omega)
    have b0 := (hcl2 ⟨Wr.heap.size, 0, none⟩).trans (Lib.cell_of_heap HCN.out 0)
    have b1 := (hcl2 ⟨Wr.heap.size, 1, none⟩).trans (Lib.cell_of_heap HCN.out 1)
    have b2 := (hcl2 ⟨Wr.heap.size, 2, none⟩).trans (Lib.cell_of_heap HCN.out 2)
    have e0 : (#[Value.string xn, .slice xpa xps.length xpc, .slice xka xks.length xkc] : Array Value)[0]? = some (.string xn) := rfl
    have e1 : (#[Value.string xn, .slice xpa xps.length xpc, .slice xka xks.length xkc] : Array Value)[1]? = some (.slice xpa xps.length xpc) := rfl
    have e2 : (#[Value.string xn, .slice xpa xps.length xpc, .slice xka xks.length xkc] : Array Value)[2]? = some (.slice xka xks.length xkc) := rfl
    rw [e0] at b0
    rw [e1] at b1
    rw [e2] at b2
    have hov := HOV.out
    obtain ⟨O, hO⟩ : ∃ O, oneV (Nd.mk xn xpa xpc xps xka xkc xks) ⟨#[112, 104, 97, 110, 100, 108, 101]⟩ = O := ⟨_, rfl⟩
    rw [hO] at HC hov
    subst hov
    clear hO HOV HONE
    simp only [oneVal] at HC
    clear e0 e1 e2 x1 x2 x3 x4 x5 x6 x7 x8 x9 ht2 hcl2 hfz2 hin2 hgc hW2s
    gi_wp2_with fail
    refine ⟨trivial, rfl, (CallsIn.inRound l2 (callsIn_wide.2 HC.out)).mono ?_⟩
    rintro e W3 ⟨rfl, hb3⟩
    have y6 : W3.heap[g + 1]? = some (.cells #[.int .i64 0] 33 (0, 0)) := (hb3.block _ (by have := HS2.out; omega)).trans HX6.out
    have y7 : W3.heap[g + 3]? = some (.cells #[.map (some (g + 2))] 67 (0, 0)) := (hb3.block _ (by have := HS2.out; omega)).trans HX7.out
    have HY6 := Lib.hid y6
    have HY7 := Lib.hid y7
    have HY8 := Lib.hid (mapO HX8.out (hb3.block _ (by have := HS2.out; omega)))
    have HK3 := Lib.hid (Kp.of_below (n := g) hb3 (by have := HS2.out; omega) HU2.out)
    have HB3 := Lib.hid (HX9.out.trans (hb3.mono (by have := HS2.out; omega)))
    have HS3 : Hid (g + 5 ≤ W3.heap.size) := Lib.hid (by have := HS2.out; have := hb3.size; omega)
    have c0 : W3.cell? ⟨g + 1, 0, none⟩ = some (.int .i64 0) := by rw [Lib.cell_of_heap y6]; rfl
    have f0 := Lib.frozen_of_heap y6 0
    have c3 : W3.cell? ⟨g + 3, 0, none⟩ = some (.map (some (g + 2))) := by rw [Lib.cell_of_heap y7]; rfl
    obtain ⟨rn1, rn2, rn3, rn4, rn5⟩ := HRN.out
    -- the end of a round that says what is wrong
    have HEND : ∀ (z : Int), (refsOf R).2 = z → ∀ W4 : World, W4 = W3 ∨ W4 = W3.alloc (.cells #[] 71) → Kp g M W2 (W4.setCell ⟨g + 1, 0, none⟩ (.int .i64 z)) ∧ Below g w (W4.setCell ⟨g + 1, 0, none⟩ (.int .i64 z)) ∧ ¬ M (g + 1) ∧ (W4.setCell ⟨g + 1, 0, none⟩ (.int .i64 z)).heap[g + 1]? = some (.cells #[.int .i64 (refsOf R).2] 33 (0, 0)) := by
      intro z hz W4 hw4
      have hb4 : Below W3.heap.size W3 W4 := by
        rcases hw4 with rfl | rfl
        · exact Below.refl _ _
        · exact (Below.refl _ _).alloc (Nat.le_refl _) _
      have hs3 := HS3.out
      have hk4 : Kp g M W3 W4 := Kp.of_below hb4 (by omega) (HU2.out.more hb3.size)
      have y4 := (hb4.block (g + 1) (by omega)).trans HY6.out
      refine ⟨(HK3.out.trans hk4).trans (Kp.setCell W4 (by omega) HX3.out.1 0 _), (HB3.out.trans hk4.below).setCell (p := ⟨g + 1, 0, none⟩) (by show g ≤ g + 1; omega) _, HX3.out.1, ?_⟩
      rw [hz]
      simp [World.setCell, Array.getElem?_modify, y4]
    have HE := Lib.hid HEND
    clear HEND y6 y7 b0 b1 b2 HC
    by_cases her : er = 0
    · subst her
      cases fl
      · have HN := Lib.hid (rn2 rfl rfl)
        clear rn1 rn2 rn3 rn4 rn5 c0 f0 c3
        gi_wp2
        exact ⟨HK3.out, acc2, HN.out, by have := HA3.out; rw [List.length_append]; omega, HX3.out, HY6.out, HY7.out, HY8.out, HB3.out⟩
      · by_cases h3 : hv = 0 ∨ hv = 4294967295
        · have HN := Lib.hid (rn3 rfl rfl h3)
          have HRR := HRG.out
          by_cases h0 : hv = 0
          · subst h0
            clear rn1 rn2 rn3 rn4 rn5 c3 h3
            gi_wp2
            obtain ⟨k1, k2, k3, k4⟩ := HE.out 11 HN.out W3 (.inl rfl)
            exact ⟨k1, rfl, k2, k3, k4⟩
          · obtain rfl : hv = 4294967295 := by omega
            clear rn1 rn2 rn3 rn4 rn5 c3 h3
            gi_wp2
            obtain ⟨k1, k2, k3, k4⟩ := HE.out 11 HN.out W3 (.inl rfl)
            exact ⟨k1, rfl, k2, k3, k4⟩
        · have HKO := Lib.hid (keyH_ok HRG.out.1 HRG.out.2)
          have hhas := has_SnH acc2 hv
          have q0 : (hv == 0) = false := by rw [beq_eq_false_iff_ne]; omega
          have q1 : decide (hv > 4294967294) = false := decide_eq_false (by have := HRG.out.2; omega)
          have hal : Below W3.heap.size W3 (W3.alloc (.cells #[] 71)) := (Below.refl _ _).alloc (Nat.le_refl _) _
          have c0a := Lib.cell?_alloc_some (.cells #[] 71) c0
          have c3a := Lib.cell?_alloc_some (.cells #[] 71) c3
          have f0a : (W3.alloc (.cells #[] 71)).frozen? ⟨g + 1, 0, none⟩ = false := (World.frozen?_of_block (hal.block (g + 1) (by have := HS3.out; omega))).trans f0
          have HY8a := Lib.hid (mapO HY8.out (hal.block _ (by have := HS3.out; omega)))
          have HAL := Lib.hid hal
          clear hal
          cases hany : acc2.any (fun x => decide (x.1 = hv))
          · have HN := Lib.hid (rn5 rfl rfl h3 hany)
            rw [hany] at hhas
            clear rn1 rn2 rn3 rn4 rn5 h3 hany c0 f0 c0a f0a
            gi_wp2_with (first
              | (gi_at_lookup; refine wpListIn_lookup_own_unit _ rfl _ _ 67 rfl 22 71 lawU Try.underlying67 (zeroU _) (g + 2) acc2.length _ rfl HY8.out _ _ rfl HKO.out ?_)
              | (gi_at_mapUpdate; refine wpListIn_mapUpdate_own _ rfl _ _ _ 67 rfl 22 71 lawU Try.underlying67 unitElem (g + 2) acc2.length _ rfl HY8a.out (by have := HA2.out; unfold maxLen; omega) _ _ _ rfl rfl HKO.out (.agg []) [] unitElem_mk ?_; intro w5 hown5 hgrow5))
            have hs3 := HS3.out
            have hs4 := HAL.out.size
            have hku : Ups (g + 5) M (W3.alloc (.cells #[] 71)) := HU2.out.more (Nat.le_trans HK3.out.below.size hs4)
            have k4 : Kp g M (W3.alloc (.cells #[] 71)) w5 := Kp.grown hgrow5 hku (by omega) (fun k e => by cases e; exact ⟨by omega, HX3.out.2.1⟩)
            have k3 : Kp g M W3 (W3.alloc (.cells #[] 71)) := Kp.of_below HAL.out (by omega) (HU2.out.more HK3.out.below.size)
            have oth : ∀ k, k < g + 5 → k ≠ g + 2 → w5.heap[k]? = W3.heap[k]? := fun k hk hne => (hgrow5.block k (by omega) (fun e => hne (Option.some.inj e))).trans (HAL.out.block k (by omega))
            refine ⟨(HK3.out.trans k3).trans k4, acc2 ++ [(hv, p)], HN.out, ?_, HX3.out, (oth _ (by omega) (by omega)).trans HY6.out, (oth _ (by omega) (by omega)).trans HY7.out, ?_, HB3.out.trans (k3.trans k4).below⟩
            · have := HA3.out
              rw [List.length_append, List.length_append]
              simp only [List.length_singleton]
              omega
            · rw [SnH_snoc, List.length_append, List.length_singleton]
              exact hown5
          · have HN := Lib.hid (rn4 rfl rfl h3 hany)
            rw [hany] at hhas
            clear rn1 rn2 rn3 rn4 rn5 h3 hany c3a
            gi_wp2_with (gi_at_lookup; refine wpListIn_lookup_own_unit _ rfl _ _ 67 rfl 22 71 lawU Try.underlying67 (zeroU _) (g + 2) acc2.length _ rfl HY8.out _ _ rfl HKO.out ?_)
            obtain ⟨k1, k2, k3, k4⟩ := HE.out 9 HN.out (W3.alloc (.cells #[] 71)) (.inr rfl)
            exact ⟨k1, rfl, k2, k3, k4⟩
    · have k1 : (er != 0) = true := by rw [bne_iff_ne]; exact her
      have HN := Lib.hid (rn1 her)
      clear rn1 rn2 rn3 rn4 rn5 c3 her
      gi_wp2
      obtain ⟨k1, k2, k3, k4⟩ := HE.out er HN.out W3 (.inl rfl)
      exact ⟨k1, rfl, k2, k3, k4⟩
  case done =>
    rintro D M Wd hM hu hsz hD ⟨acc, a1, a2, ⟨a3, a4, a5⟩, a6, a7, a8, a9⟩ hd
    have c0 : Wd.cell? ⟨g + 1, 0, none⟩ = some (.int .i64 0) := by rw [Lib.cell_of_heap a6]; rfl
    have f0 := Lib.frozen_of_heap a6 0
    have hDg := (hu D hD).1
    have hd2 : (Wd.setCell ⟨g + 1, 0, none⟩ (.int .i64 0)).heap[D]? = some (.deferred (some [])) := (Below.heap_setCell _ _ _ _ (by show D ≠ g + 1; omega)).trans hd
    have HBF : Hid (Below g w ((Wd.setCell ⟨g + 1, 0, none⟩ (.int .i64 0)).putObj D (.deferred none))) := Lib.hid ((a9.setCell (p := ⟨g + 1, 0, none⟩) (by show g ≤ g + 1; omega) _).trans ⟨rfl, rfl, rfl, by simp, fun k hk => World.putObj_heap_other (by omega)⟩)
    have r0 : ((Wd.setCell ⟨g + 1, 0, none⟩ (.int .i64 0)).putObj D (.deferred none)).cell? ⟨g + 1, 0, none⟩ = some (.int .i64 0) := (World.cell?_of_block (World.putObj_heap_other (by show g + 1 ≠ D; omega))).trans (World.cell?_setCell_same' _ _ _ (by rw [c0]; rfl))
    have HR : Hid ((refsOf R).2 = 0) := Lib.hid (by rw [refsOf, a1])
    clear a1 a2 a3 a4 a5 a6 a7 a8 a9 hu hsz hM
    gi_wp2
    refine ⟨by simp, .inl ⟨_, _, rfl, run_takeDeferred hd2, ?_⟩⟩
    refine ⟨.int .i64 0, by simp [results, Try.results16, go_sem, r0], by rw [HR.out], ?_⟩
    rw [HG.out]
    exact HBF.out
  case stop =>
    rintro D c M pre Wd hM hu hsz hD hpre ⟨rfl, hx1, hx2, hx3⟩ hd
    have c0 : Wd.cell? ⟨g + 1, 0, none⟩ = some (.int .i64 (refsOf R).2) := by rw [Lib.cell_of_heap hx3]; rfl
    have hDg := (hu D hD).1
    have HBF : Hid (Below g w (Wd.putObj D (.deferred none))) := Lib.hid (hx1.trans ⟨rfl, rfl, rfl, by simp, fun k hk => World.putObj_heap_other (by omega)⟩)
    have r0 : (Wd.putObj D (.deferred none)).cell? ⟨g + 1, 0, none⟩ = some (.int .i64 (refsOf R).2) := (World.cell?_of_block (World.putObj_heap_other (by show g + 1 ≠ D; omega))).trans c0
    clear hx1 hx2 hx3 hu hsz hM c0
    gi_wp2
    refine ⟨by simp, .inl ⟨_, _, rfl, run_takeDeferred hd, ?_⟩⟩
    refine ⟨.int .i64 (refsOf R).2, by simp [results, Try.results16, go_sem, r0], rfl, ?_⟩
    rw [HG.out]
    exact HBF.out
end Go.Proofs.Ytijhjlpkbnajpaa

/-! Layer 8: a copy of a place; the handles of a tree whose handles are right. -/
namespace Go.Proofs.Ytijhjlpkbnajpaa
open Go.RowKit
set_option linter.unusedVariables false
set_option linter.unusedSimpArgs false

theorem refs_hand (R : Nd) : ∀ (l : List (List Nat)) (acc r : List (Int × List Nat)), refsFrom R acc l = (r, 0) → r = acc ++ l.filterMap (hOf R)
  | [], acc, r, h => by
    rw [refsFrom] at h
    have h' := (Prod.mk.inj h).1
    rw [← h']; simp
  | p :: l, acc, r, h => by
    rw [refsFrom] at h
    by_cases h0 : (refStep R acc p).2 = 0
    · rw [if_pos h0] at h
      have ih := refs_hand R l _ r h
      have hs : (refStep R acc p).1 = acc ++ (hOf R p).toList := by
        unfold refStep at h0 ⊢
        unfold hOf
        split at h0
        · rename_i hn; rw [hn]; simp
        · rename_i n hn
          rw [hn]
          simp only
          by_cases g1 : (oneV n phName).2.2 ≠ 0
          · rw [if_pos g1] at h0; exact absurd h0 g1
          rw [if_neg g1] at h0 ⊢
          by_cases g2 : (oneV n phName).2.1 = false
          · rw [if_pos g2, g2]; simp
          rw [if_neg g2] at h0 ⊢
          have g2' : (oneV n phName).2.1 = true := by simpa using g2
          by_cases g3 : (oneV n phName).1 = 0 ∨ (oneV n phName).1 = 4294967295
          · rw [if_pos g3] at h0; exact absurd h0 (by decide)
          rw [if_neg g3] at h0 ⊢
          by_cases g4 : acc.any (fun x => decide (x.1 = (oneV n phName).1)) = true
          · rw [if_pos g4] at h0; exact absurd h0 (by decide)
          rw [if_neg g4, g2']
          simp
      rw [ih, hs, List.append_assoc]
      congr 1
      cases hh : hOf R p <;> rw [List.filterMap_cons, hh] <;> rfl
    · rw [if_neg h0] at h
      exact absurd (Prod.mk.inj h).2 h0
/-- All handles of a tree whose handles are right. -/
theorem refs_all {R : Nd} (h : (refsOf R).2 = 0) : (refsOf R).1 = (placesN R []).filterMap (hOf R) := by
  have := refs_hand R (placesN R []) [] (refsOf R).1 (by rw [← h]; rfl)
  simpa using this

set_option maxRecDepth 20000 in
set_option maxHeartbeats 2000000 in
theorem iclone_any (A : Option Addr) (n c : Nat) (p : List Nat) (W : World) (hp : Cel W W.heap.size A n (ints p)) (hnc : n ≤ c) (hc : c ≤ 9223372036854775807) (hn : n ≤ 1099511627776) :
    Calls Try.prog 18 #[.slice A n c] W fun e W' => (∃ v, e = .returned v ∧ W'.ownsRow W.heap.size 3 1 v n (ints p)) ∧ Below W.heap.size W W' := by
  have hl : p.length = n := by have := hp.1; rwa [List.length_map] at this
  have q : ∀ (w : World) (a : Option Addr) (n c n' c' : Nat), (binOp .eql 42 (.slice a n c) (.slice none n' c')).run Try.prog w = .ok (.bool a.isNone) w := fun w a n c n' c' => Lib.run_eql_slice_nil w _ _ a n c n' c' Try.underlying42
  have u22 : ∀ w, Sem.run Try.prog (underlying 42) w = .ok (TypeDesc.slice 3) w := run_underlying Try.underlying42
  rcases A with _ | a
  · have h0 : n = 0 := by
      rcases Nat.eq_zero_or_pos n with h | h
      · exact h
      · obtain ⟨b, o, e, _⟩ := hp.2 h; cases e
    subst h0
    obtain rfl : p = [] := List.eq_nil_of_length_eq_zero hl
    clear hp hl
    go_enter Try.func18, Try.ntmps18
    go_wp2
    go_ret
    exact ⟨⟨_, rfl, World.ownsRow_nil _ _ _ _⟩, Below.refl _ _⟩
  · have h0 := own_new W W.heap.size (Nat.le_refl _)
    have hal := (Below.refl W.heap.size W).alloc (Nat.le_refl _) (.cells #[] 3)
    have hp' := (hp.below hal).more (B' := (W.alloc (.cells #[] 3)).heap.size) (by simp)
    obtain ⟨v', w7, r7, g1, g2, g3⟩ := app_ints (xs := []) c h0 hp' (by simp; omega) (by simp) 42
    have H1 : Hid (w7.ownsRow W.heap.size 3 1 v' n (ints p)) := Lib.hid (by rw [List.length_map] at g1; rw [List.nil_append, hl] at g1; exact g1)
    have H2 : Hid (Below W.heap.size W w7) := Lib.hid (hal.grown g2 (by simp) (fun k hk => by simp [Value.ownBlock] at hk; omega))
    clear hp hp' h0 hal g1 g2 g3 hl
    go_enter Try.func18, Try.ntmps18
    go_wp2_with (at_builtin; refine Lib.wpList_append_run_sl _ rfl _ _ _ rfl _ _ rfl rfl r7 ?_)
    go_ret
    exact ⟨⟨_, rfl, H1.out⟩, H2.out⟩
end Go.Proofs.Ytijhjlpkbnajpaa

/-! Layer 8: the program's Index. -/
namespace Go.Proofs.Ytijhjlpkbnajpaa
open Go.RowKit
set_option linter.unusedVariables false
set_option linter.unusedSimpArgs false
attribute [local go_sem] Oper.semAt_some

theorem info_ref2 : (Try.prog.info? 44).map (fun i => (i.zero, i.size, i.bytes)) = some (some (.agg #[.int .u32 0, .slice none 0 0]), 2, 32) := by kernel_rfl
/-- A pair of values shows a handle and a place, whose numbers lie in a block that is not one of M's, not the list's own, and not the variable's. -/
def RefO (M : Nat → Prop) (own : Option Nat) (w : World) (lb : Nat) (x : Value × Value) (r : Int × List Nat) : Prop :=
  x.1 = .int .u32 r.1 ∧ ∃ A c, x.2 = .slice A r.2.length c ∧ r.2.length ≤ c ∧ c ≤ 9223372036854775807 ∧
    (0 < r.2.length → ∃ b o, A = some ⟨b, o, none⟩ ∧ lb ≠ b ∧ b < w.heap.size ∧ ¬ M b ∧ own ≠ some b ∧ ∀ i, i < r.2.length → w.cell? ⟨b, o + i, none⟩ = (ints r.2)[i]?)
theorem RefO.keep {M M' : Nat → Prop} {own own' : Option Nat} {w w' : World} {lb : Nat} {x : Value × Value} {r : Int × List Nat} (h : RefO M own w lb x r) (hs : w.heap.size ≤ w'.heap.size)
    (hk : ∀ b, b < w.heap.size → lb ≠ b → ¬ M b → own ≠ some b → w'.heap[b]? = w.heap[b]? ∧ ¬ M' b ∧ own' ≠ some b) : RefO M' own' w' lb x r := by
  obtain ⟨h1, A, c, h2, h3, h4, h5⟩ := h
  refine ⟨h1, A, c, h2, h3, h4, fun h0 => ?_⟩
  obtain ⟨b, o, e, k1, k2, k3, k4, k5⟩ := h5 h0
  obtain ⟨g1, g2, g3⟩ := hk b k2 k1 k3 k4
  exact ⟨b, o, e, k1, Nat.lt_of_lt_of_le k2 hs, g2, g3, fun i hi => (World.cell?_of_block g1).trans (k5 i hi)⟩
theorem RefO.refV {M : Nat → Prop} {own : Option Nat} {w : World} {lb : Nat} {x : Value × Value} {r : Int × List Nat} (h : RefO M own w lb x r) : RefV w w.heap.size x r := by
  obtain ⟨h1, A, c, h2, h3, h4, h5⟩ := h
  refine ⟨h1, A, c, h2, ⟨by simp, fun h0 => ?_⟩, h3, h4⟩
  obtain ⟨b, o, e, _, k2, _, _, k5⟩ := h5 h0
  exact ⟨b, o, e, k2, k5⟩
/-- The list so far. -/
def IdxV (lb B : Nat) (M : Nat → Prop) (v : Value) (vs : List (Value × Value)) (pre : List (Int × List Nat)) (W : World) : Prop :=
  W.heap[lb]? = some (.cells #[v] 32 (0, 0)) ∧ W.ownsRow B 44 2 v pre.length (flat2 vs) ∧ Two (RefO M v.ownBlock W lb) vs pre ∧ ∀ k, v.ownBlock = some k → ¬ M k
theorem IdxV.turn {lb B : Nat} {M M' : Nat → Prop} {v : Value} {vs : List (Value × Value)} {pre : List (Int × List Nat)} {W W' : World} (h : IdxV lb B M v vs pre W) (hlb : ¬ M lb) (ht : Turn M M' W W') : IdxV lb B M' v vs pre W' := by
  obtain ⟨h1, h2, h3, h4⟩ := h
  have hn : ∀ k, k < W.heap.size → ¬ M k → ¬ M' k := fun k hk hnk h => (ht.fresh k h).elim hnk (fun h => by omega)
  refine ⟨(ht.same _ (Array.getElem?_eq_some_iff.1 h1).1 hlb).trans h1, ⟨h2.1, ?_⟩, h3.mono fun x r hx => hx.keep ht.size fun b hb _ hm ho => ⟨ht.same b hb hm, hn b hb hm, ho⟩, fun k hk => hn k (h2.lt k hk).2 (h4 k hk)⟩
  rcases h2.2 with e | ⟨g, cap, cur, rfl, hb, hg, r⟩
  · exact .inl e
  · exact .inr ⟨g, cap, cur, rfl, hb, (ht.same _ (Array.getElem?_eq_some_iff.1 hg).1 (h4 g rfl)).trans hg, r⟩

/-- One more handle. -/
theorem idx_step {lb B n : Nat} {M : Nat → Prop} {v u : Value} {vs : List (Value × Value)} {pre : List (Int × List Nat)} {W W3 : World} {hv : Int} {p : List Nat} (h : IdxV lb B M v vs pre W) (hu : Ups B M W) (hlb : lb < B) (hB : B ≤ W.heap.size) (hn : n ≤ lb)
    (hb : Below W.heap.size W W3) (hrow : W3.ownsRow W.heap.size 3 1 u p.length (ints p)) (hlen : pre.length ≤ 134217728) :
    ∃ A' c' w5, (Builtin.append_ #[32, 32] 32 #[v, .slice (some ⟨W3.heap.size, 0, none⟩) 1 1]).run Try.prog (W3.alloc (.cells #[.int .u32 hv, u] 44)) = .ok (.slice A' (pre.length + 1) c') w5 ∧ w5.heap[lb]? = some (.cells #[v] 32 (0, 0)) ∧
      IdxV lb B M (.slice A' (pre.length + 1) c') (vs ++ [(.int .u32 hv, u)]) (pre ++ [(hv, p)]) (w5.setCell ⟨lb, 0, none⟩ (.slice A' (pre.length + 1) c')) ∧ Kp n M W3 (w5.setCell ⟨lb, 0, none⟩ (.slice A' (pre.length + 1) c')) := by
  obtain ⟨h1, h2, h3, h4⟩ := h
  have hs := hb.size
  have h2' := own_on h2 hb
  obtain ⟨Au, cu, rfl, hcelu, hcu1, hcu2, hub⟩ := owned_cel hrow
  obtain ⟨i0, hi, hz, hs1, hby⟩ := info_any info_ref2
  obtain ⟨A', c', w5, r5, o5, b5, g5, e5⟩ := app_pair Try.underlying32 hi hz hs1 hby rfl h2' (.int .u32 hv, .slice Au p.length cu) rfl rfl (by omega) (by omega) (by omega) 32
  have hlt := h2.lt
  have hlb3 : w5.heap[lb]? = some (.cells #[v] 32 (0, 0)) := (b5.block lb hlb).trans ((hb.block lb (by omega)).trans h1)
  have hown : ∀ k, (Value.slice A' (pre.length + 1) c').ownBlock = some k → (v.ownBlock = some k) ∨ W3.heap.size < k := fun k hk => by
    rcases e5 with e | e
    · rw [e] at hk; exact .inl hk
    · rw [e] at hk; exact .inr (by have := Option.some.inj hk; omega)
  have hlt5 := o5.lt
  have hnew : ∀ b, b < W3.heap.size → lb ≠ b → v.ownBlock ≠ some b → (w5.setCell ⟨lb, 0, none⟩ (.slice A' (pre.length + 1) c')).heap[b]? = W3.heap[b]? ∧ (Value.slice A' (pre.length + 1) c').ownBlock ≠ some b := fun b hb3 hne ho =>
    ⟨(Below.heap_setCell _ _ _ _ (by show b ≠ lb; omega)).trans (g5.block b hb3 (fun e => ho e.symm)), fun e => (hown b e).elim ho (fun h => by omega)⟩
  have hs5 := g5.size
  have hsz : (w5.setCell ⟨lb, 0, none⟩ (.slice A' (pre.length + 1) c')).heap.size = w5.heap.size := by simp [World.setCell]
  refine ⟨A', c', w5, r5, hlb3, ⟨by simp [World.setCell, Array.getElem?_modify, hlb3], ?_, ?_, fun k hk hm => ?_⟩, ?_⟩
  · rw [List.length_append, List.length_singleton]
    refine o5.kept (row := some lb) ⟨rfl, rfl, rfl, by simp [World.setCell], fun k hk hne => Below.heap_setCell _ _ _ _ (fun e => hne (by rw [show k = lb from e]))⟩ ?_
    rcases h : (Value.slice A' (pre.length + 1) c').ownBlock with _ | k
    · exact .inl rfl
    · exact .inr (fun e => by have := (hlt5 k h).1; have := Option.some.inj e; omega)
  · refine Two.app (h3.mono fun x r hx => hx.keep (by omega) fun b hb3 hne hm ho => ?_) (.cons ⟨rfl, Au, cu, rfl, hcu1, hcu2, fun h0 => ?_⟩ .nil)
    · obtain ⟨b, o, e, hbl, hc⟩ := hcelu.2 h0
      subst e
      have hbb := hub b rfl
      obtain ⟨q1, q2⟩ := hnew b hbb.2 (by omega) (fun e => by have := (hlt b e).2; omega)
      exact ⟨b, o, rfl, by omega, by omega, fun hm => by have := (hu b hm).2; omega, q2, fun i hi => (World.cell?_of_block q1).trans (hc i hi)⟩
    · obtain ⟨q1, q2⟩ := hnew b (by omega) hne ho
      exact ⟨q1.trans (hb.block b hb3), hm, q2⟩
  · rcases hown k hk with h | h
    · exact h4 k h hm
    · have := (hu k hm).2; omega
  · have hm3 : Ups B M W3 := hu.more hs
    exact (Kp.grown g5 hm3 (by omega) (fun k e => ⟨by have := (hlt k e).1; omega, h4 k e⟩)).trans (Kp.setCell w5 hn (fun hm => by have := (hu lb hm).1; omega) 0 _)

/-- append at an operation, in a round. -/
theorem wpin_app {F : Fence} {n : Nat} {P : Program} {w w' : World} {o : Oper} {a : Act} {K : Act → World → Prop} {Q : Exit → Act → World → Prop} {t u : TypeId} (s x : Operand) (ho : o.op = .call { callee := .builtin .append, args := #[s, x], argTypes := #[t, u] })
    (y z : Value) (hs : a.eval s = y) (hx : a.eval x = z) {v : Value} (hr : (Builtin.append_ #[t, u] o.type #[y, z]).run P w = .ok v w') (hK : K (a.put o.dst v) w') : o.wpIn F n P a w K Q := by
  unfold Oper.wpIn
  refine ⟨?_, ?_⟩
  · simp [Oper.about, ho, resolve, Target.leads, Sem.run_pure]
  · rw [Oper.semAt_plain F _ _ (by rw [ho]; intro c hc'; cases hc')]
    simp only [execOp, ho, resolve, invoke, builtin, Sem.run_bind, Sem.run_pure, Result.andThen_ok, List.map_toArray, List.map_cons, List.map_nil, hs, hx, hr]
    exact hK
theorem tbox_cells {W : World} {g : Nat} {a b c d e : Value} (h : W.heap[g]? = some (.cells #[a, b, c, d, e] 29 (0, 0))) (o : Obj) : (W.alloc o).cell? ⟨g, 0, none⟩ = some a ∧ (W.alloc o).cell? ⟨g, 1, none⟩ = some b ∧ (W.alloc o).cell? ⟨g, 2, none⟩ = some c ∧ (W.alloc o).cell? ⟨g, 3, none⟩ = some d ∧ (W.alloc o).cell? ⟨g, 4, none⟩ = some e :=
  ⟨Lib.cell?_alloc_some o ((Lib.cell_of_heap h 0).trans rfl), Lib.cell?_alloc_some o ((Lib.cell_of_heap h 1).trans rfl), Lib.cell?_alloc_some o ((Lib.cell_of_heap h 2).trans rfl), Lib.cell?_alloc_some o ((Lib.cell_of_heap h 3).trans rfl), Lib.cell?_alloc_some o ((Lib.cell_of_heap h 4).trans rfl)⟩

set_option maxRecDepth 20000 in
set_option maxHeartbeats 8000000 in
theorem indexOK : IndexOK := by
  intro t w hin hh
  have hal : ∀ o, Below w.heap.size w (w.alloc o) := fun o => (Below.refl _ w).alloc (Nat.le_refl _) o
  have HC := Lib.hid (fun o => hcheck_any t (w.alloc o) (hin.on (hal o)) hh)
  have HNA := Lib.hid (handles_any t)
  have HNW := Lib.hid (fun (k : Nat) (W : World) (h : Below w.heap.size w W) hk => handles_walks t w.heap.size k W (hin.under h) h.size hk hh)
  have HIN := Lib.hid hin
  have HPN : Hid ((placesN t.root []).length ≤ 134217728) := Lib.hid (Nat.le_trans (places_len t.root []).1 hh)
  have HERR : Hid ((refsOf t.root).2 ≠ 0 → (refsOf t.root).1 = []) := Lib.hid refsOf_err
  have HALL : Hid ((refsOf t.root).2 = 0 → (refsOf t.root).1 = (placesN t.root []).filterMap (hOf t.root)) := Lib.hid refs_all
  have HPL : Hid (∀ q ∈ placesN t.root [], q.length ≤ 134217728) := Lib.hid (fun q hq => by have := (places_len t.root []).2 q hq; simp at this; omega)
  obtain ⟨R, hR⟩ : ∃ R, t.root = R := ⟨_, rfl⟩
  rw [hR] at HNW HC HERR HALL HPN HPL ⊢
  obtain ⟨RS, hRS⟩ : ∃ RS, refsOf R = RS := ⟨_, rfl⟩
  rw [hRS] at HC HERR HALL ⊢
  clear hR hRS hin hh
  obtain ⟨rl, er⟩ := RS
  simp only at HC HERR HALL ⊢
  obtain ⟨boot, ra, rc, rs, ⟨nm, pa, pc, ps, ka, kc, ks⟩⟩ := t
  simp only [tbox, Tr.val, Tr.rv, Nd.val, Nd.pv, Nd.kv, Nd.name, Nd.pa, Nd.pc, Nd.props, Nd.ka, Nd.kc, Nd.kids] at HNA HNW HC ⊢
  have HB0 := Lib.hid (hal (.cells #[.int .u32 boot, .slice ra rs.length rc, .string nm, .slice pa ps.length pc, .slice ka ks.length kc] 29))
  have HG0 := Lib.hid (heap_alloc_new w (.cells #[.int .u32 boot, .slice ra rs.length rc, .string nm, .slice pa ps.length pc, .slice ka ks.length kc] 29))
  have HS0 : Hid ((w.alloc (.cells #[.int .u32 boot, .slice ra rs.length rc, .string nm, .slice pa ps.length pc, .slice ka ks.length kc] 29)).heap.size = w.heap.size + 1) := Lib.hid (by simp)
  clear hal
  refine (callsIn_wide (n := 0)).1 ?_
  refine callsIn_of_wp_marks Try.func8 rfl trivial ?_ rfl
  simp only [Try.ntmps8, List.size_toArray, List.length_cons, List.length_nil, Nat.reduceAdd, Nat.reduceSub, Array.replicate_succ, Array.replicate_zero, List.push_toArray, List.append_toArray, List.nil_append, List.cons_append]
  gi_wp2_with fail
  refine ⟨trivial, rfl, (callsIn_wide.2 (HC.out _)).mono ?_⟩
  rintro e w1 ⟨rfl, hb1⟩
  have HB1 := Lib.hid (HB0.out.trans (hb1.mono (by have := HS0.out; omega)))
  have HG1 := Lib.hid ((hb1.block _ (by have := HS0.out; omega)).trans HG0.out)
  have HS1 : Hid (w.heap.size + 1 ≤ w1.heap.size) := Lib.hid (by have := HS0.out; have := hb1.size; omega)
  clear hb1
  by_cases her : er = 0
  · subst her
    have HL := Lib.hid (HALL.out rfl)
    obtain ⟨d0, d1, d2, d3, d4⟩ := tbox_cells HG1.out (.cells #[.slice none 0 0] 32)
    gi_wp2_with (refine ⟨trivial, rfl, (callsIn_wide.2 (HNA.out _)).mono ?_⟩; rintro e W4 ⟨rfl, hW4⟩)
    clear hW4 HNA d0 d1 d2 d3 d4
    obtain ⟨lb, hlb⟩ : ∃ lb, w1.heap.size = lb := ⟨_, rfl⟩
    have HLB := Lib.hid hlb
    obtain ⟨W2, hW2⟩ : ∃ W2, (w1.alloc (.cells #[.slice none 0 0] 32)).alloc (.cells #[.int .u32 boot, .slice ra rs.length rc, .string nm, .slice pa ps.length pc, .slice ka ks.length kc] 29) = W2 := ⟨_, rfl⟩
    have z2 : W2.heap.size = lb + 2 := by rw [← hW2]; simp [hlb]
    have b2 : Below lb w1 W2 := by rw [← hW2, ← hlb]; exact ((Below.refl _ _).alloc (Nat.le_refl _) _).alloc (by simp) _
    have n1 : W2.heap[lb]? = some (.cells #[.slice none 0 0] 32 (0, 0)) := by rw [← hW2, Below.heap_alloc _ _ _ (by simp [hlb]), ← hlb]; exact heap_alloc_new _ _
    have n2 : W2.heap[lb + 1]? = some (.cells #[.int .u32 boot, .slice ra rs.length rc, .string nm, .slice pa ps.length pc, .slice ka ks.length kc] 29 (0, 0)) := by
      rw [← hW2, ← hlb]
      have := heap_alloc_new (w1.alloc (.cells #[.slice none 0 0] 32)) (.cells #[.int .u32 boot, .slice ra rs.length rc, .string nm, .slice pa ps.length pc, .slice ka ks.length kc] 29)
      rwa [World.size_alloc] at this
    rw [hW2]
    clear hW2
    rw [hlb] at HS1 ⊢
    have hbw2 : Below w.heap.size w W2 := HB1.out.trans (b2.mono (by have := HS1.out; omega))
    have HW := Lib.hid (HNW.out (lb + 1) W2 hbw2 n2)
    have HZ2 := Lib.hid z2
    have HI0 : Hid ((∃ v vs, IdxV lb (lb + 2) (fun _ => False) v vs [] W2) ∧ Below w.heap.size w W2) := Lib.hid ⟨⟨.slice none 0 0, [], n1, World.ownsRow_nil _ _ _ _, .nil, fun k hk => by simp [Value.ownBlock] at hk⟩, hbw2⟩
    clear z2 b2 n1 n2 hbw2 hlb HNW
    refine rangeFunc_iter (gf := 24) (lb := #[.pointer (some ⟨lb + 1, 0, none⟩)]) rfl (enters_of Try.func24 (by kernel_rfl) rfl) HW.out (Below.refl _ _) (by have := HZ2.out; have := HS1.out; omega) (fun Wx p args h => by obtain ⟨A, c, rfl, _⟩ := h; rfl) (lb + 2) (by have := HZ2.out; omega) (fun _ => False) (fun k h => h.elim)
      (fun M pre Wx => (∃ v vs, IdxV lb (lb + 2) M v vs pre Wx) ∧ Below w.heap.size w Wx) (fun c M pre Wx => False)
      (fun T T' s A C hs hB hT ht hst => by
        obtain ⟨⟨v, vs, h⟩, hb⟩ := hs
        exact ⟨⟨v, vs, h.turn (fun h => by have := (hT lb h).1; omega) ht⟩, hb.trans ((ht.below hT hB).mono (by have := HS1.out; omega))⟩)
      (fun c T T' s A C hs hB hT ht hst => hs) HI0.out ?round ?done ?stop
    case round =>
      rintro l2 M pre ⟨hv, p⟩ args Wr hM hu hsz hbn ⟨⟨v, vs, hix⟩, hbw⟩ ⟨A, c, rfl, hcel, hc1, hc2, hr1, hr2⟩ hpre
      have hmem : (hv, p) ∈ (placesN R []).filterMap (hOf R) := hpre.subset (by simp)
      have hplen : p.length ≤ 134217728 := by
        obtain ⟨q, hq, he⟩ := List.mem_filterMap.1 hmem
        have e : q = p := by
          unfold hOf at he
          split at he
          · split at he
            · exact (Prod.mk.inj (Option.some.inj he)).2
            · cases he
          · cases he
        rw [← e]; exact HPL.out q hq
      have hprl : pre.length + 1 ≤ 134217728 := by
        have h1 := hpre.length_le
        have h2 := List.length_filterMap_le (hOf R) (placesN R [])
        have h3 := HPN.out
        rw [List.length_append, List.length_singleton] at h1
        omega
      have HIX : Hid ((∃ v vs, IdxV lb (lb + 2) M v vs pre Wr) ∧ Below w.heap.size w Wr) := Lib.hid ⟨⟨v, vs, hix⟩, hbw⟩
      have HPR : Hid (p.length ≤ 134217728 ∧ pre.length + 1 ≤ 134217728) := Lib.hid ⟨hplen, hprl⟩
      have HCEL := Lib.hid hcel
      have HC12 := Lib.hid (And.intro hc1 hc2)
      have HU := Lib.hid hu
      have HWS : Hid (lb + 2 ≤ Wr.heap.size) := Lib.hid (by have := HZ2.out; omega)
      clear hmem hplen hprl hix hbw hcel hc1 hc2 hu hsz hbn hpre hM
      gi_wp2
      refine ⟨HIX.out, Kp.refl _ _ _, ?_⟩
      intro W3 v3 vs3 hix3 hbw3 ht3 hcl3 hfz3
      obtain ⟨i1, i2, i3, i4⟩ := hix3
      obtain ⟨Av, cv, rfl, hcelv, hcv1, hcv2, hob⟩ := owned_cel2 i2
      have HIX3 : Hid (IdxV lb (lb + 2) M (.slice Av pre.length cv) vs3 pre W3) := Lib.hid ⟨i1, i2, i3, i4⟩
      have HU3 := Lib.hid (ht3.ups HU.out HWS.out)
      have HS3 : Hid (lb + 2 ≤ W3.heap.size) := Lib.hid (Nat.le_trans HWS.out ht3.size)
      have HB3 := Lib.hid hbw3
      have c0 : W3.cell? ⟨lb, 0, none⟩ = some (.slice Av pre.length cv) := by rw [Lib.cell_of_heap i1]; rfl
      have HC0 := Lib.hid c0
      have CL := Lib.hid (iclone_any A p.length c p W3.drew ((HCEL.out.keep (w' := W3.drew) (fun a _ => hcl3 a)).more ht3.size) HC12.out.1 HC12.out.2 (by have := HPR.out.1; omega))
      clear i1 i2 i3 i4 hcelv hcv1 hcv2 hob ht3 hcl3 hfz3 hbw3
      gi_wp2_with fail
      refine in_beginF [7] (S := fun W => W.cell? ⟨lb, 0, none⟩ = some (.slice Av pre.length cv)) (by kernel_rfl) HC0.out (fun hHeld => ?_)
      refine in_take 0 (fun _ => trivial) rfl (by kernel_rfl) (by kernel_rfl) (by kernel_rfl) (by kernel_rfl) (fun _ _ _ h => h) (by rfl) (by kernel_rfl) hHeld (v := ?_) (fun w hSw => ?_) (fun _ => ?_)
      rotate_left
      · ((try dsimp only at hSw); go_simp; (try with_reducible rfl))
      simp only [Act.put, List.setIfInBounds_toArray, List.set_cons_zero, List.set_cons_succ]
      refine in_take 1 (fun _ => trivial) rfl (by kernel_rfl) (by kernel_rfl) (by kernel_rfl) (by kernel_rfl) (fun _ _ _ h => h) (by rfl) (by kernel_rfl) hHeld (v := ?_) (fun w hSw => ?_) (fun _ => ?_)
      rotate_left
      · ((try dsimp only at hSw); go_simp; (try with_reducible rfl))
      simp only [Act.put, List.setIfInBounds_toArray, List.set_cons_zero, List.set_cons_succ]
      refine in_take 2 (fun _ => trivial) rfl (by kernel_rfl) (by kernel_rfl) (by kernel_rfl) (by kernel_rfl) (fun _ _ _ h => h) (by rfl) (by kernel_rfl) hHeld (v := ?_) (fun w hSw => ?_) (fun _ => ?_)
      rotate_left
      · ((try dsimp only at hSw); go_simp; (try with_reducible rfl))
      simp only [Act.put, List.setIfInBounds_toArray, List.set_cons_zero, List.set_cons_succ]
      refine in_call 3 (by kernel_rfl) rfl (by rfl) (fun K hK => ?_)
      refine ⟨fun _ _ => trivial, ?_⟩
      go_simp
      refine ⟨rfl, (CallsIn.inRound l2 (callsIn_wide.2 CL.out)).mono ?_⟩
      rintro e W4 ⟨⟨u, rfl, hown⟩, hb4⟩
      obtain ⟨Au, cu, hue, _⟩ := owned_cel hown
      subst hue
      have hb4' : Below W3.heap.size W3 W4 := (Below.refl W3.heap.size W3).drew.trans hb4
      obtain ⟨A', c', w5, r5, hl5, hix5, hk5⟩ := idx_step (n := w.heap.size) (hv := hv) HIX3.out HU3.out (by omega) HS3.out (by have := HS1.out; omega) hb4' hown (by have := HPR.out.2; omega)
      have HIX5 := Lib.hid hix5
      have HK5 := Lib.hid ((Kp.of_below (n := w.heap.size) hb4' (by have := HS3.out; have := HS1.out; omega) HU3.out).trans hk5)
      have HR5 := Lib.hid r5
      have q0 : W4.cell? ⟨lb, 0, none⟩ = some (.slice Av pre.length cv) := (hb4'.cell (p := ⟨lb, 0, none⟩) (by have := HS3.out; show lb < _; omega)).trans HC0.out
      have q1 := Lib.cell?_alloc_some (.cells #[.int .u32 hv, .slice Au p.length cu] 44) q0
      have q2 : w5.cell? ⟨lb, 0, none⟩ = some (.slice Av pre.length cv) := by rw [Lib.cell_of_heap hl5]; rfl
      have q3 := Lib.frozen_of_heap hl5 0
      have Q0 := Lib.hid q0
      have Q1 := Lib.hid q1
      have Q2 := Lib.hid q2
      have Q3 := Lib.hid q3
      clear hown hb4 hb4' hl5 hix5 hk5 r5 q0 q1 q2 q3 CL
      dsimp only
      refine hK.out _ _ Q0.out (fun hHeld => ?_)
      clear hK K
      refine in_take 4 (fun _ => trivial) rfl (by kernel_rfl) (by kernel_rfl) (by kernel_rfl) (by kernel_rfl) (fun _ _ _ h => h) (by rfl) (by kernel_rfl) hHeld (v := ?_) (fun w hSw => ?_) (fun _ => ?_)
      rotate_left
      · ((try dsimp only at hSw); go_simp; (try with_reducible rfl))
      simp only [Act.put, List.setIfInBounds_toArray, List.set_cons_zero, List.set_cons_succ]
      refine in_call 5 (by kernel_rfl) rfl (by rfl) (fun K hK => ?_)
      refine ⟨fun _ _ => trivial, ?_⟩
      go_simp
      refine hK.out _ _ Q1.out (fun hHeld => ?_)
      clear hK K
      refine in_call 6 (by kernel_rfl) rfl (by rfl) (fun K hK => ?_)
      refine wpin_app _ _ rfl _ _ rfl rfl HR5.out ?_
      simp only [Act.put, List.setIfInBounds_toArray, List.set_cons_zero, List.set_cons_succ]
      refine hK.out _ _ Q2.out (fun hHeld => ?_)
      clear hK K
      have q2 := Q2.out
      have q3 := Q3.out
      refine in_free 7 (by kernel_rfl) rfl (by rfl) (by kernel_rfl) (fun K hK => ?_)
      refine ⟨fun _ _ => trivial, ?_⟩
      go_simp
      refine hK.out _ _ ?_
      clear hK K
      refine in_done (by kernel_rfl) ?_ _
      clear hHeld
      gi_wp2
      exact ⟨HK5.out, ⟨_, _, HIX5.out⟩, HB3.out.trans HK5.out.below⟩
    case done =>
      rintro D M Wd hM hu hsz hD ⟨⟨v, vs, hix⟩, hbw⟩ hd
      obtain ⟨h1, h2, h3, h4⟩ := hix
      obtain ⟨Av, cv, rfl, hcel, hc1, hc2, hob⟩ := owned_cel2 h2
      have c0 : Wd.cell? ⟨lb, 0, none⟩ = some (.slice Av ((placesN R []).filterMap (hOf R)).length cv) := by rw [Lib.cell_of_heap h1]; rfl
      have hDb := (hu D hD).1
      have hbd : ∀ k, k ≠ D → (Wd.putObj D (.deferred none)).heap[k]? = Wd.heap[k]? := fun k hk => World.putObj_heap_other hk
      have HBF : Hid (Below w.heap.size w (Wd.putObj D (.deferred none))) := Lib.hid (hbw.trans ⟨rfl, rfl, rfl, by simp, fun k hk => hbd k (by have := HS1.out; omega)⟩)
      have hturn : Turn M M Wd (Wd.putObj D (.deferred none)) := Turn.putObj Wd hD _
      have h3' := h3.mono fun x r hx => (hx.keep hturn.size fun b hb _ hm ho => ⟨hturn.same b hb hm, hm, ho⟩).refV
      have h2' := (IdxV.turn ⟨h1, h2, h3, h4⟩ (fun h => by have := (hu lb h).1; omega) hturn).2.1
      obtain ⟨Av', cv', e', hcel', _, _, _⟩ := owned_cel2 h2'
      simp only [Value.slice.injEq, true_and] at e'
      obtain ⟨rfl, rfl⟩ := e'
      have HSH : Hid (RefShow (Wd.putObj D (.deferred none)) (Wd.putObj D (.deferred none)).heap.size Av rl.length rl) := Lib.hid (by rw [HL.out]; exact ⟨vs, hcel', h3'⟩)
      rw [← HL.out] at c0 hc1
      clear h1 h2 h3 h4 hcel hob hturn h3' h2' hcel' hbd hDb hu hsz hM hbw
      generalize rl.length = n at *
      gi_wp2
      refine ⟨by simp, .inl ⟨_, _, rfl, run_takeDeferred hd, ?_⟩⟩
      exact ⟨.tuple #[.slice Av n cv, .int .i64 0], by simp [results, Try.results8, go_sem], ⟨Av, n, cv, rfl, HSH.out, hc1, hc2⟩, HBF.out⟩
    case stop =>
      rintro D c M pre Wd hM hu hsz hD hpre h hd
      exact h.elim
  · have k1 : (er != 0) = true := by rw [bne_iff_ne]; exact her
    have hrl := HERR.out her
    subst hrl
    clear her
    gi_wp2
    exact ⟨.tuple #[.slice none 0 0, .int .i64 er], by simp [results, Try.results8, go_sem], ⟨none, 0, 0, rfl, RefShow.nil _ _ _, Nat.le_refl _, by omega⟩, HB1.out⟩
end Go.Proofs.Ytijhjlpkbnajpaa
