/-
  Iter, part 7.
-/
import Derived.Test.YtcfinbapfhhpgaaGreatDoorIter6
import Derived.Test.YtcfinbapfhhpgaaGreatDoorBase6
namespace Go.Proofs.YtcfinbapfhhpgaaGreatDoor
open Go.RowKit
set_option linter.unusedVariables false
set_option linter.unusedSimpArgs false
set_option maxRecDepth 20000
set_option maxHeartbeats 16000000
def qa6_ (R : Nd) : Nat -> List Nat -> Int -> Except Int (List Nat × Int)
 | 0, _, _ => .error 14
 | k + 1, p, l => match qaj_ R p with
  | none => .error 8
  | some x => if ctrlB x = true then .ok (p, l) else match inext R x l with
   | .error e => .error e
   | .ok (p', l') => qa6_ R k p' l'
theorem qek_ {R : Nd} {h e : Int} (hx : qbo_ R h = .error e) : e ≠ 0 := by
 unfold qbo_ at hx
 split at hx
 ·rename_i h0
  cases hx
  exact h0
 ·split at hx
  ·cases hx; decide
  ·cases hx
theorem qna_ {R x : Nd} {l e : Int} (hx : inext R x l = .error e) : e ≠ 0 := by
 unfold inext at hx
 split at hx
 ·cases hx; decide
 split at hx
 ·cases hx; decide
 split at hx
 ·rename_i h0
  cases hx
  exact h0
 unfold qf8_ at hx
 split at hx
 ·cases hx; decide
 ·split at hx
  ·rename_i h0
   cases hx
   exact qek_ h0
  ·cases hx
theorem qca_ {R : Nd} {e : Int} : ∀ {k : Nat} {p : List Nat} {l : Int}, qa6_ R k p l = .error e -> e ≠ 0
 | 0, p, l, h => by cases h; decide
 | k + 1, p, l, h => by
  rw [qa6_] at h
  split at h
  ·cases h; decide
  ·split at h
   ·cases h
   ·split at h
    ·rename_i h0
     cases h
     exact qna_ h0
    ·exact qca_ h
structure ThrF (t : Tr) (B r g : Nat) (X : Except Int (List Nat × Int)) (w : World) (k b' : Nat) (z' : List Nat) (x' : Nd) (l' : Int) (W : World) : Prop where
 box : W.heap[g]? = some (.cells #[.pointer (some ⟨b', 0, none⟩), .int .u32 l'] 227 (0, 0))
 res : W.heap[g + 1]? = some (.cells #[.pointer none, .int .u32 0] 227 (0, 0))
 spot : Spot W t.root (fun _ => True) b' z' x'
 rd : RdF W B r t (fun _ => True)
 tn : Tn B r w W
 rest : qa6_ t.root (16 - k) z' l' = X
 size : g + 2 <= W.heap.size
theorem ThrF.on {t : Tr} {B r g : Nat} {X : Except Int (List Nat × Int)} {w W W' : World} {k b' : Nat} {z' : List Nat} {x' : Nd} {l' : Int} (h : ThrF t B r g X w k b' z' x' l' W) (hb : Below W.heap.size W W') (hB : B <= W.heap.size) : ThrF t B r g X w k b' z' x' l' W' :=
 ⟨(hb.block _ (by have := h.size; omega)).trans h.box, (hb.block _ (by have := h.size; omega)).trans h.res, h.spot.on hb, h.rd.on hb, h.tn.trans (Tn.of_below hb hB), h.rest, Nat.le_trans h.size hb.size⟩
theorem qc6_ {w w' : World} {B r b : Nat} {t : Tr} {v0 v1 : Value} (hr : RdF w B r t (fun _ => True)) (h : w.heap[b]? = some (.cells #[v0, v1] 227 (0, 0))) (ho : ∀ k, k ≠ b -> w'.heap[k]? = w.heap[k]?) : Sp w w' /\ RdF w' B r t (fun _ => True) := by
 have hs : Sp w w' := fun j c e => ho j (fun q => by
  rw [q, h] at e
  simp only [Option.some.injEq, Obj.cells.injEq] at e
  exact absurd e.2.1 (by decide))
 refine ⟨hs, ?_⟩
 obtain ⟨h0, own, er, h1, h2⟩ := hr
 refine ⟨h0, own, er, (ho r (fun q => ?_)).trans h1, fun g hg => ?_⟩
 ·rw [q, h] at h1
  simp only [rbox, Option.some.injEq, Obj.cells.injEq] at h1
  exact absurd h1.2.1 (by decide)
 ·obtain ⟨h3, he, h4⟩ := h2 g hg
  obtain ⟨es, cl, h5⟩ := h4.heap
  exact ⟨h3, he, h4.sp (ho g (fun q => by rw [q, h] at h5; cases h5)) hs⟩
theorem qd3_ (t : Tr) (B r b : Nat) (z : List Nat) (x : Nd) (ln : Int) (w : World) (hr : RdF w B r t (fun _ => True)) (hB : B <= w.heap.size) (hin : t.In w B) (hh : heftN t.root <= 134217728) (hs : Spot w t.root (fun _ => True) b z x) :
  Calls Tryz.prog 132 #[.pointer (some ⟨r, 0, none⟩), .agg #[.pointer (some ⟨b, 0, none⟩), .int .u32 ln]] w fun e w' => NextF w' t.root (fun _ => True) (qa6_ t.root 16 z ln) e /\ RdF w' B r t (fun _ => True) /\ Tn B r w w' := by
 obtain ⟨g, hg⟩ : ∃ g, w.heap.size = g := ⟨_, rfl⟩
 have hrl := hr.lt
 obtain ⟨X, hX⟩ : ∃ X, qa6_ t.root 16 z ln = X := ⟨_, rfl⟩
 rw [hX]
 have HTI : Hid (∀ W1, (w.alloc (.cells #[.pointer (some ⟨b, 0, none⟩), .int .u32 ln] 227)).alloc (.cells #[.pointer none, .int .u32 0] 227) = W1 -> ThrF t B r g X w 0 b z x ln W1) := Lib.hid (by
  rintro W1 rfl
  have e1 : (w.alloc (.cells #[.pointer (some ⟨b, 0, none⟩), .int .u32 ln] 227)).heap.size = g + 1 := by simp [hg]
  have hb : Below w.heap.size w ((w.alloc (.cells #[.pointer (some ⟨b, 0, none⟩), .int .u32 ln] 227)).alloc (.cells #[.pointer none, .int .u32 0] 227)) := ((Below.refl _ w).alloc (Nat.le_refl _) _).alloc (by simp) _
  refine ⟨?_, ?_, hs.on hb, hr.on hb, Tn.of_below hb hB, hX, by simp [hg]⟩
  ·rw [Below.heap_alloc _ _ _ (by omega), <- hg]; exact heap_alloc_new _ _
  ·rw [<- e1]; exact heap_alloc_new _ _)
 have HNX := Lib.hid (fun (W : World) (hR : RdF W B r t (fun _ => True)) (hT : Tn B r w W) (b' : Nat) (z' : List Nat) (x' : Nd) (l' : Int) (hs' : Spot W t.root (fun _ => True) b' z' x') => nextF_any t B r (fun _ => True) b' z' x' l' W hR (Nat.le_trans hB hT.below.size) (hin.under hT.below) hh hs')
 have HCT := Lib.hid (fun (W : World) (hT : Tn B r w W) (b' : Nat) (z' : List Nat) (x' : Nd) (hs' : Spot W t.root (fun _ => True) b' z' x') => qnx_ x' W (hs'.inn ((hin.root.under hT.below).more (Nat.le_trans hB hT.below.size))))
 have HRG : Hid (r < g /\ B <= g) := Lib.hid ⟨by omega, by omega⟩
 have HGW := Lib.hid hg
 clear hr hB hin hh hs hrl hX
 go_enter Tryz.func132, Tryz.ntmps132
 go_wp2_with fail
 generalize hW1 : (w.alloc (.cells #[.pointer (some ⟨b, 0, none⟩), .int .u32 ln] 227)).alloc (.cells #[.pointer none, .int .u32 0] 227) = W1
 have HT0 := Lib.hid (HTI.out W1 hW1)
 clear hW1 HTI hg
 go_loopw [8] (fun i wr => ∃ (k b' : Nat) (z' : List Nat) (x' : Nd) (l' : Int), k <= 16 /\ i = .int .i64 k /\ ThrF t B r g X w k b' z' x' l' wr) (fun i _ => 16 - (intOf i).toNat)
 case atStart => exact ⟨0, b, z, x, ln, by omega, rfl, HT0.out⟩
 case round =>
  obtain ⟨k, b', z', x', l', hk, rfl, hti⟩ := hrel
  have HTI := Lib.hid hti
  obtain ⟨c0, c1⟩ := qaa_ hti.box
  have hq1 := hti.res
  obtain ⟨d0, d1⟩ := qaa_ hq1
  have f0 := Lib.frozen_of_heap hq1 0
  have f1 := Lib.frozen_of_heap hq1 1
  by_cases hlt : k < 16
  ·have hsp := hti.spot
   have HSP := Lib.hid hsp
   have CC := Lib.hid (HCT.out wr hti.tn b' z' x' hsp)
   obtain ⟨pa, pi, hbk⟩ := hsp.heap
   obtain ⟨s0, s1, s2, _, _⟩ := qat_ hbk
   have HRS : Hid ((if ctrlB x' = true then .ok (z', l') else match inext t.root x' l' with | .error e => .error e | .ok (p1, l1) => qa6_ t.root (16 - (k + 1)) p1 l1) = X) := Lib.hid (by
    have h := hti.rest
    rw [show 16 - k = (16 - (k + 1)) + 1 by omega, qa6_, hsp.at_] at h
    exact h)
   have HSZ := Lib.hid hti.size
   obtain ⟨CB, hCB⟩ : ∃ CB, ctrlB x' = CB := ⟨_, rfl⟩
   rw [hCB] at CC HRS
   obtain ⟨NX, hNX⟩ : ∃ NX, inext t.root x' l' = NX := ⟨_, rfl⟩
   have HNXV := Lib.hid hNX
   rw [hNX] at HRS
   obtain ⟨xn, xpa, xpc, xps, xka, xkc, xks⟩ := x'
   simp only [Nd.val, Nd.pv, Nd.kv, Nd.name, Nd.pa, Nd.pc, Nd.props, Nd.ka, Nd.kc, Nd.kids] at CC s0 s1 s2
   clear hti hsp hbk hq1 hCB hNX
   go_wp2_with fail
   refine CC.out.mono ?_
   rintro e w2 ⟨rfl, hb2⟩
   have HTI2 := Lib.hid (HTI.out.on hb2 (by have := HRG.out; have := HSZ.out; omega))
   clear hb2 c0 c1 d0 d1 f0 f1 s0 s1 s2 CC
   obtain ⟨c0, c1⟩ := qaa_ HTI2.out.box
   have hq1 := HTI2.out.res
   obtain ⟨d0, d1⟩ := qaa_ hq1
   have f0 := Lib.frozen_of_heap hq1 0
   have f1 := Lib.frozen_of_heap hq1 1
   have ho2 : ∀ (u0 u1 : Value) k, k ≠ g + 1 -> ((w2.setCell ⟨g + 1, 0, none⟩ u0).setCell ⟨g + 1, 1, none⟩ u1).heap[k]? = w2.heap[k]? := fun u0 u1 k hk => qay_ w2 hk u0 u1
   cases CB
   rotate_left
   ·have hsp2 := HTI2.out.spot
    obtain ⟨g1, g2⟩ := qc6_ HTI2.out.rd hq1 (ho2 (.pointer (some ⟨b', 0, none⟩)) (.int .u32 l'))
    have HE := Lib.hid (qaa_ (qax_ hq1 (.pointer (some ⟨b', 0, none⟩)) (.int .u32 l')))
    have HSPF := Lib.hid (hsp2.sp g1)
    have HRDF := Lib.hid g2
    have HTNF : Hid (Tn B r w ((w2.setCell ⟨g + 1, 0, none⟩ (.pointer (some ⟨b', 0, none⟩))).setCell ⟨g + 1, 1, none⟩ (.int .u32 l'))) := Lib.hid ⟨qal_ HTI2.out.tn.below (by have := HRG.out; omega) _ _, fun j hj hjr => (ho2 _ _ j (by rw [HGW.out] at hj; omega)).trans (HTI2.out.tn.same j hj hjr)⟩
    clear hq1 ho2 hsp2 g1 g2
    go_wp2
    obtain ⟨e0, e1⟩ := HE.out
    refine bodyPost_ret (v := .tuple #[.agg #[.pointer (some ⟨b', 0, none⟩), .int .u32 l'], .int .i64 0]) (by simp [results, Tryz.results132, go_sem, e0, e1]; try rfl) rfl ?_
    exact ⟨⟨_, _, _, rfl, by (rw [<- HRS.out, if_pos (by trivial)]; exact ⟨rfl, rfl, b', _, rfl, HSPF.out⟩)⟩, HRDF.out, HTNF.out⟩
   have hsp2 := HTI2.out.spot
   have CN := HNX.out w2 HTI2.out.rd HTI2.out.tn b' z' _ l' hsp2
   rw [HNXV.out] at CN
   have CN := Lib.hid CN
   clear ho2 hsp2 d0 d1 f0 f1
   go_wp2_with fail
   refine CN.out.mono ?_
   rintro e w3 ⟨⟨p, l3, er, rfl, hgood⟩, hrd3, htn3⟩
   have hrd3 := hrd3.all
   have hbox3 : w3.heap[g]? = _ := (htn3.same g (by have := HTI2.out.size; omega) (by have := HRG.out; omega)).trans HTI2.out.box
   have hres3 : w3.heap[g + 1]? = _ := (htn3.same (g + 1) (by have := HTI2.out.size; omega) (by have := HRG.out; omega)).trans HTI2.out.res
   have hs3 : g + 2 <= w3.heap.size := Nat.le_trans HTI2.out.size htn3.below.size
   have ht3 : Tn B r w w3 := HTI2.out.tn.trans htn3
   obtain ⟨w4, hw4⟩ : ∃ w4, w3.alloc (.cells #[.pointer p, .int .u32 l3] 227) = w4 := ⟨_, rfl⟩
   have hb4 : Below w3.heap.size w3 w4 := by rw [<- hw4]; exact (Below.refl _ _).alloc (Nat.le_refl _) _
   have hnb4 : w4.heap[w3.heap.size]? = some (.cells #[.pointer p, .int .u32 l3] 227 (0, 0)) := by rw [<- hw4]; exact heap_alloc_new _ _
   have hbox4 := (hb4.block g (by omega)).trans hbox3
   have hres4 := (hb4.block (g + 1) (by omega)).trans hres3
   have HBOX := Lib.hid hbox4
   have HRES := Lib.hid hres4
   have HRD4 := Lib.hid (hrd3.on hb4)
   have HTN4 := Lib.hid (ht3.trans (Tn.of_below hb4 (by have := HRG.out; omega)))
   have HS4 : Hid (g + 2 <= w4.heap.size /\ g + 2 <= w3.heap.size) := Lib.hid ⟨Nat.le_trans hs3 hb4.size, hs3⟩
   have HGD := Lib.hid (hgood.keep (D' := fun _ => True) (W' := w4) (fun _ _ _ => trivial) (fun j _ hl => hb4.block j hl))
   obtain ⟨n0, n1⟩ := qaa_ hnb4
   clear hgood hrd3 htn3 hbox3 hres3 hs3 ht3 hb4 hnb4 hbox4 hres4 CN c0 c1 hq1
   obtain ⟨c0, c1⟩ := qaa_ HBOX.out
   obtain ⟨d0, d1⟩ := qaa_ HRES.out
   by_cases he : er = 0
   rotate_left
   ·have q1 : (er != 0) = true := by rw [bne_iff_ne]; exact he
    have f0 := Lib.frozen_of_heap HRES.out 0
    have f1 := Lib.frozen_of_heap HRES.out 1
    have ho4 : ∀ k, k ≠ g + 1 -> ((w4.setCell ⟨g + 1, 0, none⟩ (.pointer none)).setCell ⟨g + 1, 1, none⟩ (.int .u32 0)).heap[k]? = w4.heap[k]? := fun k hk => qay_ w4 hk _ _
    have HE := Lib.hid (qaa_ (qax_ HRES.out (.pointer none) (.int .u32 0)))
    have HRDF := Lib.hid (qc6_ HRD4.out HRES.out ho4).2
    have HTNF : Hid (Tn B r w ((w4.setCell ⟨g + 1, 0, none⟩ (.pointer none)).setCell ⟨g + 1, 1, none⟩ (.int .u32 0))) := Lib.hid ⟨qal_ HTN4.out.below (by have := HRG.out; omega) _ _, fun j hj hjr => (ho4 j (by rw [HGW.out] at hj; omega)).trans (HTN4.out.same j hj hjr)⟩
    have HER := Lib.hid he
    clear ho4 he
    go_wp2
    obtain ⟨e0, e1⟩ := HE.out
    refine bodyPost_ret (v := .tuple #[.agg #[.pointer none, .int .u32 0], .int .i64 er]) (by simp [results, Tryz.results132, go_sem, e0, e1]; try rfl) rfl ?_
    refine ⟨⟨_, _, _, rfl, ?_⟩, HRDF.out, HTNF.out⟩
    have h1 := HRS.out
    rw [if_neg (by decide)] at h1
    have h2 := HGD.out
    cases NX with
    | error e1 => rw [<- h1]; exact h2
    | ok y => exact absurd h2.1 HER.out
   subst he
   have f0 := Lib.frozen_of_heap HBOX.out 0
   have f1 := Lib.frozen_of_heap HBOX.out 1
   obtain ⟨z3, l4, hNXo⟩ : ∃ z3 l4, NX = .ok (z3, l4) := by
    have h2 := HGD.out
    cases hN : NX with
    | error e1 =>
     rw [hN] at h2
     exact absurd (show e1 = 0 from h2.symm) (qna_ (HNXV.out.trans hN))
    | ok y => exact ⟨y.1, y.2, rfl⟩
   rw [hNXo] at HGD HRS
   obtain ⟨_, rfl, b3, x3, rfl, hsp3⟩ := HGD.out
   have ho4 : ∀ k, k ≠ g -> ((w4.setCell ⟨g, 0, none⟩ (.pointer (some ⟨b3, 0, none⟩))).setCell ⟨g, 1, none⟩ (.int .u32 l3)).heap[k]? = w4.heap[k]? := fun k hk => qay_ w4 hk _ _
   obtain ⟨g1, g2⟩ := qc6_ HRD4.out HBOX.out ho4
   have HNEW : Hid (ThrF t B r g X w (k + 1) b3 z3 x3 l3 ((w4.setCell ⟨g, 0, none⟩ (.pointer (some ⟨b3, 0, none⟩))).setCell ⟨g, 1, none⟩ (.int .u32 l3))) := Lib.hid ⟨qax_ HBOX.out _ _, (ho4 (g + 1) (by omega)).trans HRES.out, hsp3.sp g1, g2, ⟨qal_ HTN4.out.below (by have := HRG.out; omega) _ _, fun j hj hjr => (ho4 j (by rw [HGW.out] at hj; omega)).trans (HTN4.out.same j hj hjr)⟩, by (have h := HRS.out; rw [if_neg (by decide)] at h; exact h), by rw [qcl_]; exact HS4.out.1⟩
   clear hsp3 ho4 g1 g2 hNXo
   go_wp2
   go_roundw
   case rel => exact ⟨k + 1, b3, z3, x3, l3, by omega, by go_num, HNEW.out⟩
   case measure => simp [intOf]; omega
  ·have HXE : Hid (X = .error 14) := Lib.hid (by have h := hti.rest; rw [show 16 - k = 0 by omega, qa6_] at h; exact h.symm)
   have ho4 : ∀ k, k ≠ g + 1 -> ((wr.setCell ⟨g + 1, 0, none⟩ (.pointer none)).setCell ⟨g + 1, 1, none⟩ (.int .u32 0)).heap[k]? = wr.heap[k]? := fun k hk => qay_ wr hk _ _
   have HE := Lib.hid (qaa_ (qax_ hq1 (.pointer none) (.int .u32 0)))
   have HRDF := Lib.hid (qc6_ hti.rd hq1 ho4).2
   have HTNF : Hid (Tn B r w ((wr.setCell ⟨g + 1, 0, none⟩ (.pointer none)).setCell ⟨g + 1, 1, none⟩ (.int .u32 0))) := Lib.hid ⟨qal_ hti.tn.below (by have := HRG.out; omega) _ _, fun j hj hjr => (ho4 j (by rw [HGW.out] at hj; omega)).trans (hti.tn.same j hj hjr)⟩
   clear ho4 hti hq1
   go_wp2
   obtain ⟨e0, e1⟩ := HE.out
   refine bodyPost_ret (v := .tuple #[.agg #[.pointer none, .int .u32 0], .int .i64 14]) (by simp [results, Tryz.results132, go_sem, e0, e1]; try rfl) rfl ?_
   exact ⟨⟨_, _, _, rfl, by (rw [HXE.out]; rfl)⟩, HRDF.out, HTNF.out⟩
def qjf_ : ByteArray := ⟨#[105, 110, 116, 101, 114, 114, 117, 112, 116, 45, 112, 97, 114, 101, 110, 116]⟩
def stepP (R : Nd) (o : Option Nd) (rest : Except Int (List Nat)) : Except Int (List Nat) :=
 match o with
 | none => .error 8
 | some x => if (oneV x qjf_).2.2 ≠ 0 then .error (oneV x qjf_).2.2 else if (oneV x qjf_).2.1 = true then qbo_ R (oneV x qjf_).1 else rest
def qh0_ (R : Nd) : List Nat -> Except Int (List Nat)
 | [] => stepP R (some R) (.error 8)
 | i :: r => stepP R (qaj_ R (r.reverse ++ [i])) (qh0_ R r)
def qds_ (R : Nd) (z : List Nat) : Except Int (List Nat) := qh0_ R z.reverse
theorem qki_ (R : Nd) (z : List Nat) (i : Nat) : qds_ R (z ++ [i]) = stepP R (qaj_ R (z ++ [i])) (qds_ R z) := by
 unfold qds_
 rw [List.reverse_append, List.reverse_singleton, List.singleton_append, qh0_, List.reverse_reverse]
theorem qjd_ {R : Nd} : ∀ {z : List Nat} {e : Int}, qh0_ R z = .error e -> e ≠ 0 := by
 have hs : ∀ {o : Option Nd} {rest : Except Int (List Nat)} {e : Int}, (∀ e, rest = .error e -> e ≠ 0) -> stepP R o rest = .error e -> e ≠ 0 := by
  intro o rest e hr h
  unfold stepP at h
  split at h
  ·cases h; decide
  split at h
  ·rename_i h0
   cases h
   exact h0
  split at h
  ·exact qek_ h
  ·exact hr e h
 intro z
 induction z with
 | nil => intro e h; exact hs (fun e he => by cases he; decide) h
 | cons i r ih => intro e h; exact hs (fun e he => ih he) h
noncomputable def qmx_ (w : World) (R : Nd) (v : Value) : Nat := match okF w R (fun _ => True) v with
 | some (.agg l, _) => l.length + 1
 | _ => 0
theorem qhm_ {w : World} {R x : Nd} {b : Nat} {z : List Nat} (h : Spot w R (fun _ => True) b z x) : qmx_ w R (.pointer (some ⟨b, 0, none⟩)) = z.length + 1 := by
 unfold qmx_
 rw [qhy_ h]
 simp [qh1_]
theorem qos_ (w : World) (R : Nd) : qmx_ w R (.pointer none) = 0 := by
 unfold qmx_
 cases h : okF w R (fun _ => True) (.pointer none) with
 | none => rfl
 | some y =>
  obtain ⟨b, z, x, e, _⟩ := qlm_ h
  cases e
theorem ql4_ (t : Tr) (B r b : Nat) (z : List Nat) (x : Nd) (w : World) (hr : RdF w B r t (fun _ => True)) (hB : B <= w.heap.size) (hin : t.In w B) (hh : heftN t.root <= 134217728) (hs : Spot w t.root (fun _ => True) b z x) :
  Calls Tryz.prog 110 #[.pointer (some ⟨r, 0, none⟩), .pointer (some ⟨b, 0, none⟩)] w fun e w' => FindF w' t.root (fun _ => True) (qds_ t.root z) e /\ RdF w' B r t (fun _ => True) /\ Tn B r w w' := by
 obtain ⟨X, hX⟩ : ∃ X, qds_ t.root z = X := ⟨_, rfl⟩
 rw [hX]
 have HXV := Lib.hid hX
 have HS := Lib.hid hs
 have HR := Lib.hid hr
 have HB := Lib.hid hB
 have HIN := Lib.hid hin.root
 have HF := Lib.hid (fun (W : World) (hW : Below w.heap.size w W) (h : Int) (h0 : 0 <= h /\ h <= 4294967295) => qfo_ t B r (fun _ => True) h W (hr.on hW) (Nat.le_trans hB hW.size) (hin.under (hW.mono hB)) hh h0)
 clear hr hB hin hh hs hX
 go_enter Tryz.func110, Tryz.ntmps110
 go_wp2_with fail
 go_loopw [1] (fun s wr => ((∃ (b' : Nat) (z' : List Nat) (x' : Nd), s = .pointer (some ⟨b', 0, none⟩) /\ Spot w t.root (fun _ => True) b' z' x' /\ qds_ t.root z' = X) \/ (s = .pointer none /\ X = .error 8)) /\ Below w.heap.size w wr) (fun s _ => qmx_ w t.root s)
 case atStart => exact ⟨.inl ⟨b, z, x, rfl, HS.out, HXV.out⟩, Below.refl _ _⟩
 case round =>
  obtain ⟨⟨b', z', x', rfl, hs1, hx1⟩ | ⟨rfl, hx1⟩, hb⟩ := hrel
  ·have HBW := Lib.hid hb
   have hs2 := hs1.on hb
   have HSP := Lib.hid hs1
   obtain ⟨pa, pi, hbk⟩ := hs2.heap
   obtain ⟨s0, s1, s2, _, _⟩ := qat_ hbk
   have hxin := hs2.inn ((HIN.out.under (hb.mono HB.out)).more (Nat.le_trans HB.out hb.size))
   have C1 := Lib.hid (oneOK x' qjf_ wr hxin (by decide))
   have hrg := qcd_ hxin qjf_
   have HNX : Hid (∃ rest, stepP t.root (some x') rest = X /\ ((z' = [] /\ rest = .error 8) \/ ∃ z2 i, z' = z2 ++ [i] /\ rest = qds_ t.root z2)) := Lib.hid (by
    rcases hs1.inv with ⟨rfl, rfl, _⟩ | ⟨a, i, z2, x2, rfl, _, _, _⟩
    ·exact ⟨_, hx1, .inl ⟨rfl, rfl⟩⟩
    ·rw [qki_, hs1.at_] at hx1
     exact ⟨_, hx1, .inr ⟨z2, i, rfl, rfl⟩⟩)
   unfold stepP at HNX
   simp only at HNX
   generalize oneV x' qjf_ = O at *
   obtain ⟨v, ok, er⟩ := O
   simp only [qfz_, qjf_] at C1 hrg HNX
   have HRG := Lib.hid hrg
   obtain ⟨xn, xpa, xpc, xps, xka, xkc, xks⟩ := x'
   simp only [Nd.val, Nd.pv, Nd.kv, Nd.name, Nd.pa, Nd.pc, Nd.props, Nd.ka, Nd.kc, Nd.kids] at C1 s0 s1 s2
   clear hs1 hx1 hb hs2 hbk hxin hrg
   go_wp2_with fail
   refine C1.out.mono ?_
   rintro e w2 ⟨rfl, hb2⟩
   have HB2 := Lib.hid (HBW.out.trans (hb2.mono HBW.out.size))
   clear hb2 s0 s1 s2 C1
   by_cases he : er = 0
   rotate_left
   ·have q1 : (er != 0) = true := by rw [bne_iff_ne]; exact he
    have HXE : Hid (X = .error er) := Lib.hid (by
     obtain ⟨rest, h1, _⟩ := HNX.out
     rw [if_pos he] at h1
     exact h1.symm)
    clear he
    go_wp2
    go_ret2
    exact ⟨by (rw [HXE.out]; rfl), HR.out.on HB2.out, Tn.of_below HB2.out HB.out⟩
   subst he
   cases ok
   rotate_left
   ·have HXE : Hid (X = qbo_ t.root v) := Lib.hid (by
     obtain ⟨rest, h1, _⟩ := HNX.out
     rw [if_neg (by simp), if_pos (by trivial)] at h1
     exact h1.symm)
    have CF := Lib.hid (HF.out w2 HB2.out v HRG.out)
    go_wp2_with fail
    refine CF.out.mono ?_
    rintro e w3 ⟨hfo, hrd, htn⟩
    obtain ⟨p, er, rfl, hgood⟩ := FindF.out hfo
    have HFO := Lib.hid hfo
    have HRD := Lib.hid hrd.all
    have HTN := Lib.hid ((Tn.of_below HB2.out HB.out).trans htn)
    have HFX : Hid (FindF w3 t.root (fun _ => True) X (.returned (.tuple #[.pointer p, .int .i64 er]))) := Lib.hid (by
     rw [HXE.out]
     cases h : qbo_ t.root v with
     | error e' => rw [h] at hfo; exact hfo
     | ok q =>
      rw [h] at hfo
      obtain ⟨b1, x1, h1, h2⟩ := hfo
      exact ⟨b1, x1, h1, h2.sub (fun _ _ _ => trivial)⟩)
    clear hfo hrd htn hgood CF
    go_wp2
    go_ret2
    exact ⟨HFX.out, HRD.out, HTN.out⟩
   have hs3 := HSP.out.on HB2.out
   obtain ⟨rest, h1, h2⟩ := HNX.out
   rw [if_neg (by simp), if_neg (by simp)] at h1
   rcases HSP.out.inv with ⟨rfl, _, _⟩ | ⟨a, i, z2, x2, rfl, hsa, _, hbk⟩
   ·rcases hs3.inv with ⟨_, _, hbk⟩ | ⟨_, _, _, _, h, _⟩
    rotate_left
    ·simp at h
    obtain ⟨_, _, _, s3, _⟩ := qat_ hbk
    have HXE : Hid (X = .error 8) := Lib.hid (by
     rcases h2 with ⟨_, h2⟩ | ⟨z2, i, h2, _⟩
     ·rw [<- h1, h2]
     ·simp at h2)
    have HDM := Lib.hid (qhm_ HSP.out)
    clear hs3 h1 h2 hbk
    go_wp2
    go_roundw
    case rel => exact ⟨.inr ⟨rfl, HXE.out⟩, HB2.out⟩
    case measure => rw [HDM.out, qos_]; omega
   ·replace hbk := (HB2.out.block _ (Array.getElem?_eq_some_iff.1 hbk).1).trans hbk
    obtain ⟨_, _, _, s3, _⟩ := qat_ hbk
    have HXE : Hid (qds_ t.root z2 = X) := Lib.hid (by
     rcases h2 with ⟨h2, _⟩ | ⟨z3, i3, h2, h3⟩
     ·simp at h2
     ·obtain ⟨rfl, _⟩ := List.append_inj' h2 rfl
      rw [<- h1, h3])
    have HDM := Lib.hid (qhm_ HSP.out)
    have HDM2 := Lib.hid (qhm_ hsa)
    have HSA := Lib.hid hsa
    clear hs3 h1 h2 hbk hsa
    go_wp2
    go_roundw
    case rel => exact ⟨.inl ⟨a, z2, x2, rfl, HSA.out, HXE.out⟩, HB2.out⟩
    case measure => rw [HDM.out, HDM2.out, List.length_append]; simp
  ·have HXE := Lib.hid hx1
   have HBW := Lib.hid hb
   clear hx1 hb
   go_wp2
   go_ret2
   exact ⟨by (rw [HXE.out]; rfl), HR.out.on HBW.out, Tn.of_below HBW.out HB.out⟩
section
attribute [local go_sem] Oper.semAt_some
structure WireR where
 b : Nat
 l : Int
def WireR.two (x : WireR) : Value × Value := (.pointer (some ⟨x.b, 0, none⟩), .int .u32 x.l)
def Wires (w : World) (R : Nd) (D : Nat -> Prop) (xs : List WireR) (ws : List (List Nat × Int)) : Prop := Two (fun (x : WireR) (y : List Nat × Int) => (∃ k, Spot w R D x.b y.1 k) /\ x.l = y.2) xs ws
theorem Wires.keep {w w' : World} {R : Nd} {D D' : Nat -> Prop} {xs : List WireR} {ws : List (List Nat × Int)} (h : Wires w R D xs ws) (hs : ∀ j, D j -> j < w.heap.size -> D' j) (k : ∀ j, D j -> j < w.heap.size -> w'.heap[j]? = w.heap[j]?) : Wires w' R D' xs ws :=
 Two.mono (fun a b ⟨⟨x, h1⟩, h2⟩ => ⟨⟨x, ((h1.sub (D' := fun j => D j /\ D' j) (fun j h1 h2 => ⟨h1, hs j h1 h2⟩)).keep (fun j h1 h2 => k j h1.1 h2)).sub (fun j h1 _ => h1.2)⟩, h2⟩) h
theorem Wires.sp {w w' : World} {R : Nd} {D : Nat -> Prop} {xs : List WireR} {ws : List (List Nat × Int)} (h : Wires w R D xs ws) (k : Sp w w') : Wires w' R D xs ws :=
 Two.mono (fun a b ⟨⟨x, h1⟩, h2⟩ => ⟨⟨x, h1.sp k⟩, h2⟩) h
theorem Wires.snoc {w : World} {R x : Nd} {D : Nat -> Prop} {xs : List WireR} {ws : List (List Nat × Int)} (h : Wires w R D xs ws) {b : Nat} {z : List Nat} (hs : Spot w R D b z x) (l : Int) : Wires w R D (xs ++ [⟨b, l⟩]) (ws ++ [(z, l)]) :=
 Two.app h (.cons ⟨⟨x, hs⟩, rfl⟩ .nil)
theorem info_wire : (Tryz.prog.info? 227).map (fun i => (i.zero, i.size, i.bytes)) = some (some (.agg #[.pointer none, .int .u32 0]), 2, 16) := by kernel_rfl
def WRow (w : World) (base : Nat) (v : Value) (xs : List WireR) : Prop := w.ownsRow base 227 2 v xs.length (flat2 (xs.map WireR.two))
theorem WRow.nil (w : World) (base : Nat) : WRow w base (.slice none 0 0) [] := World.ownsRow_nil _ _ _ _
theorem qkr_ {w : World} {base : Nat} {v : Value} {xs : List WireR} (h : WRow w base v xs) (y : WireR) (hlen : xs.length <= 536870912) (hB : base <= w.heap.size) :
  ∃ A' c' w', (Builtin.append_ #[162, 162] 162 #[v, .slice (some ⟨w.heap.size, 0, none⟩) 1 1]).run Tryz.prog (w.alloc (.cells #[y.two.1, y.two.2] 227)) = .ok (.slice A' (xs.length + 1) c') w' /\ WRow w' base (.slice A' (xs.length + 1) c') (xs ++ [y]) /\ Below base w w' /\ w.grownBy w' v.ownBlock /\ ((Value.slice A' (xs.length + 1) c').ownBlock = v.ownBlock \/ (Value.slice A' (xs.length + 1) c').ownBlock = some (w.heap.size + 1)) := by
 obtain ⟨i0, hi, hz, hs1, hby⟩ := qaw_ info_wire
 obtain ⟨A', c', w5, r5, o5, b5, g5, e5⟩ := qd6_ Tryz.underlying162 hi hz hs1 hby rfl h y.two rfl rfl (by omega) (by omega) hB 162
 exact ⟨A', c', w5, r5, by rw [WRow, List.length_append, List.length_singleton, List.map_append]; exact o5, b5, g5, e5⟩
theorem qe6_ {w : World} {base : Nat} {v : Value} {xs : List WireR} (h : WRow w base v xs) : ∃ A c, v = .slice A xs.length c /\ Cel2 w w.heap.size A xs.length (xs.map WireR.two) /\ xs.length <= c /\ c <= 9223372036854775807 /\ (∀ b, v.ownBlock = some b -> base <= b /\ b < w.heap.size) := qa0_ h
theorem WRow.keep {w w' : World} {base : Nat} {v : Value} {xs : List WireR} (h : WRow w base v xs) (hk : ∀ j, v.ownBlock = some j -> w'.heap[j]? = w.heap[j]?) : WRow w' base v xs := by
 refine ⟨h.1, ?_⟩
 rcases h.2 with e | ⟨g, cap, cur, rfl, hb, hg, r⟩
 ·exact .inl e
 ·exact .inr ⟨g, cap, cur, rfl, hb, (hk g rfl).trans hg, r⟩
def qdz_ : ByteArray := ⟨#[105, 110, 116, 101, 114, 114, 117, 112, 116, 115, 45, 101, 120, 116, 101, 110, 100, 101, 100]⟩
def qcj_ : ByteArray := ⟨#[105, 110, 116, 101, 114, 114, 117, 112, 116, 115]⟩
def qbv_ (R : Nd) (L : List Int) : Nat -> Except Int (List (List Nat × Int))
 | 0 => .ok []
 | j + 1 => match qbv_ R L j with
  | .error e => .error e
  | .ok ws => match qbo_ R (L.getD (j * 2) 0) with
   | .error e => .error e
   | .ok p => .ok (ws ++ [(p, L.getD (j * 2 + 1) 0)])
theorem qgx_ {R : Nd} {L : List Int} {e : Int} {j : Nat} (h : qbv_ R L j = .error e) : ∀ d, qbv_ R L (j + d) = .error e
 | 0 => h
 | d + 1 => by rw [<- Nat.add_assoc, qbv_, qgx_ h d]
theorem qje_ {R : Nd} {L : List Int} {e : Int} : ∀ {j : Nat}, qbv_ R L j = .error e -> e ≠ 0
 | 0, h => by cases h
 | j + 1, h => by
  rw [qbv_] at h
  split at h
  ·rename_i h0
   cases h
   exact qje_ h0
  ·split at h
   ·rename_i h0
    cases h
    exact qek_ h0
   ·cases h
theorem qgp_ {R : Nd} {L : List Int} : ∀ {j : Nat} {ws : List (List Nat × Int)}, qbv_ R L j = .ok ws -> ws.length = j
 | 0, ws, h => by cases h; rfl
 | j + 1, ws, h => by
  rw [qbv_] at h
  split at h
  ·cases h
  ·rename_i h0
   split at h
   ·cases h
   ·cases h
    rw [List.length_append, List.length_singleton, qgp_ h0]
def qi0_ (R : Nd) (v : List Int) : Except Int (List (List Nat × Int)) :=
 if qbp_ v ≠ 0 \/ (qao_ v).length % 2 ≠ 0 then .error 4 else qbv_ R (qao_ v) ((qao_ v).length / 2)
def qdr_ (R x : Nd) (z : List Nat) : Except Int (List (List Nat × Int)) :=
 if 0 <= idxOf (x.props.map PV.name) qdz_ then qi0_ R (valV x qdz_)
 else if qbp_ (valV x qcj_) ≠ 0 then .error (qbp_ (valV x qcj_))
 else if qao_ (valV x qcj_) = [] then .ok []
 else match qds_ R z with
  | .error e => .error e
  | .ok p => .ok ((qao_ (valV x qcj_)).map fun c => (p, c))
def qce_ (R : Nd) (z : List Int) : Except Int (List (List Nat × Int)) :=
 if 16 < z.length then .error 6 else match nodeZ R z with
  | none => .error 8
  | some x => qdr_ R x (z.map Int.toNat)
def LinesF (w' : World) (base : Nat) (R : Nd) (D : Nat -> Prop) (X : Except Int (List (List Nat × Int))) (e : Ending) : Prop := ∃ v er, e = .returned (.tuple #[v, .int .i64 er]) /\ match X with
 | .error e' => er = e' /\ v = .slice none 0 0
 | .ok ws => er = 0 /\ ∃ xs, WRow w' base v xs /\ Wires w' R D xs ws
end
end Go.Proofs.YtcfinbapfhhpgaaGreatDoor
