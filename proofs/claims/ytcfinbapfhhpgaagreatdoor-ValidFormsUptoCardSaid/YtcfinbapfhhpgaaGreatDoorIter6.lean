/-
  Iter, part 6.
-/
import Derived.Test.YtcfinbapfhhpgaaGreatDoorIter5
namespace Go.Proofs.YtcfinbapfhhpgaaGreatDoor
open Go.RowKit
set_option linter.unusedVariables false
set_option linter.unusedSimpArgs false
set_option maxRecDepth 20000
set_option maxHeartbeats 16000000
section
attribute [local go_sem] Oper.semAt_some
def valV (x : Nd) (s : ByteArray) : List Int := ((x.props.find? fun p => decide (p.name = s)).map PV.zs).getD []
theorem qk4_ {x : Nd} {s : ByteArray} {k : Nat} (hk : k < x.props.length) (h : idxOf (x.props.map PV.name) s = (k : Int)) : valV x s = (x.props[k]).zs := by
 rw [valV, qg7_ hk h]; rfl
def qjo_ (L : List Int) (mask ln : Int) (j : Nat) : Bool := bits BinOp.and IntKind.u32 (L.getD (j * 3) 0) mask == bits BinOp.and IntKind.u32 ln mask
def qf8_ (R : Nd) (L : List Int) (mask ln : Int) : Except Int (List Nat × Int) :=
 match (List.range (L.length / 3)).find? (qjo_ L mask ln) with
 | none => .error 8
 | some j => match qbo_ R (L.getD (j * 3 + 1) 0) with
  | .error er => .error er
  | .ok p => .ok (p, L.getD (j * 3 + 2) 0)
def inext (R x : Nd) (ln : Int) : Except Int (List Nat × Int) :=
 if idxOf (x.props.map PV.name) qcn_ < 0 then .error 8
 else if qbp_ (valV x qcn_) ≠ 0 \/ (qao_ (valV x qcn_)).length % 3 ≠ 0 then .error 4
 else if (oneV x qck_).2.2 ≠ 0 then .error (oneV x qck_).2.2
 else qf8_ R (qao_ (valV x qcn_)) (if (oneV x qck_).2.1 = true then (oneV x qck_).1 else 4294967295) ln
theorem qo6_ {f : Nat -> Bool} (m : Nat) (pre : List Nat) (j : Nat) (hp : pre ++ [j] <+: List.range m) (hn : ∀ i ∈ pre, f i = false) (hj : f j = true) : (List.range m).find? f = some j := by
 obtain ⟨t, ht⟩ := hp
 rw [<- ht, List.append_assoc, List.find?_append, List.find?_eq_none.2 (fun i hi => by rw [hn i hi]; simp)]
 simp [hj]
def NextV (W : World) (R : Nd) (D : Nat -> Prop) : Except Int (List Nat × Int) -> Option Addr -> Int -> Int -> Prop
 | .error e, _, _, er => er = e
 | .ok (z, l), p, ln, er => er = 0 /\ ln = l /\ ∃ b x, p = some ⟨b, 0, none⟩ /\ Spot W R D b z x
theorem NextV.keep {W W' : World} {R : Nd} {D D' : Nat -> Prop} {X : Except Int (List Nat × Int)} {p : Option Addr} {ln er : Int} (h : NextV W R D X p ln er) (hs : ∀ j, D j -> j < W.heap.size -> D' j) (k : ∀ j, D j -> j < W.heap.size -> W'.heap[j]? = W.heap[j]?) : NextV W' R D' X p ln er := by
 cases X with
 | error e => exact h
 | ok y =>
  obtain ⟨h1, h2, b, x, h3, h4⟩ := h
  exact ⟨h1, h2, b, x, h3, ((h4.sub (D' := fun j => D j /\ D' j) (fun j h1 h2 => ⟨h1, hs j h1 h2⟩)).keep (fun j h1 h2 => k j h1.1 h2)).sub (fun j h1 _ => h1.2)⟩
def NextF (w' : World) (R : Nd) (D : Nat -> Prop) (X : Except Int (List Nat × Int)) (e : Ending) : Prop := ∃ p ln er, e = .returned (.tuple #[.agg #[.pointer p, .int .u32 ln], .int .i64 er]) /\ NextV w' R D X p ln er
def FindW (W : World) (R : Nd) (D : Nat -> Prop) : Except Int (List Nat) -> Option Addr -> Int -> Prop
 | .error e, _, er => er = e
 | .ok z, p, er => er = 0 /\ ∃ b x, p = some ⟨b, 0, none⟩ /\ Spot W R D b z x
theorem FindF.out {w' : World} {R : Nd} {D : Nat -> Prop} {X : Except Int (List Nat)} {e : Ending} (h : FindF w' R D X e) : ∃ p er, e = .returned (.tuple #[.pointer p, .int .i64 er]) /\ FindW w' R D X p er := by
 cases X with
 | error e' => exact ⟨none, e', h, rfl⟩
 | ok z =>
  obtain ⟨b, x, h1, h2⟩ := h
  exact ⟨_, _, h1, rfl, b, x, rfl, h2⟩
def NFinF (t : Tr) (B r g : Nat) (D : Nat -> Prop) (w : World) (X : Except Int (List Nat × Int)) (Mk : Nat -> Prop) (W : World) : Prop := ∃ (p : Option Addr) (ln er : Int), W.heap[g + 2]? = some (.cells #[.pointer p, .int .u32 ln] 227 (0, 0)) /\ W.heap[g + 3]? = some (.cells #[.int .i64 er] 32 (0, 0)) /\
 NextV W t.root (fun k => (D k \/ g <= k) /\ ¬ Mk k) X p ln er /\ RdF W B r t (fun k => (D k \/ g <= k) /\ ¬ Mk k) /\ Tn B r w W
theorem NFinF.turn {t : Tr} {B r g gm : Nat} {D : Nat -> Prop} {w W W' : World} {X : Except Int (List Nat × Int)} {T T' : Nat -> Prop} (h : NFinF t B r g D w X T W) (ht : Turn T T' W W') (hT : Ups gm T W) (hB : gm <= W.heap.size) (hr : r < gm) (hgm : g + 4 <= gm) (hBg : B <= g) (hw : w.heap.size <= gm) : NFinF t B r g D w X T' W' := by
 obtain ⟨p, ln, er, h1, h2, h3, h4, h5⟩ := h
 have nt : ∀ k, k < gm -> ¬ T k := fun k hk h => by have := (hT k h).1; omega
 have st : ∀ k, k < gm -> W'.heap[k]? = W.heap[k]? := fun k hk => ht.same k (Nat.lt_of_lt_of_le hk hB) (nt k hk)
 have hs : ∀ j, ((D j \/ g <= j) /\ ¬ T j) -> j < W.heap.size -> (D j \/ g <= j) /\ ¬ T' j := fun j hj hl => ⟨hj.1, fun h => (ht.fresh j h).elim hj.2 (fun h => by omega)⟩
 have hk : ∀ j, ((D j \/ g <= j) /\ ¬ T j) -> j < W.heap.size -> W'.heap[j]? = W.heap[j]? := fun j hj hl => ht.same j hl hj.2
 refine ⟨p, ln, er, (st _ (by omega)).trans h1, (st _ (by omega)).trans h2, h3.keep hs hk, h4.keep hs (fun j hj hl => hj.elim (fun e => by rw [e]; exact st r hr) (fun hj => hk j hj hl)), ⟨h5.below.trans ((ht.below hT hB).mono (by omega)), fun k hk' hkr => (st k (by omega)).trans (h5.same k hk' hkr)⟩⟩
theorem qha_ {t : Tr} {B r g : Nat} {D : Nat -> Prop} {w W : World} (hr : RdF w B r t D) (hg : w.heap.size = g) (hB : B <= g) (hb : Below g w W) : RdF W B r t (fun k => D k \/ g <= k) /\ Tn B r w W := by
 subst hg
 exact ⟨hr.keep (fun j h _ => .inl h) (fun j _ hl => hb.block j hl), Tn.of_below hb hB⟩
theorem nextF_any (t : Tr) (B r : Nat) (D : Nat -> Prop) (b : Nat) (z : List Nat) (x : Nd) (ln : Int) (w : World) (hr : RdF w B r t D) (hB : B <= w.heap.size) (hin : t.In w B) (hh : heftN t.root <= 134217728) (hs : Spot w t.root (fun _ => True) b z x) :
  Calls Tryz.prog 166 #[.pointer (some ⟨r, 0, none⟩), .agg #[.pointer (some ⟨b, 0, none⟩), .int .u32 ln]] w fun e w' => NextF w' t.root (fun k => D k \/ w.heap.size <= k) (inext t.root x ln) e /\ RdF w' B r t (fun k => D k \/ w.heap.size <= k) /\ Tn B r w w' := by
 have hxin := hs.inn (hin.root.more hB)
 have hxh : heftN x <= 134217728 := by have := hs.len; omega
 have CF := Lib.hid (fun W (hW : Below w.heap.size w W) => qcz_ x qcn_ W (hxin.on hW) _ rfl)
 have CO := Lib.hid (fun W (hW : Below w.heap.size w W) => oneOK x qck_ W (hxin.on hW) (by decide))
 have HOR := Lib.hid (qcd_ hxin qck_)
 have HSC : Hid (∀ W, Below w.heap.size w W -> ∃ pa pi, W.heap[b]? = some (.cells #[.string x.name, x.pv, x.kv, .pointer pa, .int .i64 pi] 223 (0, 0))) := Lib.hid (fun W hW => (hs.on hW).heap)
 have HPH : Hid (∀ p ∈ x.props, p.zs.length <= 134217728) := Lib.hid (fun p hp => by
  obtain ⟨k, hk, rfl⟩ := List.getElem_of_mem hp
  exact Nat.le_trans (qc0_ hk) hxh)
 obtain ⟨g, hg⟩ : ∃ g, w.heap.size = g := ⟨_, rfl⟩
 have HR := Lib.hid hr
 have HH := Lib.hid hh
 have HIN := Lib.hid hin
 have HBG : Hid (B <= g) := Lib.hid (by omega)
 have HRG : Hid (r < g) := Lib.hid (by rw [<- hg]; exact hr.lt)
 obtain ⟨XV, hXV⟩ : ∃ XV, inext t.root x ln = XV := ⟨_, rfl⟩
 have HXD := Lib.hid hXV.symm
 rw [hXV]
 clear hXV
 have HVV : Hid (∀ k (hk : k < x.props.length), idxOf (x.props.map PV.name) qcn_ = (k : Int) -> valV x qcn_ = (x.props[k]).zs) := Lib.hid (fun k hk h => qk4_ hk h)
 unfold inext at HXD
 generalize hidx : idxOf (x.props.map PV.name) qcn_ = ix at *
 generalize valV x qcn_ = VV at *
 generalize oneV x qck_ = O at *
 obtain ⟨mk, ok, er⟩ := O
 simp only [qfz_] at CO HOR
 clear hr hB hin hh hs hxin hxh hidx
 have A4 := qhz_ w (.cells #[.pointer (some ⟨r, 0, none⟩)] 218) (.cells #[.pointer (some ⟨b, 0, none⟩), .int .u32 ln] 227) (.cells #[.pointer none, .int .u32 0] 227) (.cells #[.int .i64 0] 32)
 obtain ⟨W0, hW0⟩ : ∃ W0, (((w.alloc (.cells #[.pointer (some ⟨r, 0, none⟩)] 218)).alloc (.cells #[.pointer (some ⟨b, 0, none⟩), .int .u32 ln] 227)).alloc (.cells #[.pointer none, .int .u32 0] 227)).alloc (.cells #[.int .i64 0] 32) = W0 := ⟨_, rfl⟩
 rw [hW0] at A4
 rw [hg] at A4 CF CO HSC ⊢
 obtain ⟨z0, a0, a1, a2, a3, hb0⟩ := A4
 have HZ0 := Lib.hid z0
 have HNB : Hid (NBox g b r ln W0) := Lib.hid ⟨a0, a1, a2, a3⟩
 have HB0 := Lib.hid hb0
 obtain ⟨xn, xpa, xpc, xps, xka, xkc, xks⟩ := x
 simp only [Nd.val, Nd.pv, Nd.kv, Nd.name, Nd.pa, Nd.pc, Nd.props, Nd.ka, Nd.kc, Nd.kids, qcn_, qck_] at CF CO HSC HPH
 obtain ⟨pa, pi, hbk⟩ := HSC.out W0 hb0
 obtain ⟨s0, s1, s2, _, _⟩ := qat_ hbk
 obtain ⟨l0, l1⟩ := qaa_ a1
 clear a0 a1 a2 a3 hb0 z0 hbk
 refine (callsIn_wide (n := 0)).1 ?_
 refine callsIn_of_wp_marks Tryz.func166 rfl trivial ?_ rfl
 simp only [Tryz.ntmps166, List.size_toArray, List.length_cons, List.length_nil, Nat.reduceAdd, Nat.reduceSub, Array.replicate_succ, Array.replicate_zero, List.push_toArray, List.append_toArray, List.nil_append, List.cons_append]
 gi_wp2_with fail
 clear hW0
 refine ⟨trivial, rfl, (callsIn_wide.2 (CF.out _ HB0.out)).mono ?_⟩
 rintro e w1 ⟨A1, c1, zs1, rfl, hsh1, hw1, hb1⟩
 have HB1 := Lib.hid (HB0.out.trans (hb1.mono (by have := HZ0.out; omega)))
 have HNB1 := Lib.hid (HNB.out.on (hb1.mono (by have := HZ0.out; omega)))
 have HZ1 : Hid (g + 4 <= w1.heap.size) := Lib.hid (by have := HZ0.out; have := hb1.size; omega)
 have hz1 : zs1.length <= 134217728 := by
  rcases hw1 with ⟨_, rfl⟩ | ⟨k, hk, _, rfl⟩
  ·simp
  ·exact HPH.out _ (List.getElem_mem hk)
 have hzv : 0 <= ix -> VV = zs1 := fun h => by
  rcases hw1 with ⟨h1, _⟩ | ⟨k, hk, h1, h2⟩
  ·omega
  ·rw [h2]; exact HVV.out k hk h1
 have hgg := hg
 clear hw1 hb1 s0 s1 s2 l0 l1 hg
 have hg : w.heap.size = g := hgg
 clear hgg
 by_cases hix : 0 <= ix
 rotate_left
 ·have q0 : decide (0 <= ix) = false := decide_eq_false hix
  rw [q0]
  have HNBW := HNB1
  have HBWW := HB1
  have HXV : Hid (XV = .error 8) := Lib.hid (by rw [HXD.out, if_pos (by omega)])
  have HG := Lib.hid hg
  clear hix q0 hsh1 hz1 CO HSC hzv HVV
  have hq2 := HNBW.out.2.2.1
  have hq3 := HNBW.out.2.2.2
  have c20 : w1.cell? ⟨g + 1 + 1, 0, none⟩ = some (.pointer none) := (qaa_ hq2).1
  have c21 : w1.cell? ⟨g + 1 + 1, 1, none⟩ = some (.int .u32 0) := (qaa_ hq2).2
  have c30 : w1.cell? ⟨g + 1 + 1 + 1, 0, none⟩ = some (.int .i64 0) := qad_ hq3
  have f20 : w1.frozen? ⟨g + 1 + 1, 0, none⟩ = false := Lib.frozen_of_heap hq2 0
  have f21 : w1.frozen? ⟨g + 1 + 1, 1, none⟩ = false := Lib.frozen_of_heap hq2 1
  have f30 : w1.frozen? ⟨g + 1 + 1 + 1, 0, none⟩ = false := Lib.frozen_of_heap hq3 0
  obtain ⟨r2, r3, ro, rs, rb⟩ := qch_ hq2 hq3 (.pointer none) (.int .u32 0) (.int .i64 8)
  have HE := Lib.hid (And.intro (qaa_ r2) (And.intro (qad_ r3) (qha_ HR.out hg HBG.out (HBWW.out.trans (rb.mono (by omega))))))
  clear hq2 hq3 r2 r3 ro rs rb
  gi_wp2
  obtain ⟨⟨e20, e21⟩, e30, _⟩ := HE.out
  refine ⟨.tuple #[.agg #[.pointer none, .int .u32 0], .int .i64 8], by simp [results, Tryz.results166, go_sem, e20, e21, e30], ?_⟩
  exact ⟨⟨none, 0, 8, rfl, by rw [HXV.out]; rfl⟩, HE.out.2.2⟩
 have q0 : decide (0 <= ix) = true := decide_eq_true hix
 rw [q0]
 have HXD2 : Hid (XV = if qbp_ zs1 ≠ 0 \/ (qao_ zs1).length % 3 ≠ 0 then .error 4 else if er ≠ 0 then .error er else qf8_ t.root (qao_ zs1) (if ok = true then mk else 4294967295) ln) := Lib.hid (by
  have h := HXD.out
  rwa [if_neg (by omega), hzv hix] at h)
 clear hzv HXD HVV
 have CC := Lib.hid (qdi_ A1 zs1.length c1 zs1 w1 hsh1.1 (by omega) hsh1.2.1 hsh1.2.2)
 have hE : qbp_ zs1 = 0 \/ qbp_ zs1 = 4 := by unfold qbp_; split <;> simp
 have hul : (u32s (qao_ zs1)).length <= 134217728 := by
  rw [List.length_map]
  unfold qao_
  split
  ·rw [List.length_map, List.length_range]; omega
  ·simp
 have HRG2 : Hid (∀ v ∈ qao_ zs1, 0 <= v /\ v <= 4294967295) := Lib.hid (by
  intro v hv
  unfold qao_ at hv
  split at hv
  ·obtain ⟨k, _, rfl⟩ := List.mem_map.1 hv
   exact qcy_ hsh1.1 _
  ·cases hv)
 generalize qao_ zs1 = L at *
 generalize qbp_ zs1 = E1 at *
 unfold qe1_ at CC
 generalize zs1.length = zl at *
 obtain ⟨M, hM⟩ : ∃ M, (u32s L).length = M := ⟨_, rfl⟩
 have HML := Lib.hid hM
 rw [hM] at CC hul
 clear hix q0 hsh1 hz1 hM
 gi_wp2_with fail
 refine ⟨trivial, rfl, (callsIn_wide.2 CC.out).mono ?_⟩
 rintro e w2 ⟨⟨A2, c2, rfl, hcel2, hmc, hc2⟩, hb2⟩
 have HB2 := Lib.hid (HB1.out.trans (hb2.mono (by have := HZ1.out; omega)))
 have HNB2 := Lib.hid (HNB1.out.on (hb2.mono HZ1.out))
 have HZ2 : Hid (g + 4 <= w2.heap.size) := Lib.hid (by have := HZ1.out; have := hb2.size; omega)
 have HCEL := Lib.hid hcel2
 clear hcel2 hb2 CC
 by_cases hE0 : E1 = 0
 rotate_left
 ·have q1 : (E1 != 0) = true := by rw [bne_iff_ne]; exact hE0
  have HNBW := HNB2
  have HBWW := HB2
  have HXV : Hid (XV = .error 4) := Lib.hid (by rw [HXD2.out, if_pos (.inl hE0)])
  have HG := Lib.hid hg
  clear hE hE0 CO HSC
  have hq2 := HNBW.out.2.2.1
  have hq3 := HNBW.out.2.2.2
  have c20 : w2.cell? ⟨g + 1 + 1, 0, none⟩ = some (.pointer none) := (qaa_ hq2).1
  have c21 : w2.cell? ⟨g + 1 + 1, 1, none⟩ = some (.int .u32 0) := (qaa_ hq2).2
  have c30 : w2.cell? ⟨g + 1 + 1 + 1, 0, none⟩ = some (.int .i64 0) := qad_ hq3
  have f20 : w2.frozen? ⟨g + 1 + 1, 0, none⟩ = false := Lib.frozen_of_heap hq2 0
  have f21 : w2.frozen? ⟨g + 1 + 1, 1, none⟩ = false := Lib.frozen_of_heap hq2 1
  have f30 : w2.frozen? ⟨g + 1 + 1 + 1, 0, none⟩ = false := Lib.frozen_of_heap hq3 0
  obtain ⟨r2, r3, ro, rs, rb⟩ := qch_ hq2 hq3 (.pointer none) (.int .u32 0) (.int .i64 4)
  have HE := Lib.hid (And.intro (qaa_ r2) (And.intro (qad_ r3) (qha_ HR.out hg HBG.out (HBWW.out.trans (rb.mono (by omega))))))
  clear hq2 hq3 r2 r3 ro rs rb
  gi_wp2
  obtain ⟨⟨e20, e21⟩, e30, _⟩ := HE.out
  refine ⟨.tuple #[.agg #[.pointer none, .int .u32 0], .int .i64 4], by simp [results, Tryz.results166, go_sem, e20, e21, e30], ?_⟩
  exact ⟨⟨none, 0, 4, rfl, by rw [HXV.out]; rfl⟩, HE.out.2.2⟩
 subst hE0
 have HHM := Lib.hid hul
 have HLM : Hid (L.length = M) := Lib.hid (by have := HML.out; rwa [List.length_map] at this)
 by_cases hm3 : M % 3 = 0
 rotate_left
 ·have q1 : (((M : Int) % 3) != 0) = true := by rw [bne_iff_ne]; omega
  have HNBW := HNB2
  have HBWW := HB2
  have HXV : Hid (XV = .error 4) := Lib.hid (by rw [HXD2.out, if_pos (.inr (by rw [HLM.out]; exact hm3))])
  have HG := Lib.hid hg
  clear hE hm3 CO HSC
  have hq2 := HNBW.out.2.2.1
  have hq3 := HNBW.out.2.2.2
  have c20 : w2.cell? ⟨g + 1 + 1, 0, none⟩ = some (.pointer none) := (qaa_ hq2).1
  have c21 : w2.cell? ⟨g + 1 + 1, 1, none⟩ = some (.int .u32 0) := (qaa_ hq2).2
  have c30 : w2.cell? ⟨g + 1 + 1 + 1, 0, none⟩ = some (.int .i64 0) := qad_ hq3
  have f20 : w2.frozen? ⟨g + 1 + 1, 0, none⟩ = false := Lib.frozen_of_heap hq2 0
  have f21 : w2.frozen? ⟨g + 1 + 1, 1, none⟩ = false := Lib.frozen_of_heap hq2 1
  have f30 : w2.frozen? ⟨g + 1 + 1 + 1, 0, none⟩ = false := Lib.frozen_of_heap hq3 0
  obtain ⟨r2, r3, ro, rs, rb⟩ := qch_ hq2 hq3 (.pointer none) (.int .u32 0) (.int .i64 4)
  have HE := Lib.hid (And.intro (qaa_ r2) (And.intro (qad_ r3) (qha_ HR.out hg HBG.out (HBWW.out.trans (rb.mono (by omega))))))
  clear hq2 hq3 r2 r3 ro rs rb
  gi_wp2
  obtain ⟨⟨e20, e21⟩, e30, _⟩ := HE.out
  refine ⟨.tuple #[.agg #[.pointer none, .int .u32 0], .int .i64 4], by simp [results, Tryz.results166, go_sem, e20, e21, e30], ?_⟩
  exact ⟨⟨none, 0, 4, rfl, by rw [HXV.out]; rfl⟩, HE.out.2.2⟩
 have q1 : (((M : Int) % 3) != 0) = false := by rw [bne_eq_false_iff_eq]; omega
 have HM3 := Lib.hid hm3
 obtain ⟨pa2, pi2, hbk2⟩ := HSC.out w2 HB2.out
 obtain ⟨s0, s1, s2, _, _⟩ := qat_ hbk2
 obtain ⟨l0, l1⟩ := qaa_ HNB2.out.2.1
 clear hE hm3 hbk2
 gi_wp2_with fail
 refine ⟨trivial, rfl, (callsIn_wide.2 (CO.out _ HB2.out)).mono ?_⟩
 rintro e w3 ⟨rfl, hb3⟩
 have HB3 := Lib.hid (HB2.out.trans (hb3.mono (by have := HZ2.out; omega)))
 have HNB3 := Lib.hid (HNB2.out.on (hb3.mono HZ2.out))
 have HZ3 : Hid (g + 4 <= w3.heap.size) := Lib.hid (by have := HZ2.out; have := hb3.size; omega)
 have HCEL3 := Lib.hid ((HCEL.out.below hb3).more hb3.size)
 clear s0 s1 s2 l0 l1 hb3 CO HSC q1
 -- the mask's box
 obtain ⟨gm, hgm⟩ : ∃ gm, w3.heap.size = gm := ⟨_, rfl⟩
 have hmb : Below w3.heap.size w3 (w3.alloc (.cells #[.int .u32 mk] 22)) := (Below.refl _ _).alloc (Nat.le_refl _) _
 have hmc' := heap_alloc_new w3 (.cells #[.int .u32 mk] 22)
 have hms : (w3.alloc (.cells #[.int .u32 mk] 22)).heap.size = gm + 1 := by simp [hgm]
 obtain ⟨w4, hw4⟩ : ∃ w4, w3.alloc (.cells #[.int .u32 mk] 22) = w4 := ⟨_, rfl⟩
 rw [hw4] at hmb hmc' hms
 rw [hgm] at hmc' HZ3
 have HB4 := Lib.hid (HB3.out.trans (hmb.mono (by rw [hgm]; have := HZ3.out; omega)))
 have HNB4 := Lib.hid (HNB3.out.on (hmb.mono (by rw [hgm]; exact HZ3.out)))
 have HCEL4 := Lib.hid ((HCEL3.out.below hmb).more hmb.size)
 have HMC := Lib.hid hmc'
 have HZ4 := Lib.hid hms
 clear hmb hmc' hms
 by_cases her : er = 0
 rotate_left
 ·have q1 : (er != 0) = true := by rw [bne_iff_ne]; exact her
  have HNBW := HNB4
  have HBWW := HB4
  have HXV : Hid (XV = .error er) := Lib.hid (by rw [HXD2.out, if_neg (by rw [HLM.out]; have := HM3.out; omega), if_pos her])
  have HG := Lib.hid hg
  clear her
  have hq2 := HNBW.out.2.2.1
  have hq3 := HNBW.out.2.2.2
  have c20 : w4.cell? ⟨g + 1 + 1, 0, none⟩ = some (.pointer none) := (qaa_ hq2).1
  have c21 : w4.cell? ⟨g + 1 + 1, 1, none⟩ = some (.int .u32 0) := (qaa_ hq2).2
  have c30 : w4.cell? ⟨g + 1 + 1 + 1, 0, none⟩ = some (.int .i64 0) := qad_ hq3
  have f20 : w4.frozen? ⟨g + 1 + 1, 0, none⟩ = false := Lib.frozen_of_heap hq2 0
  have f21 : w4.frozen? ⟨g + 1 + 1, 1, none⟩ = false := Lib.frozen_of_heap hq2 1
  have f30 : w4.frozen? ⟨g + 1 + 1 + 1, 0, none⟩ = false := Lib.frozen_of_heap hq3 0
  obtain ⟨r2, r3, ro, rs, rb⟩ := qch_ hq2 hq3 (.pointer none) (.int .u32 0) (.int .i64 er)
  have HE := Lib.hid (And.intro (qaa_ r2) (And.intro (qad_ r3) (qha_ HR.out hg HBG.out (HBWW.out.trans (rb.mono (by omega))))))
  clear hq2 hq3 r2 r3 ro rs rb
  gi_wp2
  obtain ⟨⟨e20, e21⟩, e30, _⟩ := HE.out
  refine ⟨.tuple #[.agg #[.pointer none, .int .u32 0], .int .i64 er], by simp [results, Tryz.results166, go_sem, e20, e21, e30], ?_⟩
  exact ⟨⟨none, 0, er, rfl, by rw [HXV.out]; rfl⟩, HE.out.2.2⟩
 subst her
 have HBW0 := Lib.hid hg
 obtain ⟨m, hm⟩ : ∃ m, M = m * 3 := ⟨M / 3, by have := HM3.out; omega⟩
 have HMm := Lib.hid hm
 have HMm2 : Hid (L.length / 3 = m) := Lib.hid (by rw [HLM.out]; omega)
 have HXL0 : Hid (XV = qf8_ t.root L (if ok = true then mk else 4294967295) ln) := Lib.hid (by rw [HXD2.out, if_neg (by rw [HLM.out]; have := HM3.out; omega), if_neg (by simp)])
 have HC2 := Lib.hid (And.intro hmc hc2)
 have cm : w4.cell? ⟨gm, 0, none⟩ = some (.int .u32 mk) := qad_ HMC.out
 have fm : w4.frozen? ⟨gm, 0, none⟩ = false := Lib.frozen_of_heap HMC.out 0
 cases ok
 ·have HXL : Hid (XV = qf8_ t.root L 4294967295 ln) := Lib.hid (by rw [HXL0.out]; rfl)
  obtain ⟨W5, hW5⟩ : ∃ W5, w4.setCell ⟨gm, 0, none⟩ (.int .u32 4294967295) = W5 := ⟨_, rfl⟩
  have hb5 : Below gm w4 W5 := by rw [<- hW5]; exact (Below.refl _ _).setCell (p := ⟨gm, 0, none⟩) (Nat.le_refl _) _
  have hz5 : W5.heap.size = gm + 1 := by rw [<- hW5]; simp [HZ4.out]
  have hm5 : W5.heap[gm]? = some (.cells #[.int .u32 4294967295] 22 (0, 0)) := by
   have h := HMC.out
   rw [<- hW5]
   simp [World.setCell, Array.getElem?_modify, h]
  have hc5 : Cel W5 W5.heap.size A2 M (u32s L) := by
   refine ((HCEL3.out).below ?_).more (by rw [hz5]; have := hgm; omega)
   rw [hgm]
   exact ((Below.refl gm w3).alloc (by omega) _ |> fun h => by rw [hw4] at h; exact h.trans hb5)
  replace HB4 := Lib.hid (HB4.out.trans (hb5.mono (by have := HZ3.out; omega)))
  replace HNB4 := Lib.hid (HNB4.out.on (hb5.mono HZ3.out))
  replace HCEL4 := Lib.hid hc5
  replace HMC := Lib.hid hm5
  replace HZ4 := Lib.hid hz5
  clear hb5 hz5 hm5 hc5 hm hmc hc2
  have HCEL5 := Lib.hid HCEL4.out
  obtain ⟨W6, hW6⟩ : ∃ W6, (W5.alloc (.cells #[.slice A2 M c2] 87)).alloc (.cells #[.int .i64 3] 3) = W6 := ⟨_, rfl⟩
  have HCH := qeq_ A2 M c2 3 (by omega) W5
  rw [HZ4.out] at HCH
  have hb6 : Below W5.heap.size W5 W6 := by rw [<- hW6]; exact ((Below.refl _ _).alloc (Nat.le_refl _) _).alloc (by simp) _
  have hx1 : W6.heap[gm + 1]? = some (.cells #[.slice A2 M c2] 87 (0, 0)) := by
   rw [<- hW6, Below.heap_alloc _ _ _ (by simp [HZ4.out]), <- HZ4.out]; exact heap_alloc_new _ _
  have hx2 : W6.heap[gm + 1 + 1]? = some (.cells #[.int .i64 3] 3 (0, 0)) := by
   have e : (W5.alloc (.cells #[.slice A2 M c2] 87)).heap.size = gm + 1 + 1 := by simp [HZ4.out]
   rw [<- hW6, <- e]; exact heap_alloc_new _ _
  have hz6 : W6.heap.size = gm + 3 := by rw [<- hW6]; simp [HZ4.out]
  have HCHH : Hid (Calls Tryz.prog 114 #[.slice A2 M c2, .int .i64 3] W5 fun e w' => e = .returned (.func (.func 145) #[] #[.pointer (some ⟨gm + 1, 0, none⟩), .pointer (some ⟨gm + 1 + 1, 0, none⟩)]) /\ w' = W6) := Lib.hid (by rw [<- hW6]; exact HCH)
  have HB6 := Lib.hid (HB4.out.trans (hb6.mono (by have := HZ4.out; have := HZ3.out; omega)))
  have HNB6 := Lib.hid (HNB4.out.on (hb6.mono (by have := HZ4.out; have := HZ3.out; omega)))
  have HCEL6 := Lib.hid ((HCEL5.out.below hb6).more (B' := gm + 3) (by have := HZ4.out; omega))
  have HMC6 := Lib.hid ((hb6.block gm (by have := HZ4.out; omega)).trans HMC.out)
  have HX6 := Lib.hid (And.intro hx1 hx2)
  have HZ6 := Lib.hid hz6
  have HGM : Hid (g + 4 <= gm) := HZ3
  have HWK := Lib.hid (qd5_ A2 c2 M 3 m B (gm + 1) W6 (by rw [hz6]; have := HBG.out; have := HGM.out; omega) (by omega) HMm.out ⟨HC2.out.1, HC2.out.2, by have := HHM.out; omega⟩)
  clear hb6 hx1 hx2 hz6 HCH hW6
  gi_wp2_with (refine ⟨trivial, rfl, (callsIn_wide.2 HCHH.out).mono ?_⟩; rintro e W7 ⟨rfl, rfl⟩)
  clear HCHH cm fm
  refine qa3_ (gf := 145) (lb := #[.pointer (some ⟨gm + 1, 0, none⟩), .pointer (some ⟨gm + 1 + 1, 0, none⟩)]) rfl (enters_of Tryz.func145 (by kernel_rfl) rfl) HWK.out (Below.refl _ _) (by rw [HZ6.out]; have := HBG.out; have := HGM.out; omega) (fun Wx j args h => by obtain rfl : args = _ := h; rfl) (gm + 3) (by rw [HZ6.out]; exact Nat.le_refl _) (fun _ => False) (fun k h => h.elim)
   (fun Mk pre Wx => Below (gm + 3) W7 Wx /\ ∀ j ∈ pre, qjo_ L 4294967295 ln j = false) (fun c Mk pre Wx => c = .ret /\ NFinF t B r g D w XV Mk Wx)
   (fun T T' s A C hs hB hT ht hst => ⟨hs.1.trans (ht.below hT hB), hs.2⟩) (fun c T T' s A C hs hB hT ht hst => ⟨hs.1, hs.2.turn ht hT hB (by have := HRG.out; have := HGM.out; omega) (by have := HGM.out; omega) HBG.out (by rw [HBW0.out]; have := HGM.out; omega)⟩) (fun Mk s W1 h => ⟨(h.1.block _ (by omega)).trans HX6.out.1, (h.1.block _ (by omega)).trans HX6.out.2⟩) ⟨Below.refl _ _, fun j h => by cases h⟩ ?round ?done ?stop
  case round =>
   rintro l2 Mk pre j args Wr hM hu hsz hbn hI henc hpre
   obtain rfl : args = _ := henc
   have hjm : j < m := by
    have := hpre.subset (show j ∈ pre ++ [j] by simp)
    simpa using this
   have hj3 : j * 3 + 3 <= M := by rw [HMm.out]; omega
   gi_wp2
   refine ⟨hI, Kp.refl _ _ _, ?_⟩
   intro W3 hi3' ht3 hcl3 hfz3
   obtain ⟨hi3, hno⟩ := hi3'
   have HNO := Lib.hid hno
   obtain ⟨eb, eo, eA, heb, hec⟩ := ((HCEL6.out.below hi3).chunk hj3).at_ (by omega)
   have hLl : L.length = M := by have := HML.out; rwa [List.length_map] at this
   have hv : ∀ i, i < 3 -> W3.cell? ⟨eb, eo + i, none⟩ = some (.int .u32 (L.getD (j * 3 + i) 0)) /\ 0 <= L.getD (j * 3 + i) 0 /\ L.getD (j * 3 + i) 0 <= 4294967295 := fun i hi => by
    rw [List.getD_eq_getElem?_getD, List.getElem?_eq_getElem (by omega : j * 3 + i < L.length), Option.getD_some]
    refine ⟨?_, HRG2.out _ (List.getElem_mem _)⟩
    rw [hec i hi, List.getElem?_take_of_lt hi, List.getElem?_drop, List.getElem?_map, List.getElem?_eq_getElem (by omega)]
    rfl
   obtain ⟨e0, _⟩ := hv 0 (by omega)
   obtain ⟨e1, hv1⟩ := hv 1 (by omega)
   obtain ⟨e2, hv2⟩ := hv 2 (by omega)
   rw [Nat.add_zero, Nat.add_zero] at e0
   obtain ⟨v0, hv0e⟩ : ∃ v, L.getD (j * 3) 0 = v := ⟨_, rfl⟩
   obtain ⟨v1, hv1e⟩ : ∃ v, L.getD (j * 3 + 1) 0 = v := ⟨_, rfl⟩
   obtain ⟨v2, hv2e⟩ : ∃ v, L.getD (j * 3 + 2) 0 = v := ⟨_, rfl⟩
   have HMT : Hid (qjo_ L 4294967295 ln j = (bits BinOp.and IntKind.u32 v0 4294967295 == bits BinOp.and IntKind.u32 ln 4294967295)) := Lib.hid (by rw [<- hv0e]; rfl)
   have HXJ : Hid (qjo_ L 4294967295 ln j = true -> XV = match qbo_ t.root v1 with | .error er => .error er | .ok p => .ok (p, v2)) := Lib.hid (fun h => by
    rw [HXL.out, qf8_, HMm2.out, qo6_ m pre j hpre hno h, <- hv1e, <- hv2e])
   rw [hv0e] at e0
   rw [hv1e] at e1 hv1
   rw [hv2e] at e2
   rw [eA]
   have HI3 := Lib.hid hi3
   have HEB : Hid (eb < W3.heap.size) := Lib.hid (by have := hi3.size; have := HZ6.out; omega)
   have HU3 := Lib.hid (ht3.ups hu (by have := HZ6.out; omega))
   have HV1 := Lib.hid hv1
   have HS3 : Hid (gm + 3 <= W3.heap.size) := Lib.hid (by have := hi3.size; have := HZ6.out; omega)
   have l0 := (qaa_ ((hi3.block (g + 1) (by have := HGM.out; omega)).trans HNB6.out.2.1)).2
   have l1 := qad_ ((hi3.block gm (by omega)).trans HMC6.out)
   have l2' := qad_ ((hi3.block g (by have := HGM.out; omega)).trans HNB6.out.1)
   have HEC := Lib.hid (And.intro e0 (And.intro e1 (And.intro e2 (And.intro l0 (And.intro l1 l2')))))
   clear hM hu hsz hbn hI hpre hjm hj3 hi3 ht3 hcl3 hfz3 hec hLl hv hv1 hv2 heb eA hv0e hv1e hv2e hno
   gi_wp2_with fail
   refine qc2_ (S := fun W => W.cell? ⟨eb, eo, none⟩ = some (.int .u32 v0) /\ W.cell? ⟨gm, 0, none⟩ = some (.int .u32 4294967295) /\ W.cell? ⟨g + 1, 1, none⟩ = some (.int .u32 ln)) (by kernel_rfl) ⟨e0, l1, l0⟩ (fun hHeld => ?_)
   refine tkI 0 hHeld fun _ => ?_
   refine tkI 1 hHeld fun _ => ?_
   refine tkI 2 hHeld fun _ => ?_
   refine tkI 3 hHeld fun _ => ?_
   refine tkI 4 hHeld fun _ => ?_
   refine tkI 5 hHeld fun _ => ?_
   refine tkI 6 hHeld fun _ => ?_
   refine tkI 7 hHeld fun _ => ?_
   refine tkI 8 hHeld fun _ => ?_
   refine tkI 9 hHeld fun _ => ?_
   refine qcg_ (by kernel_rfl) ?_ _
   clear hHeld
   obtain ⟨q, hq⟩ : ∃ q, (bits BinOp.and IntKind.u32 v0 4294967295 == bits BinOp.and IntKind.u32 ln 4294967295) = q := ⟨_, rfl⟩
   have HQ := Lib.hid (HMT.out.trans hq)
   rw [hq]
   clear hq e0 e1 e2 l0 l1 l2'
   cases q
   ·gi_wp2
    exact ⟨⟨(Below.refl B W3).drew, fun _ _ => rfl⟩, HI3.out.drew, fun j' hj' => (by
     rcases List.mem_append.1 hj' with h | h
     ·exact HNO.out j' h
     ·rw [List.mem_singleton.1 h]; exact HQ.out)⟩
   ·have hbw3 : Below g w W3 := HB6.out.trans (HI3.out.mono (by have := HGM.out; omega))
    have HBW3 := Lib.hid hbw3
    have hrd3 : RdF W3.drew.drew B r t (fun k => D k /\ k < g) := HR.out.keep (fun j h hl => ⟨h, by rw [HBW0.out] at hl; exact hl⟩) (fun j _ hl => hbw3.block j (by rw [HBW0.out] at hl; exact hl))
    have hne : eb ≠ r := by
     rintro rfl
     obtain ⟨own, er, hb⟩ := hrd3.rd
     exact qhv_ hb _ _ HEC.out.2.1
    have CL := Lib.hid (qfo_ t B r (fun k => D k /\ k < g) v1 W3.drew.drew hrd3 (by have h1 := HS3.out; have h2 := HBG.out; have h3 := HGM.out; show B <= W3.heap.size; omega) (HIN.out.under ((hbw3.mono HBG.out).drew.drew)) HH.out HV1.out)
    have HNE := Lib.hid hne
    have e1 := HEC.out.2.1
    have l2' := HEC.out.2.2.2.2.2
    clear hbw3 hrd3 hne
    gi_wp2_with fail
    refine qc2_ (S := fun W => W.cell? ⟨eb, eo + 1, none⟩ = some (.int .u32 v1) /\ W.cell? ⟨g, 0, none⟩ = some (.pointer (some ⟨r, 0, none⟩))) (by kernel_rfl) ⟨e1, l2'⟩ (fun hHeld => ?_)
    clear e1 l2'
    refine tkI 0 hHeld fun _ => ?_
    refine tkI 1 hHeld fun _ => ?_
    refine tkI 2 hHeld fun _ => ?_
    refine tkI 3 hHeld fun _ => ?_
    refine qb1_ 4 (by kernel_rfl) rfl (by rfl) (fun K hK => ?_)
    refine ⟨fun _ _ => trivial, ?_⟩
    go_simp
    refine ⟨rfl, (CallsIn.inRound l2 (callsIn_wide.2 CL.out)).mono ?_⟩
    rintro e W4 ⟨hfo, hrd4, htn4⟩
    obtain ⟨p, er, rfl, hgood⟩ := FindF.out hfo
    have hbk4 : ∀ k, k < gm + 3 -> k ≠ r -> W4.heap[k]? = W3.heap[k]? := fun k hk hkr => htn4.same k (by have := HS3.out; show k < W3.heap.size; omega) hkr
    have e1 : W4.cell? ⟨eb, eo + 1, none⟩ = some (.int .u32 v1) := (World.cell?_of_block (a := ⟨eb, eo + 1, none⟩) (htn4.same eb (HEB.out) HNE.out)).trans HEC.out.2.1
    have e2 : W4.cell? ⟨eb, eo + 2, none⟩ = some (.int .u32 v2) := (World.cell?_of_block (a := ⟨eb, eo + 2, none⟩) (htn4.same eb (HEB.out) HNE.out)).trans HEC.out.2.2.1
    have l2' : W4.cell? ⟨g, 0, none⟩ = some (.pointer (some ⟨r, 0, none⟩)) := (World.cell?_of_block (a := ⟨g, 0, none⟩) (hbk4 g (by have := HGM.out; omega) (by have := HRG.out; omega))).trans HEC.out.2.2.2.2.2
    have hq2 := (hbk4 (g + 2) (by have := HGM.out; omega) (by have := HRG.out; omega)).trans ((HI3.out.block (g + 2) (by have := HGM.out; omega)).trans HNB6.out.2.2.1)
    have hq3 := (hbk4 (g + 3) (by have := HGM.out; omega) (by have := HRG.out; omega)).trans ((HI3.out.block (g + 3) (by have := HGM.out; omega)).trans HNB6.out.2.2.2)
    have c20 : W4.cell? ⟨g + 1 + 1, 0, none⟩ = some (.pointer none) := (qaa_ hq2).1
    have c21 : W4.cell? ⟨g + 1 + 1, 1, none⟩ = some (.int .u32 0) := (qaa_ hq2).2
    have c30 : W4.cell? ⟨g + 1 + 1 + 1, 0, none⟩ = some (.int .i64 0) := qad_ hq3
    have f20 : W4.frozen? ⟨g + 1 + 1, 0, none⟩ = false := Lib.frozen_of_heap hq2 0
    have f21 : W4.frozen? ⟨g + 1 + 1, 1, none⟩ = false := Lib.frozen_of_heap hq2 1
    have f30 : W4.frozen? ⟨g + 1 + 1 + 1, 0, none⟩ = false := Lib.frozen_of_heap hq3 0
    obtain ⟨r2, r3, ro, rs, rb⟩ := qch_ hq2 hq3 (.pointer p) (.int .u32 v2) (.int .i64 er)
    have hMk : ∀ k, ((D k /\ k < g) \/ W3.heap.size <= k) -> (D k \/ g <= k) /\ ¬ Mk k := fun k hk => by
     have h1 := HGM.out
     have h2 := HS3.out
     rcases hk with ⟨h3, h4⟩ | h3
     ·exact ⟨.inl h3, fun h => by have := (HU3.out k h).1; omega⟩
     ·exact ⟨.inr (by omega), fun h => by have := (HU3.out k h).2; omega⟩
    have hro : ∀ k, ((D k /\ k < g) \/ W3.heap.size <= k) -> k ≠ g + 2 /\ k ≠ g + 3 := fun k hk => by
     have h1 := HGM.out
     have h2 := HS3.out
     rcases hk with ⟨_, h4⟩ | h3 <;> omega
    have HFIN : Hid (Kp B Mk W3 (((W4.setCell ⟨g + 2, 0, none⟩ (.pointer p)).setCell ⟨g + 2, 1, none⟩ (.int .u32 v2)).setCell ⟨g + 3, 0, none⟩ (.int .i64 er)) /\ NFinF t B r g D w XV Mk (((W4.setCell ⟨g + 2, 0, none⟩ (.pointer p)).setCell ⟨g + 2, 1, none⟩ (.int .u32 v2)).setCell ⟨g + 3, 0, none⟩ (.int .i64 er))) := Lib.hid (by
     have hB4 : Below B W3 W4 := (Below.refl B W3).drew.drew.trans htn4.below
     have hBr := HBG.out
     have h1 := HGM.out
     have h2 := HS3.out
     have h3 := HRG.out
     refine ⟨⟨hB4.trans (rb.mono (by omega)), fun k hk => ?_⟩, p, v2, er, r2, r3, ?_, ?_, (HBW3.out.mono hBr).trans (hB4.trans (rb.mono (by omega))), fun k hk hkr => ?_⟩
     ·obtain ⟨h4, h5⟩ := HU3.out k hk
      exact (ro k (by omega) (by omega)).trans (htn4.same k h5 (by omega))
     ·rw [HXJ.out HQ.out]
      generalize qbo_ t.root v1 = ih at hgood ⊢
      cases ih with
      | error er' => exact hgood
      | ok pz =>
       obtain ⟨h4, sb, sx, e, hsp⟩ := hgood
       exact ⟨h4, rfl, sb, sx, e, (hsp.keep (fun j hj _ => ro j (hro j hj).1 (hro j hj).2)).sub (fun j hj _ => hMk j hj)⟩
     ·exact hrd4.keep (fun j hj _ => hMk j hj) (fun j hj _ => hj.elim (fun e => ro j (by omega) (by omega)) (fun hj => ro j (hro j hj).1 (hro j hj).2))
     ·rw [HBW0.out] at hk
      exact (ro k (by omega) (by omega)).trans ((htn4.same k (by show k < W3.heap.size; omega) hkr).trans (HBW3.out.block k hk)))
    clear hgood hrd4 htn4 hbk4 hq2 hq3 r2 r3 ro rs rb hMk hro CL
    refine hK.out _ _ ⟨e1, l2'⟩ (fun hHeld => ?_)
    clear hK K
    refine tkI 5 hHeld fun _ => ?_
    refine tkI 6 hHeld fun _ => ?_
    refine tkI 7 hHeld fun _ => ?_
    refine tkI 8 hHeld fun _ => ?_
    refine tkI 9 hHeld fun _ => ?_
    refine qcg_ (by kernel_rfl) ?_ _
    clear hHeld
    gi_wp2
    exact ⟨HFIN.out.1, rfl, HFIN.out.2⟩
  case done =>
   rintro Dd Mk Wd hM hu hsz hD ⟨hI, hno⟩ hd
   have HXE : Hid (XV = .error 8) := Lib.hid (by
    rw [HXL.out, qf8_, HMm2.out, List.find?_eq_none.2 (fun j hj => by rw [hno j hj]; simp)])
   have hgm4 := HGM.out
   have hDb := (hu Dd hD).1
   have hq2 := (hI.block (g + 2) (by omega)).trans HNB6.out.2.2.1
   have hq3 := (hI.block (g + 3) (by omega)).trans HNB6.out.2.2.2
   have c20 : Wd.cell? ⟨g + 1 + 1, 0, none⟩ = some (.pointer none) := (qaa_ hq2).1
   have c21 : Wd.cell? ⟨g + 1 + 1, 1, none⟩ = some (.int .u32 0) := (qaa_ hq2).2
   have c30 : Wd.cell? ⟨g + 1 + 1 + 1, 0, none⟩ = some (.int .i64 0) := qad_ hq3
   have f20 : Wd.frozen? ⟨g + 1 + 1, 0, none⟩ = false := Lib.frozen_of_heap hq2 0
   have f21 : Wd.frozen? ⟨g + 1 + 1, 1, none⟩ = false := Lib.frozen_of_heap hq2 1
   have f30 : Wd.frozen? ⟨g + 1 + 1 + 1, 0, none⟩ = false := Lib.frozen_of_heap hq3 0
   obtain ⟨r2, r3, ro, rs, rb⟩ := qch_ hq2 hq3 (.pointer none) (.int .u32 0) (.int .i64 8)
   have HD2 := Lib.hid ((ro Dd (by omega) (by omega)).trans hd)
   have HE : Hid (((((((Wd.setCell ⟨g + 2, 0, none⟩ (.pointer none)).setCell ⟨g + 2, 1, none⟩ (.int .u32 0)).setCell ⟨g + 3, 0, none⟩ (.int .i64 8)).putObj Dd (.deferred none)).cell? ⟨g + 1 + 1, 0, none⟩ = some (.pointer none) /\ ((((Wd.setCell ⟨g + 2, 0, none⟩ (.pointer none)).setCell ⟨g + 2, 1, none⟩ (.int .u32 0)).setCell ⟨g + 3, 0, none⟩ (.int .i64 8)).putObj Dd (.deferred none)).cell? ⟨g + 1 + 1, 1, none⟩ = some (.int .u32 0)) /\ ((((Wd.setCell ⟨g + 2, 0, none⟩ (.pointer none)).setCell ⟨g + 2, 1, none⟩ (.int .u32 0)).setCell ⟨g + 3, 0, none⟩ (.int .i64 8)).putObj Dd (.deferred none)).cell? ⟨g + 1 + 1 + 1, 0, none⟩ = some (.int .i64 8)) /\
     RdF ((((Wd.setCell ⟨g + 2, 0, none⟩ (.pointer none)).setCell ⟨g + 2, 1, none⟩ (.int .u32 0)).setCell ⟨g + 3, 0, none⟩ (.int .i64 8)).putObj Dd (.deferred none)) B r t (fun k => D k \/ g <= k) /\ Tn B r w ((((Wd.setCell ⟨g + 2, 0, none⟩ (.pointer none)).setCell ⟨g + 2, 1, none⟩ (.int .u32 0)).setCell ⟨g + 3, 0, none⟩ (.int .i64 8)).putObj Dd (.deferred none))) := Lib.hid (by
    generalize ((Wd.setCell ⟨g + 2, 0, none⟩ (.pointer none)).setCell ⟨g + 2, 1, none⟩ (.int .u32 0)).setCell ⟨g + 3, 0, none⟩ (.int .i64 8) = We at r2 r3 ro rs rb ⊢
    have pt : ∀ k, k ≠ Dd -> (We.putObj Dd (.deferred none)).heap[k]? = We.heap[k]? := fun k hk => World.putObj_heap_other hk
    have hbe : Below g w (We.putObj Dd (.deferred none)) := (HB6.out.trans (hI.mono (by omega))).trans ((rb.mono (by omega)).trans ⟨rfl, rfl, rfl, by simp, fun k hk => pt k (by omega)⟩)
    exact ⟨⟨qaa_ ((pt (g + 2) (by omega)).trans r2), qad_ ((pt (g + 3) (by omega)).trans r3)⟩, qha_ HR.out HBW0.out HBG.out hbe⟩)
   clear hM hu hsz hD hI hno hd hgm4 hDb hq2 hq3 r2 r3 ro rs rb
   gi_wp2
   refine ⟨by simp, .inl ⟨_, _, rfl, run_takeDeferred HD2.out, ?_⟩⟩
   obtain ⟨⟨⟨e20, e21⟩, e30⟩, _⟩ := HE.out
   refine ⟨.tuple #[.agg #[.pointer none, .int .u32 0], .int .i64 8], by simp [results, Tryz.results166, go_sem, e20, e21, e30], ?_⟩
   exact ⟨⟨none, 0, 8, rfl, by rw [HXE.out]; rfl⟩, HE.out.2⟩
  case stop =>
   rintro Dd c Mk pre Wd hM hu hsz hD hpre ⟨rfl, hf⟩ hd
   have hf2 := hf.turn (Turn.putObj Wd hD (.deferred none)) hu (by have := HZ6.out; omega) (by have := HRG.out; have := HGM.out; omega) (by have := HGM.out; omega) HBG.out (by rw [HBW0.out]; have := HGM.out; omega)
   obtain ⟨p, ln', er', h1, h2, h3, h4, h5⟩ := hf2
   have HE := Lib.hid (And.intro (qaa_ h1) (qad_ h2))
   have HGD := Lib.hid (h3.keep (D' := fun k => D k \/ g <= k) (W' := Wd.putObj Dd (.deferred none)) (fun j hj _ => hj.1) (fun _ _ _ => rfl))
   have HRD := Lib.hid (And.intro (h4.keep (D' := fun k => D k \/ g <= k) (fun j hj _ => hj.1) (fun _ _ _ => rfl)) h5)
   have HDD := Lib.hid hd
   clear hM hu hsz hD hpre hf hd h1 h2 h3 h4 h5
   gi_wp2
   refine ⟨by simp, .inl ⟨_, _, rfl, run_takeDeferred HDD.out, ?_⟩⟩
   obtain ⟨⟨e20, e21⟩, e30⟩ := HE.out
   replace e20 : (Wd.putObj Dd (.deferred none)).cell? ⟨g + 1 + 1, 0, none⟩ = some (.pointer p) := e20
   replace e21 : (Wd.putObj Dd (.deferred none)).cell? ⟨g + 1 + 1, 1, none⟩ = some (.int .u32 ln') := e21
   replace e30 : (Wd.putObj Dd (.deferred none)).cell? ⟨g + 1 + 1 + 1, 0, none⟩ = some (.int .i64 er') := e30
   refine ⟨.tuple #[.agg #[.pointer p, .int .u32 ln'], .int .i64 er'], by simp [results, Tryz.results166, go_sem, e20, e21, e30], ?_⟩
   exact ⟨⟨p, ln', er', rfl, HGD.out⟩, HRD.out⟩
 ·have HXL : Hid (XV = qf8_ t.root L mk ln) := Lib.hid (by rw [HXL0.out]; rfl)
  obtain ⟨W5, hW5⟩ : ∃ W5, w4 = W5 := ⟨_, rfl⟩
  have HMK : Hid (0 <= mk /\ mk <= 4294967295) := HOR
  rw [hW5] at HB4 HNB4 HCEL4 HMC HZ4 hw4 cm fm
  clear hW5 hm hmc hc2
  have HCEL5 := Lib.hid HCEL4.out
  obtain ⟨W6, hW6⟩ : ∃ W6, (W5.alloc (.cells #[.slice A2 M c2] 87)).alloc (.cells #[.int .i64 3] 3) = W6 := ⟨_, rfl⟩
  have HCH := qeq_ A2 M c2 3 (by omega) W5
  rw [HZ4.out] at HCH
  have hb6 : Below W5.heap.size W5 W6 := by rw [<- hW6]; exact ((Below.refl _ _).alloc (Nat.le_refl _) _).alloc (by simp) _
  have hx1 : W6.heap[gm + 1]? = some (.cells #[.slice A2 M c2] 87 (0, 0)) := by
   rw [<- hW6, Below.heap_alloc _ _ _ (by simp [HZ4.out]), <- HZ4.out]; exact heap_alloc_new _ _
  have hx2 : W6.heap[gm + 1 + 1]? = some (.cells #[.int .i64 3] 3 (0, 0)) := by
   have e : (W5.alloc (.cells #[.slice A2 M c2] 87)).heap.size = gm + 1 + 1 := by simp [HZ4.out]
   rw [<- hW6, <- e]; exact heap_alloc_new _ _
  have hz6 : W6.heap.size = gm + 3 := by rw [<- hW6]; simp [HZ4.out]
  have HCHH : Hid (Calls Tryz.prog 114 #[.slice A2 M c2, .int .i64 3] W5 fun e w' => e = .returned (.func (.func 145) #[] #[.pointer (some ⟨gm + 1, 0, none⟩), .pointer (some ⟨gm + 1 + 1, 0, none⟩)]) /\ w' = W6) := Lib.hid (by rw [<- hW6]; exact HCH)
  have HB6 := Lib.hid (HB4.out.trans (hb6.mono (by have := HZ4.out; have := HZ3.out; omega)))
  have HNB6 := Lib.hid (HNB4.out.on (hb6.mono (by have := HZ4.out; have := HZ3.out; omega)))
  have HCEL6 := Lib.hid ((HCEL5.out.below hb6).more (B' := gm + 3) (by have := HZ4.out; omega))
  have HMC6 := Lib.hid ((hb6.block gm (by have := HZ4.out; omega)).trans HMC.out)
  have HX6 := Lib.hid (And.intro hx1 hx2)
  have HZ6 := Lib.hid hz6
  have HGM : Hid (g + 4 <= gm) := HZ3
  have HWK := Lib.hid (qd5_ A2 c2 M 3 m B (gm + 1) W6 (by rw [hz6]; have := HBG.out; have := HGM.out; omega) (by omega) HMm.out ⟨HC2.out.1, HC2.out.2, by have := HHM.out; omega⟩)
  clear hb6 hx1 hx2 hz6 HCH hW6
  gi_wp2_with (refine ⟨trivial, rfl, (callsIn_wide.2 HCHH.out).mono ?_⟩; rintro e W7 ⟨rfl, rfl⟩)
  clear HCHH cm fm
  refine qa3_ (gf := 145) (lb := #[.pointer (some ⟨gm + 1, 0, none⟩), .pointer (some ⟨gm + 1 + 1, 0, none⟩)]) rfl (enters_of Tryz.func145 (by kernel_rfl) rfl) HWK.out (Below.refl _ _) (by rw [HZ6.out]; have := HBG.out; have := HGM.out; omega) (fun Wx j args h => by obtain rfl : args = _ := h; rfl) (gm + 3) (by rw [HZ6.out]; exact Nat.le_refl _) (fun _ => False) (fun k h => h.elim)
   (fun Mk pre Wx => Below (gm + 3) W7 Wx /\ ∀ j ∈ pre, qjo_ L mk ln j = false) (fun c Mk pre Wx => c = .ret /\ NFinF t B r g D w XV Mk Wx)
   (fun T T' s A C hs hB hT ht hst => ⟨hs.1.trans (ht.below hT hB), hs.2⟩) (fun c T T' s A C hs hB hT ht hst => ⟨hs.1, hs.2.turn ht hT hB (by have := HRG.out; have := HGM.out; omega) (by have := HGM.out; omega) HBG.out (by rw [HBW0.out]; have := HGM.out; omega)⟩) (fun Mk s W1 h => ⟨(h.1.block _ (by omega)).trans HX6.out.1, (h.1.block _ (by omega)).trans HX6.out.2⟩) ⟨Below.refl _ _, fun j h => by cases h⟩ ?round ?done ?stop
  case round =>
   rintro l2 Mk pre j args Wr hM hu hsz hbn hI henc hpre
   obtain rfl : args = _ := henc
   have hjm : j < m := by
    have := hpre.subset (show j ∈ pre ++ [j] by simp)
    simpa using this
   have hj3 : j * 3 + 3 <= M := by rw [HMm.out]; omega
   gi_wp2
   refine ⟨hI, Kp.refl _ _ _, ?_⟩
   intro W3 hi3' ht3 hcl3 hfz3
   obtain ⟨hi3, hno⟩ := hi3'
   have HNO := Lib.hid hno
   obtain ⟨eb, eo, eA, heb, hec⟩ := ((HCEL6.out.below hi3).chunk hj3).at_ (by omega)
   have hLl : L.length = M := by have := HML.out; rwa [List.length_map] at this
   have hv : ∀ i, i < 3 -> W3.cell? ⟨eb, eo + i, none⟩ = some (.int .u32 (L.getD (j * 3 + i) 0)) /\ 0 <= L.getD (j * 3 + i) 0 /\ L.getD (j * 3 + i) 0 <= 4294967295 := fun i hi => by
    rw [List.getD_eq_getElem?_getD, List.getElem?_eq_getElem (by omega : j * 3 + i < L.length), Option.getD_some]
    refine ⟨?_, HRG2.out _ (List.getElem_mem _)⟩
    rw [hec i hi, List.getElem?_take_of_lt hi, List.getElem?_drop, List.getElem?_map, List.getElem?_eq_getElem (by omega)]
    rfl
   obtain ⟨e0, _⟩ := hv 0 (by omega)
   obtain ⟨e1, hv1⟩ := hv 1 (by omega)
   obtain ⟨e2, hv2⟩ := hv 2 (by omega)
   rw [Nat.add_zero, Nat.add_zero] at e0
   obtain ⟨v0, hv0e⟩ : ∃ v, L.getD (j * 3) 0 = v := ⟨_, rfl⟩
   obtain ⟨v1, hv1e⟩ : ∃ v, L.getD (j * 3 + 1) 0 = v := ⟨_, rfl⟩
   obtain ⟨v2, hv2e⟩ : ∃ v, L.getD (j * 3 + 2) 0 = v := ⟨_, rfl⟩
   have HMT : Hid (qjo_ L mk ln j = (bits BinOp.and IntKind.u32 v0 mk == bits BinOp.and IntKind.u32 ln mk)) := Lib.hid (by rw [<- hv0e]; rfl)
   have HXJ : Hid (qjo_ L mk ln j = true -> XV = match qbo_ t.root v1 with | .error er => .error er | .ok p => .ok (p, v2)) := Lib.hid (fun h => by
    rw [HXL.out, qf8_, HMm2.out, qo6_ m pre j hpre hno h, <- hv1e, <- hv2e])
   rw [hv0e] at e0
   rw [hv1e] at e1 hv1
   rw [hv2e] at e2
   rw [eA]
   have HI3 := Lib.hid hi3
   have HEB : Hid (eb < W3.heap.size) := Lib.hid (by have := hi3.size; have := HZ6.out; omega)
   have HU3 := Lib.hid (ht3.ups hu (by have := HZ6.out; omega))
   have HV1 := Lib.hid hv1
   have HS3 : Hid (gm + 3 <= W3.heap.size) := Lib.hid (by have := hi3.size; have := HZ6.out; omega)
   have l0 := (qaa_ ((hi3.block (g + 1) (by have := HGM.out; omega)).trans HNB6.out.2.1)).2
   have l1 := qad_ ((hi3.block gm (by omega)).trans HMC6.out)
   have l2' := qad_ ((hi3.block g (by have := HGM.out; omega)).trans HNB6.out.1)
   have HEC := Lib.hid (And.intro e0 (And.intro e1 (And.intro e2 (And.intro l0 (And.intro l1 l2')))))
   clear hM hu hsz hbn hI hpre hjm hj3 hi3 ht3 hcl3 hfz3 hec hLl hv hv1 hv2 heb eA hv0e hv1e hv2e hno
   gi_wp2_with fail
   refine qc2_ (S := fun W => W.cell? ⟨eb, eo, none⟩ = some (.int .u32 v0) /\ W.cell? ⟨gm, 0, none⟩ = some (.int .u32 mk) /\ W.cell? ⟨g + 1, 1, none⟩ = some (.int .u32 ln)) (by kernel_rfl) ⟨e0, l1, l0⟩ (fun hHeld => ?_)
   refine tkI 0 hHeld fun _ => ?_
   refine tkI 1 hHeld fun _ => ?_
   refine tkI 2 hHeld fun _ => ?_
   refine tkI 3 hHeld fun _ => ?_
   refine tkI 4 hHeld fun _ => ?_
   refine tkI 5 hHeld fun _ => ?_
   refine tkI 6 hHeld fun _ => ?_
   refine tkI 7 hHeld fun _ => ?_
   refine tkI 8 hHeld fun _ => ?_
   refine tkI 9 hHeld fun _ => ?_
   refine qcg_ (by kernel_rfl) ?_ _
   clear hHeld
   obtain ⟨q, hq⟩ : ∃ q, (bits BinOp.and IntKind.u32 v0 mk == bits BinOp.and IntKind.u32 ln mk) = q := ⟨_, rfl⟩
   have HQ := Lib.hid (HMT.out.trans hq)
   rw [hq]
   clear hq e0 e1 e2 l0 l1 l2'
   cases q
   ·gi_wp2
    exact ⟨⟨(Below.refl B W3).drew, fun _ _ => rfl⟩, HI3.out.drew, fun j' hj' => (by
     rcases List.mem_append.1 hj' with h | h
     ·exact HNO.out j' h
     ·rw [List.mem_singleton.1 h]; exact HQ.out)⟩
   ·have hbw3 : Below g w W3 := HB6.out.trans (HI3.out.mono (by have := HGM.out; omega))
    have HBW3 := Lib.hid hbw3
    have hrd3 : RdF W3.drew.drew B r t (fun k => D k /\ k < g) := HR.out.keep (fun j h hl => ⟨h, by rw [HBW0.out] at hl; exact hl⟩) (fun j _ hl => hbw3.block j (by rw [HBW0.out] at hl; exact hl))
    have hne : eb ≠ r := by
     rintro rfl
     obtain ⟨own, er, hb⟩ := hrd3.rd
     exact qhv_ hb _ _ HEC.out.2.1
    have CL := Lib.hid (qfo_ t B r (fun k => D k /\ k < g) v1 W3.drew.drew hrd3 (by have h1 := HS3.out; have h2 := HBG.out; have h3 := HGM.out; show B <= W3.heap.size; omega) (HIN.out.under ((hbw3.mono HBG.out).drew.drew)) HH.out HV1.out)
    have HNE := Lib.hid hne
    have e1 := HEC.out.2.1
    have l2' := HEC.out.2.2.2.2.2
    clear hbw3 hrd3 hne
    gi_wp2_with fail
    refine qc2_ (S := fun W => W.cell? ⟨eb, eo + 1, none⟩ = some (.int .u32 v1) /\ W.cell? ⟨g, 0, none⟩ = some (.pointer (some ⟨r, 0, none⟩))) (by kernel_rfl) ⟨e1, l2'⟩ (fun hHeld => ?_)
    clear e1 l2'
    refine tkI 0 hHeld fun _ => ?_
    refine tkI 1 hHeld fun _ => ?_
    refine tkI 2 hHeld fun _ => ?_
    refine tkI 3 hHeld fun _ => ?_
    refine qb1_ 4 (by kernel_rfl) rfl (by rfl) (fun K hK => ?_)
    refine ⟨fun _ _ => trivial, ?_⟩
    go_simp
    refine ⟨rfl, (CallsIn.inRound l2 (callsIn_wide.2 CL.out)).mono ?_⟩
    rintro e W4 ⟨hfo, hrd4, htn4⟩
    obtain ⟨p, er, rfl, hgood⟩ := FindF.out hfo
    have hbk4 : ∀ k, k < gm + 3 -> k ≠ r -> W4.heap[k]? = W3.heap[k]? := fun k hk hkr => htn4.same k (by have := HS3.out; show k < W3.heap.size; omega) hkr
    have e1 : W4.cell? ⟨eb, eo + 1, none⟩ = some (.int .u32 v1) := (World.cell?_of_block (a := ⟨eb, eo + 1, none⟩) (htn4.same eb (HEB.out) HNE.out)).trans HEC.out.2.1
    have e2 : W4.cell? ⟨eb, eo + 2, none⟩ = some (.int .u32 v2) := (World.cell?_of_block (a := ⟨eb, eo + 2, none⟩) (htn4.same eb (HEB.out) HNE.out)).trans HEC.out.2.2.1
    have l2' : W4.cell? ⟨g, 0, none⟩ = some (.pointer (some ⟨r, 0, none⟩)) := (World.cell?_of_block (a := ⟨g, 0, none⟩) (hbk4 g (by have := HGM.out; omega) (by have := HRG.out; omega))).trans HEC.out.2.2.2.2.2
    have hq2 := (hbk4 (g + 2) (by have := HGM.out; omega) (by have := HRG.out; omega)).trans ((HI3.out.block (g + 2) (by have := HGM.out; omega)).trans HNB6.out.2.2.1)
    have hq3 := (hbk4 (g + 3) (by have := HGM.out; omega) (by have := HRG.out; omega)).trans ((HI3.out.block (g + 3) (by have := HGM.out; omega)).trans HNB6.out.2.2.2)
    have c20 : W4.cell? ⟨g + 1 + 1, 0, none⟩ = some (.pointer none) := (qaa_ hq2).1
    have c21 : W4.cell? ⟨g + 1 + 1, 1, none⟩ = some (.int .u32 0) := (qaa_ hq2).2
    have c30 : W4.cell? ⟨g + 1 + 1 + 1, 0, none⟩ = some (.int .i64 0) := qad_ hq3
    have f20 : W4.frozen? ⟨g + 1 + 1, 0, none⟩ = false := Lib.frozen_of_heap hq2 0
    have f21 : W4.frozen? ⟨g + 1 + 1, 1, none⟩ = false := Lib.frozen_of_heap hq2 1
    have f30 : W4.frozen? ⟨g + 1 + 1 + 1, 0, none⟩ = false := Lib.frozen_of_heap hq3 0
    obtain ⟨r2, r3, ro, rs, rb⟩ := qch_ hq2 hq3 (.pointer p) (.int .u32 v2) (.int .i64 er)
    have hMk : ∀ k, ((D k /\ k < g) \/ W3.heap.size <= k) -> (D k \/ g <= k) /\ ¬ Mk k := fun k hk => by
     have h1 := HGM.out
     have h2 := HS3.out
     rcases hk with ⟨h3, h4⟩ | h3
     ·exact ⟨.inl h3, fun h => by have := (HU3.out k h).1; omega⟩
     ·exact ⟨.inr (by omega), fun h => by have := (HU3.out k h).2; omega⟩
    have hro : ∀ k, ((D k /\ k < g) \/ W3.heap.size <= k) -> k ≠ g + 2 /\ k ≠ g + 3 := fun k hk => by
     have h1 := HGM.out
     have h2 := HS3.out
     rcases hk with ⟨_, h4⟩ | h3 <;> omega
    have HFIN : Hid (Kp B Mk W3 (((W4.setCell ⟨g + 2, 0, none⟩ (.pointer p)).setCell ⟨g + 2, 1, none⟩ (.int .u32 v2)).setCell ⟨g + 3, 0, none⟩ (.int .i64 er)) /\ NFinF t B r g D w XV Mk (((W4.setCell ⟨g + 2, 0, none⟩ (.pointer p)).setCell ⟨g + 2, 1, none⟩ (.int .u32 v2)).setCell ⟨g + 3, 0, none⟩ (.int .i64 er))) := Lib.hid (by
     have hB4 : Below B W3 W4 := (Below.refl B W3).drew.drew.trans htn4.below
     have hBr := HBG.out
     have h1 := HGM.out
     have h2 := HS3.out
     have h3 := HRG.out
     refine ⟨⟨hB4.trans (rb.mono (by omega)), fun k hk => ?_⟩, p, v2, er, r2, r3, ?_, ?_, (HBW3.out.mono hBr).trans (hB4.trans (rb.mono (by omega))), fun k hk hkr => ?_⟩
     ·obtain ⟨h4, h5⟩ := HU3.out k hk
      exact (ro k (by omega) (by omega)).trans (htn4.same k h5 (by omega))
     ·rw [HXJ.out HQ.out]
      generalize qbo_ t.root v1 = ih at hgood ⊢
      cases ih with
      | error er' => exact hgood
      | ok pz =>
       obtain ⟨h4, sb, sx, e, hsp⟩ := hgood
       exact ⟨h4, rfl, sb, sx, e, (hsp.keep (fun j hj _ => ro j (hro j hj).1 (hro j hj).2)).sub (fun j hj _ => hMk j hj)⟩
     ·exact hrd4.keep (fun j hj _ => hMk j hj) (fun j hj _ => hj.elim (fun e => ro j (by omega) (by omega)) (fun hj => ro j (hro j hj).1 (hro j hj).2))
     ·rw [HBW0.out] at hk
      exact (ro k (by omega) (by omega)).trans ((htn4.same k (by show k < W3.heap.size; omega) hkr).trans (HBW3.out.block k hk)))
    clear hgood hrd4 htn4 hbk4 hq2 hq3 r2 r3 ro rs rb hMk hro CL
    refine hK.out _ _ ⟨e1, l2'⟩ (fun hHeld => ?_)
    clear hK K
    refine tkI 5 hHeld fun _ => ?_
    refine tkI 6 hHeld fun _ => ?_
    refine tkI 7 hHeld fun _ => ?_
    refine tkI 8 hHeld fun _ => ?_
    refine tkI 9 hHeld fun _ => ?_
    refine qcg_ (by kernel_rfl) ?_ _
    clear hHeld
    gi_wp2
    exact ⟨HFIN.out.1, rfl, HFIN.out.2⟩
  case done =>
   rintro Dd Mk Wd hM hu hsz hD ⟨hI, hno⟩ hd
   have HXE : Hid (XV = .error 8) := Lib.hid (by
    rw [HXL.out, qf8_, HMm2.out, List.find?_eq_none.2 (fun j hj => by rw [hno j hj]; simp)])
   have hgm4 := HGM.out
   have hDb := (hu Dd hD).1
   have hq2 := (hI.block (g + 2) (by omega)).trans HNB6.out.2.2.1
   have hq3 := (hI.block (g + 3) (by omega)).trans HNB6.out.2.2.2
   have c20 : Wd.cell? ⟨g + 1 + 1, 0, none⟩ = some (.pointer none) := (qaa_ hq2).1
   have c21 : Wd.cell? ⟨g + 1 + 1, 1, none⟩ = some (.int .u32 0) := (qaa_ hq2).2
   have c30 : Wd.cell? ⟨g + 1 + 1 + 1, 0, none⟩ = some (.int .i64 0) := qad_ hq3
   have f20 : Wd.frozen? ⟨g + 1 + 1, 0, none⟩ = false := Lib.frozen_of_heap hq2 0
   have f21 : Wd.frozen? ⟨g + 1 + 1, 1, none⟩ = false := Lib.frozen_of_heap hq2 1
   have f30 : Wd.frozen? ⟨g + 1 + 1 + 1, 0, none⟩ = false := Lib.frozen_of_heap hq3 0
   obtain ⟨r2, r3, ro, rs, rb⟩ := qch_ hq2 hq3 (.pointer none) (.int .u32 0) (.int .i64 8)
   have HD2 := Lib.hid ((ro Dd (by omega) (by omega)).trans hd)
   have HE : Hid (((((((Wd.setCell ⟨g + 2, 0, none⟩ (.pointer none)).setCell ⟨g + 2, 1, none⟩ (.int .u32 0)).setCell ⟨g + 3, 0, none⟩ (.int .i64 8)).putObj Dd (.deferred none)).cell? ⟨g + 1 + 1, 0, none⟩ = some (.pointer none) /\ ((((Wd.setCell ⟨g + 2, 0, none⟩ (.pointer none)).setCell ⟨g + 2, 1, none⟩ (.int .u32 0)).setCell ⟨g + 3, 0, none⟩ (.int .i64 8)).putObj Dd (.deferred none)).cell? ⟨g + 1 + 1, 1, none⟩ = some (.int .u32 0)) /\ ((((Wd.setCell ⟨g + 2, 0, none⟩ (.pointer none)).setCell ⟨g + 2, 1, none⟩ (.int .u32 0)).setCell ⟨g + 3, 0, none⟩ (.int .i64 8)).putObj Dd (.deferred none)).cell? ⟨g + 1 + 1 + 1, 0, none⟩ = some (.int .i64 8)) /\
     RdF ((((Wd.setCell ⟨g + 2, 0, none⟩ (.pointer none)).setCell ⟨g + 2, 1, none⟩ (.int .u32 0)).setCell ⟨g + 3, 0, none⟩ (.int .i64 8)).putObj Dd (.deferred none)) B r t (fun k => D k \/ g <= k) /\ Tn B r w ((((Wd.setCell ⟨g + 2, 0, none⟩ (.pointer none)).setCell ⟨g + 2, 1, none⟩ (.int .u32 0)).setCell ⟨g + 3, 0, none⟩ (.int .i64 8)).putObj Dd (.deferred none))) := Lib.hid (by
    generalize ((Wd.setCell ⟨g + 2, 0, none⟩ (.pointer none)).setCell ⟨g + 2, 1, none⟩ (.int .u32 0)).setCell ⟨g + 3, 0, none⟩ (.int .i64 8) = We at r2 r3 ro rs rb ⊢
    have pt : ∀ k, k ≠ Dd -> (We.putObj Dd (.deferred none)).heap[k]? = We.heap[k]? := fun k hk => World.putObj_heap_other hk
    have hbe : Below g w (We.putObj Dd (.deferred none)) := (HB6.out.trans (hI.mono (by omega))).trans ((rb.mono (by omega)).trans ⟨rfl, rfl, rfl, by simp, fun k hk => pt k (by omega)⟩)
    exact ⟨⟨qaa_ ((pt (g + 2) (by omega)).trans r2), qad_ ((pt (g + 3) (by omega)).trans r3)⟩, qha_ HR.out HBW0.out HBG.out hbe⟩)
   clear hM hu hsz hD hI hno hd hgm4 hDb hq2 hq3 r2 r3 ro rs rb
   gi_wp2
   refine ⟨by simp, .inl ⟨_, _, rfl, run_takeDeferred HD2.out, ?_⟩⟩
   obtain ⟨⟨⟨e20, e21⟩, e30⟩, _⟩ := HE.out
   refine ⟨.tuple #[.agg #[.pointer none, .int .u32 0], .int .i64 8], by simp [results, Tryz.results166, go_sem, e20, e21, e30], ?_⟩
   exact ⟨⟨none, 0, 8, rfl, by rw [HXE.out]; rfl⟩, HE.out.2⟩
  case stop =>
   rintro Dd c Mk pre Wd hM hu hsz hD hpre ⟨rfl, hf⟩ hd
   have hf2 := hf.turn (Turn.putObj Wd hD (.deferred none)) hu (by have := HZ6.out; omega) (by have := HRG.out; have := HGM.out; omega) (by have := HGM.out; omega) HBG.out (by rw [HBW0.out]; have := HGM.out; omega)
   obtain ⟨p, ln', er', h1, h2, h3, h4, h5⟩ := hf2
   have HE := Lib.hid (And.intro (qaa_ h1) (qad_ h2))
   have HGD := Lib.hid (h3.keep (D' := fun k => D k \/ g <= k) (W' := Wd.putObj Dd (.deferred none)) (fun j hj _ => hj.1) (fun _ _ _ => rfl))
   have HRD := Lib.hid (And.intro (h4.keep (D' := fun k => D k \/ g <= k) (fun j hj _ => hj.1) (fun _ _ _ => rfl)) h5)
   have HDD := Lib.hid hd
   clear hM hu hsz hD hpre hf hd h1 h2 h3 h4 h5
   gi_wp2
   refine ⟨by simp, .inl ⟨_, _, rfl, run_takeDeferred HDD.out, ?_⟩⟩
   obtain ⟨⟨e20, e21⟩, e30⟩ := HE.out
   replace e20 : (Wd.putObj Dd (.deferred none)).cell? ⟨g + 1 + 1, 0, none⟩ = some (.pointer p) := e20
   replace e21 : (Wd.putObj Dd (.deferred none)).cell? ⟨g + 1 + 1, 1, none⟩ = some (.int .u32 ln') := e21
   replace e30 : (Wd.putObj Dd (.deferred none)).cell? ⟨g + 1 + 1 + 1, 0, none⟩ = some (.int .i64 er') := e30
   refine ⟨.tuple #[.agg #[.pointer p, .int .u32 ln'], .int .i64 er'], by simp [results, Tryz.results166, go_sem, e20, e21, e30], ?_⟩
   exact ⟨⟨p, ln', er', rfl, HGD.out⟩, HRD.out⟩
end
end Go.Proofs.YtcfinbapfhhpgaaGreatDoor
