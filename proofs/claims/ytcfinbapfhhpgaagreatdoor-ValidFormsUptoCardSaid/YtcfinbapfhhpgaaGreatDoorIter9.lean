/-
  Iter, part 9.
-/
import Derived.Test.YtcfinbapfhhpgaaGreatDoorIter8
import Derived.Laws.MakeOwn
namespace Go.Proofs.YtcfinbapfhhpgaaGreatDoor
open Go.RowKit
set_option linter.unusedVariables false
set_option linter.unusedSimpArgs false
set_option maxRecDepth 20000
set_option maxHeartbeats 16000000
def iget (R : Nd) (z : List Int) : Except Int (List Nat) := if 16 < z.length then .error 6 else match nodeZ R z with
 | none => .error 8
 | some _ => .ok (z.map Int.toNat)
theorem qct_ (zn : List Nat) : (zn.map Int.ofNat).map Int.toNat = zn := by
 rw [List.map_map]
 conv => rhs; rw [<- List.map_id zn]
 rfl
theorem qpi_ (R : Nd) (z : List Int) : qce_ R z = match iget R z with
  | .error e => .error e
  | .ok p => match qaj_ R p with | none => .error 8 | some x => qdr_ R x p := by
 unfold qce_ iget
 by_cases h : 16 < z.length
 ·rw [if_pos h, if_pos h]
 ·rw [if_neg h, if_neg h]
  cases hx : nodeZ R z with
  | none => rfl
  | some x =>
   obtain ⟨p, rfl⟩ := qjg_ z hx
   simp only
   rw [qct_]
   rw [qa4_] at hx
   rw [hx]
theorem iget_ne {R : Nd} {z : List Int} {e : Int} (h : iget R z = .error e) : e ≠ 0 := by
 unfold iget at h
 split at h
 ·cases h; decide
 ·split at h
  ·cases h; decide
  ·cases h
theorem u32_keep {w w' : World} {B r : Nat} {t : Tr} {D D' : Nat -> Prop} (h : RdF w B r t D) (h' : RdF w' B r t D') {k : Nat} {v : Int} (hc : w.cell? ⟨r, k, none⟩ = some (.int .u32 v)) : w'.cell? ⟨r, k, none⟩ = some (.int .u32 v) := by
 obtain ⟨own, er, hb⟩ := h.rd
 obtain ⟨own', er', hb'⟩ := h'.rd
 cases k with
 | succ k => exact absurd hc (qhv_ hb k v)
 | zero => rw [(qbi_ hb').1.1, <- hc, (qbi_ hb).1.1]
theorem qlj_ {w : World} {R x : Nd} {D : Nat -> Prop} {b : Nat} {z : List Nat} (hs : Spot w R D b z x) : ∀ (L : List Int), Wires w R D (L.map (fun c => ⟨b, c⟩)) (L.map (fun c => (z, c)))
 | [] => .nil
 | c :: L => .cons ⟨⟨x, hs⟩, rfl⟩ (qlj_ hs L)
theorem qkz_ {x : Nd} {s : ByteArray} (h : idxOf (x.props.map PV.name) s < 0) : valV x s = [] := by
 rcases qjs_ (x.props.map PV.name) s with h1 | ⟨k, _, h2, _⟩
 ·rw [valV, qdo_ h1]; rfl
 ·omega
theorem WRow.base {w : World} {b b' : Nat} {v : Value} {xs : List WireR} (h : WRow w b v xs) (hb : b' <= b) : WRow w b' v xs := by
 refine ⟨h.1, ?_⟩
 rcases h.2 with e | ⟨g, cap, cur, e, h1, r⟩
 ·exact .inl e
 ·exact .inr ⟨g, cap, cur, e, Nat.le_trans hb h1, r⟩
theorem LinesF.base {w : World} {b b' : Nat} {R : Nd} {D : Nat -> Prop} {X : Except Int (List (List Nat × Int))} {e : Ending} (h : LinesF w b R D X e) (hb : b' <= b) : LinesF w b' R D X e := by
 obtain ⟨v, er, he, h⟩ := h
 refine ⟨v, er, he, ?_⟩
 cases X with
 | error e' => exact h
 | ok ws =>
  obtain ⟨h1, xs, h2, h3⟩ := h
  exact ⟨h1, xs, h2.base hb, h3⟩
theorem getF_any (t : Tr) (B r : Nat) (z : List Int) (A : Option Addr) (n c : Nat) (w : World) (hr : RdF w B r t (fun _ => True)) (hB : B <= w.heap.size) (hin : t.In w B) (hp : Cel w w.heap.size A n (intsZ z)) (hnc : n <= c) (hc : c <= 9223372036854775807) :
  Calls Tryz.prog 108 #[.pointer (some ⟨r, 0, none⟩), .slice A n c] w fun e w' => FindF w' t.root (fun _ => True) (iget t.root z) e /\ Below w.heap.size w w' := by
 obtain ⟨own, er, hrb⟩ := hr.rd
 have CA := Lib.hid (at_any t r own er z A n c w hrb (hin.more hB) hp hnc hc)
 have hzl : z.length = n := by have := hp.1; rwa [List.length_map] at this
 have HZL := Lib.hid hzl
 clear hr hB hin hp hrb hzl
 by_cases h16 : 16 < n
 ·have q1 : decide ((n : Int) > 16) = true := decide_eq_true (by omega)
  have HX : Hid (iget t.root z = .error 6) := Lib.hid (by rw [iget, if_pos (by rw [HZL.out]; exact h16)])
  clear h16
  go_enter Tryz.func108, Tryz.ntmps108
  go_wp2
  go_ret2
  exact ⟨by (rw [HX.out]; rfl), Below.refl _ _⟩
 ·have q1 : decide ((n : Int) > 16) = false := decide_eq_false (by omega)
  have HX : Hid (iget t.root z = match nodeZ t.root z with | none => .error 8 | some _ => .ok (z.map Int.toNat)) := Lib.hid (by rw [iget, if_neg (by rw [HZL.out]; exact h16)])
  clear h16
  go_enter Tryz.func108, Tryz.ntmps108
  go_wp2_with fail
  refine CA.out.mono ?_
  rintro e w1 ⟨⟨b, x, zn, rfl, hx, hz, hsp⟩ | ⟨rfl, hx⟩, hb⟩
  ·have HB := Lib.hid hb
   have HX2 : Hid (iget t.root z = .ok zn) := Lib.hid (by rw [HX.out, hx, hz, qct_])
   have HS := Lib.hid (hsp.sub (D' := fun _ => True) (fun _ _ _ => trivial))
   clear hb hx hz hsp CA
   go_wp2
   go_ret2
   exact ⟨by (rw [HX2.out]; exact ⟨b, x, rfl, HS.out⟩), HB.out⟩
  ·have HB := Lib.hid hb
   have HX2 : Hid (iget t.root z = .error 8) := Lib.hid (by rw [HX.out, hx])
   clear hb hx CA
   go_wp2
   go_ret2
   exact ⟨by (rw [HX2.out]; rfl), HB.out⟩
theorem qis_ (t : Tr) (B r : Nat) (z : List Int) (A : Option Addr) (n c : Nat) (w : World) (hr : RdF w B r t (fun _ => True)) (hB : B <= w.heap.size) (hin : t.In w B) (hh : heftN t.root <= 134217728) (hp : Cel w w.heap.size A n (intsZ z)) (hnc : n <= c) (hc : c <= 9223372036854775807) :
  Calls Tryz.prog 70 #[.pointer (some ⟨r, 0, none⟩), .slice A n c] w fun e w' => LinesF w' w.heap.size t.root (fun _ => True) (qce_ t.root z) e /\ RdF w' B r t (fun _ => True) /\ Tn B r w w' := by
 have CG := Lib.hid (getF_any t B r z A n c w hr hB hin hp hnc hc)
 obtain ⟨X, hX⟩ : ∃ X, qce_ t.root z = X := ⟨_, rfl⟩
 have HX : Hid (X = _) := Lib.hid (hX.symm.trans (qpi_ t.root z))
 rw [hX]
 have HR := Lib.hid hr
 have HB := Lib.hid hB
 have HIN := Lib.hid hin
 have HH := Lib.hid hh
 clear hr hB hin hh hp hnc hc hX
 go_enter Tryz.func70, Tryz.ntmps70
 go_wp2_with fail
 refine CG.out.mono ?_
 rintro e w1 ⟨hfo, hb1⟩
 have HB1 := Lib.hid hb1
 obtain ⟨p, er, rfl, hgd⟩ := FindF.out hfo
 obtain ⟨ig, hig⟩ : ∃ ig, iget t.root z = ig := ⟨_, rfl⟩
 have HIG := Lib.hid hig
 rw [hig] at HX hgd
 clear hb1 hfo hig CG
 cases ig with
 | error e' =>
  obtain rfl : er = e' := hgd
  have he : er ≠ 0 := iget_ne HIG.out
  have q1 : (er != 0) = true := by rw [bne_iff_ne]; exact he
  clear he
  go_wp2
  go_ret2
  exact ⟨⟨_, _, rfl, by (rw [HX.out]; exact ⟨rfl, rfl⟩)⟩, HR.out.on HB1.out, Tn.of_below HB1.out HB.out⟩
 | ok zn =>
  obtain ⟨rfl, b, x, rfl, hsp⟩ := hgd
  have HSP := Lib.hid hsp
  have HXN : Hid (X = qdr_ t.root x zn) := Lib.hid (by rw [HX.out]; simp only; rw [hsp.at_])
  clear HX
  obtain ⟨pa, pi, hbk⟩ := hsp.heap
  obtain ⟨s0, s1, s2, _, _⟩ := qat_ hbk
  have hxin := hsp.inn ((HIN.out.root.under (HB1.out.mono HB.out)).more (Nat.le_trans HB.out HB1.out.size))
  have hxh : heftN x <= 134217728 := by have := hsp.len; have := HH.out; omega
  have CE := Lib.hid (qcz_ x qdz_ w1 hxin _ rfl)
  have CI := Lib.hid (fun W (hW : Below w1.heap.size w1 W) => qcz_ x qcj_ W (hxin.on hW) _ rfl)
  have HPH : Hid (∀ k (hk : k < x.props.length), (x.props[k]).zs.length <= 134217728) := Lib.hid (fun k hk => Nat.le_trans (qc0_ hk) hxh)
  have HVE : Hid (∀ k (hk : k < x.props.length), idxOf (x.props.map PV.name) qdz_ = (k : Int) -> valV x qdz_ = (x.props[k]).zs) := Lib.hid (fun k hk h => qk4_ hk h)
  have HVI : Hid ((∀ k (hk : k < x.props.length), idxOf (x.props.map PV.name) qcj_ = (k : Int) -> valV x qcj_ = (x.props[k]).zs) /\ (idxOf (x.props.map PV.name) qcj_ < 0 -> valV x qcj_ = [])) := Lib.hid ⟨fun k hk h => qk4_ hk h, qkz_⟩
  unfold qdr_ at HXN
  generalize idxOf (x.props.map PV.name) qdz_ = ix at *
  generalize idxOf (x.props.map PV.name) qcj_ = iy at *
  generalize valV x qdz_ = VE at *
  generalize valV x qcj_ = VI at *
  obtain ⟨xn, xpa, xpc, xps, xka, xkc, xks⟩ := x
  simp only [Nd.val, Nd.pv, Nd.kv, Nd.name, Nd.pa, Nd.pc, Nd.props, Nd.ka, Nd.kc, Nd.kids, qdz_, qcj_] at CE CI HPH HVE HVI s0 s1 s2
  clear hsp hbk hxin hxh
  have HSC : Hid (∀ W, Below w1.heap.size w1 W -> W.cell? ⟨b, 0, none⟩ = some (.string xn) /\ W.cell? ⟨b, 1, none⟩ = some (.slice xpa xps.length xpc) /\ W.cell? ⟨b, 2, none⟩ = some (.slice xka xks.length xkc)) := Lib.hid (fun W hW => by
   obtain ⟨pa, pi, hbk⟩ := (HSP.out.on hW).heap
   obtain ⟨s0, s1, s2, _, _⟩ := qat_ hbk
   exact ⟨s0, s1, s2⟩)
  go_wp2_with fail
  refine CE.out.mono ?_
  rintro e w2 ⟨A1, c1, zs1, rfl, hsh1, hw1, hb2⟩
  have HB12 := Lib.hid hb2
  have HB2 := Lib.hid (HB1.out.trans (hb2.mono HB1.out.size))
  have hz1 : zs1.length <= 134217728 := by
   rcases hw1 with ⟨_, rfl⟩ | ⟨k, hk, _, rfl⟩
   ·simp
   ·exact HPH.out k hk
  have hzv : 0 <= ix -> VE = zs1 := fun h => by
   rcases hw1 with ⟨h1, _⟩ | ⟨k, hk, h1, h2⟩
   ·omega
   ·rw [h2]; exact HVE.out k hk h1
  clear hw1 hb2 s0 s1 s2 CE
  by_cases hix : 0 <= ix
  ·have q0 : decide (0 <= ix) = true := decide_eq_true hix
   rw [q0]
   have HX1 : Hid (X = qi0_ t.root zs1) := Lib.hid (by rw [HXN.out, if_pos hix, hzv hix])
   have CP := Lib.hid (qpd_ t B r A1 zs1.length c1 zs1 w2 (HR.out.on HB2.out) (Nat.le_trans HB.out HB2.out.size) (HIN.out.under (HB2.out.mono HB.out)) HH.out hsh1.1 (by omega) hsh1.2.1 hsh1.2.2)
   clear hix q0 hsh1 hz1 hzv CI
   go_wp2_with fail
   refine CP.out.mono ?_
   rintro e w3 ⟨hl, hrd, htn⟩
   have hl2 := hl.base HB2.out.size
   rw [<- HX1.out] at hl2
   obtain ⟨v, er, rfl, hm⟩ := hl2
   have HM := Lib.hid hm
   have HRD := Lib.hid hrd
   have HTN := Lib.hid ((Tn.of_below HB2.out HB.out).trans htn)
   clear hl hm hrd htn CP
   go_wp2
   go_ret2
   exact ⟨⟨v, er, rfl, HM.out⟩, HRD.out, HTN.out⟩
  ·have q0 : decide (0 <= ix) = false := decide_eq_false hix
   rw [q0]
   have HX1 : Hid (X = _) := Lib.hid (HXN.out.trans (if_neg hix))
   obtain ⟨s0, s1, s2⟩ := HSC.out w2 HB12.out
   clear hix q0 hsh1 hz1 hzv
   go_wp2_with fail
   refine (CI.out w2 HB12.out).mono ?_
   rintro e w3 ⟨A3, c3, zs3, rfl, hsh3, hw3, hb3⟩
   have HB3 := Lib.hid (HB2.out.trans (hb3.mono HB2.out.size))
   have HB13 := Lib.hid (HB12.out.trans (hb3.mono HB12.out.size))
   have hz3 : zs3.length <= 134217728 := by
    rcases hw3 with ⟨_, rfl⟩ | ⟨k, hk, _, rfl⟩
    ·simp
    ·exact HPH.out k hk
   have hzv : VI = zs3 := by
    rcases hw3 with ⟨h1, h2⟩ | ⟨k, hk, h1, h2⟩
    ·rw [h2]; exact HVI.out.2 h1
    ·rw [h2]; exact HVI.out.1 k hk h1
   rw [hzv] at HX1
   have CC := Lib.hid (qdi_ A3 zs3.length c3 zs3 w3 hsh3.1 (by omega) hsh3.2.1 hsh3.2.2)
   have hul : (u32s (qao_ zs3)).length <= 134217728 := by
    rw [List.length_map]
    unfold qao_
    split
    ·rw [List.length_map, List.length_range]; omega
    ·simp
   clear hw3 hb3 s0 s1 s2 CI hzv hsh3
   generalize qao_ zs3 = L at *
   generalize qbp_ zs3 = E at *
   generalize zs3.length = zl at *
   unfold qe1_ at CC
   obtain ⟨M, hM⟩ : ∃ M, (u32s L).length = M := ⟨_, rfl⟩
   have HLM : Hid (L.length = M) := Lib.hid (by rwa [List.length_map] at hM)
   rw [hM] at CC hul
   clear hM hz3
   go_wp2_with fail
   refine CC.out.mono ?_
   rintro e w4 ⟨⟨A4, c4, rfl, hcel, hmc, hc4⟩, hb4⟩
   have HB4 := Lib.hid (HB3.out.trans (hb4.mono HB3.out.size))
   have HB14 := Lib.hid (HB13.out.trans (hb4.mono HB13.out.size))
   have HCEL := Lib.hid hcel
   clear hb4 hcel CC
   by_cases hE : E = 0
   rotate_left
   ·have q1 : (E != 0) = true := by rw [bne_iff_ne]; exact hE
    have HX2 : Hid (X = .error E) := Lib.hid (by rw [HX1.out, if_pos hE])
    clear hE
    go_wp2
    go_ret2
    exact ⟨⟨_, _, rfl, by (rw [HX2.out]; exact ⟨rfl, rfl⟩)⟩, HR.out.on HB4.out, Tn.of_below HB4.out HB.out⟩
   subst hE
   by_cases hM0 : M = 0
   ·subst hM0
    have HX2 : Hid (X = .ok []) := Lib.hid (by rw [HX1.out, if_neg (by simp), if_pos (List.eq_nil_of_length_eq_zero HLM.out)])
    go_wp2
    go_ret2
    exact ⟨⟨_, _, rfl, by (rw [HX2.out]; exact ⟨rfl, [], WRow.nil _ _, Two.nil⟩)⟩, HR.out.on HB4.out, Tn.of_below HB4.out HB.out⟩
   have q1 : ((M : Int) == 0) = false := by rw [beq_eq_false_iff_ne]; omega
   have HX2 : Hid (X = _) := Lib.hid (HX1.out.trans ((if_neg (by simp)).trans (if_neg (fun h => hM0 (by rw [<- HLM.out, h]; rfl)))))
   have CPA := Lib.hid (ql4_ t B r b zn _ w4 (HR.out.on HB4.out) (Nat.le_trans HB.out HB4.out.size) (HIN.out.under (HB4.out.mono HB.out)) HH.out (HSP.out.on HB14.out))
   have HM0 := Lib.hid hM0
   have HHM := Lib.hid hul
   clear hM0
   go_wp2_with fail
   refine CPA.out.mono ?_
   rintro e w5 ⟨hfo, hrd5, htn5⟩
   obtain ⟨p5, er5, rfl, hgd⟩ := FindF.out hfo
   have HRD5 := Lib.hid hrd5
   have HTN5 := Lib.hid ((Tn.of_below HB4.out HB.out).trans htn5)
   have HS45 : Hid (w.heap.size <= w5.heap.size) := Lib.hid (Nat.le_trans HB4.out.size htn5.below.size)
   have hrd4 := HR.out.on HB4.out
   have hcel5 : Cel w5 w5.heap.size A4 M (u32s L) := ⟨HCEL.out.1, fun h0 => by
    obtain ⟨b', o', e', hb', hc'⟩ := HCEL.out.2 h0
    refine ⟨b', o', e', Nat.lt_of_lt_of_le hb' htn5.below.size, fun i hi => ?_⟩
    have h1 := hc' i hi
    have hil : i < L.length := by rw [HLM.out]; exact hi
    rw [List.getElem?_map, List.getElem?_eq_getElem hil] at h1 ⊢
    by_cases hbr : b' = r
    ·rw [hbr] at h1 ⊢
     exact u32_keep hrd4 hrd5 h1
    ·exact (World.cell?_of_block (a := ⟨b', o' + i, none⟩) (htn5.same b' hb' hbr)).trans h1⟩
   have HCEL5 := Lib.hid hcel5
   obtain ⟨ip, hip⟩ : ∃ ip, qds_ t.root zn = ip := ⟨_, rfl⟩
   have HIP := Lib.hid hip
   rw [hip] at HX2 hgd
   clear hfo hrd5 htn5 hrd4 hcel5 hip CPA
   cases ip with
   | error e' =>
    obtain rfl : er5 = e' := hgd
    have he : er5 ≠ 0 := qjd_ HIP.out
    have q2 : (er5 != 0) = true := by rw [bne_iff_ne]; exact he
    clear he
    go_wp2
    go_ret2
    exact ⟨⟨_, _, rfl, by (rw [HX2.out]; exact ⟨rfl, rfl⟩)⟩, HRD5.out, HTN5.out⟩
   | ok zp =>
    obtain ⟨rfl, b5, x5, rfl, hsp5⟩ := hgd
    have HSP5 := Lib.hid hsp5
    clear hsp5 q1 hul
    go_wp2_with fail
    go_loopw [14, 72] (fun l i wr => ∃ (k : Nat) (Av : Option Addr) (cv : Nat), k <= M /\ i = .int .i64 k /\ l = .slice Av k cv /\ WRow wr w5.heap.size l ((L.take k).map (fun c => ⟨b5, c⟩)) /\ Below w5.heap.size w5 wr) (fun _ i _ => M - (intOf i).toNat)
    case atStart => exact ⟨0, none, 0, Nat.zero_le _, rfl, rfl, WRow.nil _ _, Below.refl _ _⟩
    case round =>
     obtain ⟨k, Av, cv, hk, rfl, rfl, hrow, hbw⟩ := hrel
     have HBW := Lib.hid hbw
     have hlk : ((L.take k).map (fun c => (⟨b5, c⟩ : WireR))).length = k := by rw [List.length_map, List.length_take, HLM.out]; omega
     by_cases hlt : k < M
     ·have hkl : k < L.length := by rw [HLM.out]; exact hlt
      obtain ⟨eb, eo, eA, heb, hec⟩ := (HCEL5.out.below hbw).2 (by omega)
      have ck := hec k hlt
      rw [List.getElem?_map, List.getElem?_eq_getElem hkl] at ck
      replace ck : wr.cell? ⟨eb, eo + k, none⟩ = some (.int .u32 L[k]) := ck
      have htk : (L.take (k + 1)).map (fun c => (⟨b5, c⟩ : WireR)) = (L.take k).map (fun c => ⟨b5, c⟩) ++ [⟨b5, L[k]⟩] := by rw [List.take_add_one, List.getElem?_eq_getElem hkl, List.map_append]; rfl
      have happ := qkr_ hrow ⟨b5, L[k]⟩ (by rw [hlk]; have := HHM.out; omega) hbw.size
      rw [hlk] at happ
      obtain ⟨A6, c6, w6, r6, o6, b6, _, _⟩ := happ
      rw [<- htk] at o6
      simp only [WireR.two] at r6
      obtain rfl : A4 = _ := eA
      generalize L[k] = q at *
      have HR6 := Lib.hid r6
      have HO6 := Lib.hid o6
      have HB6 := Lib.hid (hbw.trans b6)
      clear hrow hbw hlk hkl hec htk r6 o6 b6 heb
      go_wp2_with (at_builtin; refine Lib.wpList_append_run_sl _ rfl _ _ _ rfl _ _ rfl rfl HR6.out ?_)
      go_roundw
      case rel => exact ⟨k + 1, A6, c6, by omega, by go_num, rfl, HO6.out, HB6.out⟩
      case measure => simp [intOf]; omega
     ·obtain rfl : k = M := by omega
      rw [List.take_of_length_le (by rw [HLM.out]; exact Nat.le_refl _)] at hrow
      have HROW := Lib.hid (hrow.base HS45.out)
      have HW := Lib.hid (qlj_ (HSP5.out.on hbw) L)
      clear hrow hbw hlk
      go_wp2
      go_ret2
      exact ⟨⟨_, _, rfl, by (rw [HX2.out]; exact ⟨rfl, _, HROW.out, HW.out⟩)⟩, HRD5.out.on HBW.out, HTN5.out.trans (Tn.of_below HBW.out (Nat.le_trans HB.out HS45.out))⟩
def iway (R : Nd) : Nat -> List (List Nat × Int) -> List Nat × Int -> Except Int (List (List Nat × Int))
 | 0, _, _ => .error 14
 | k + 1, acc, c => match qce_ R (c.1.map Int.ofNat) with
  | .error e => .error e
  | .ok [] => .ok acc
  | .ok (l0 :: _) => match qa6_ R 16 l0.1 l0.2 with
   | .error e => .error e
   | .ok c' => iway R k (acc ++ [c']) c'
def iways (R : Nd) (z : List Nat) (l : Int) : Except Int (List (List Nat × Int)) := match qa6_ R 16 z l with
 | .error e => .error e
 | .ok c => iway R 16 [c] c
theorem qnw_ {R x : Nd} {z : List Nat} {e : Int} (h : qdr_ R x z = .error e) : e ≠ 0 := by
 unfold qdr_ at h
 split at h
 ·unfold qi0_ at h
  split at h
  ·cases h; decide
  ·exact qje_ h
 split at h
 ·rename_i h0
  cases h
  exact h0
 split at h
 ·cases h
 split at h
 ·rename_i h0
  cases h
  exact qjd_ h0
 ·cases h
theorem qfn_ {R : Nd} {z : List Int} {e : Int} (h : qce_ R z = .error e) : e ≠ 0 := by
 unfold qce_ at h
 split at h
 ·cases h; decide
 split at h
 ·cases h; decide
 ·exact qnw_ h
structure WayI (t : Tr) (B r g g6 : Nat) (X : Except Int (List (List Nat × Int))) (w : World) (k : Nat) (v : Value) (xs : List WireR) (acc : List (List Nat × Int)) (bc : Nat) (zc : List Nat) (xc : Nd) (lc : Int) (W : World) : Prop where
 len : xs.length = k + 1
 row : WRow W g v xs
 wires : Wires W t.root (fun _ => True) xs acc
 box : W.heap[g6]? = some (.cells #[.pointer (some ⟨bc, 0, none⟩), .int .u32 lc] 227 (0, 0))
 own : ∀ j, v.ownBlock = some j -> j ≠ g6
 spot : Spot W t.root (fun _ => True) bc zc xc
 rd : RdF W B r t (fun _ => True)
 tn : Tn B r w W
 rest : iway t.root (16 - k) acc (zc, lc) = X
theorem WayI.on {t : Tr} {B r g g6 : Nat} {X : Except Int (List (List Nat × Int))} {w W W' : World} {k : Nat} {v : Value} {xs : List WireR} {acc : List (List Nat × Int)} {bc : Nat} {zc : List Nat} {xc : Nd} {lc : Int} (h : WayI t B r g g6 X w k v xs acc bc zc xc lc W) (htn : Tn B r W W') (hrd : RdF W' B r t (fun _ => True)) (hg : r < g) (hg6 : g <= g6) : WayI t B r g g6 X w k v xs acc bc zc xc lc W' :=
 ⟨h.len, h.row.keep (fun j e => htn.same j (h.row.lt j e).2 (fun q => by have := (h.row.lt j e).1; omega)), h.wires.sp (htn.spF h.rd), (htn.same g6 (Array.getElem?_eq_some_iff.1 h.box).1 (by omega)).trans h.box, h.own, h.spot.sp (htn.spF h.rd), hrd, h.tn.trans htn, h.rest⟩
theorem qn2_ (t : Tr) (B r b : Nat) (z : List Nat) (x : Nd) (ln : Int) (w : World) (hr : RdF w B r t (fun _ => True)) (hB : B <= w.heap.size) (hin : t.In w B) (hh : heftN t.root <= 134217728) (hs : Spot w t.root (fun _ => True) b z x) :
  Calls Tryz.prog 150 #[.pointer (some ⟨r, 0, none⟩), .agg #[.pointer (some ⟨b, 0, none⟩), .int .u32 ln]] w fun e w' => LinesF w' w.heap.size t.root (fun _ => True) (iways t.root z ln) e /\ RdF w' B r t (fun _ => True) /\ Tn B r w w' := by
 obtain ⟨g, hg⟩ : ∃ g, w.heap.size = g := ⟨_, rfl⟩
 obtain ⟨X, hX⟩ : ∃ X, iways t.root z ln = X := ⟨_, rfl⟩
 have HXD : Hid (X = _) := Lib.hid (hX.symm.trans (iways.eq_1 t.root z ln))
 rw [hX]
 obtain ⟨T0, hT0⟩ : ∃ T0, qa6_ t.root 16 z ln = T0 := ⟨_, rfl⟩
 have HT0 := Lib.hid hT0
 rw [hT0] at HXD
 have hal : Below w.heap.size w (w.alloc (.cells #[.pointer (some ⟨b, 0, none⟩), .int .u32 ln] 227)) := (Below.refl _ _).alloc (Nat.le_refl _) _
 have hthr := qd3_ t B r b z x ln _ (hr.on hal) (Nat.le_trans hB hal.size) (hin.under (hal.mono hB)) hh (hs.on hal)
 rw [hT0] at hthr
 have CT := Lib.hid hthr
 have HT1 : Hid (Tn B r w (w.alloc (.cells #[.pointer (some ⟨b, 0, none⟩), .int .u32 ln] 227))) := Lib.hid (Tn.of_below hal hB)
 have HTF := Lib.hid (fun (W : World) (hT : Tn B r w W) (hR : RdF W B r t (fun _ => True)) (b' : Nat) (z' : List Nat) (x' : Nd) (l' : Int) (hs' : Spot W t.root (fun _ => True) b' z' x') => qd3_ t B r b' z' x' l' W hR (Nat.le_trans hB hT.below.size) (hin.under hT.below) hh hs')
 have HPL := Lib.hid (fun (W : World) (b' : Nat) (z' : List Nat) (x' : Nd) (hs' : Spot W t.root (fun _ => True) b' z' x') => qk7_ t.root _ b' z' x' W hs' hh)
 have HLF := Lib.hid (fun (W : World) (hT : Tn B r w W) (hR : RdF W B r t (fun _ => True)) (z' : List Int) (A : Option Addr) (n c : Nat) (hp : Cel W W.heap.size A n (intsZ z')) (hnc : n <= c) (hc : c <= 9223372036854775807) => qis_ t B r z' A n c W hR (Nat.le_trans hB hT.below.size) (hin.under hT.below) hh hp hnc hc)
 have HRG : Hid (r < g /\ B <= g) := Lib.hid ⟨by rw [<- hg]; exact hr.lt, by omega⟩
 have HG := Lib.hid hg
 clear hr hB hin hh hs hX hT0 hal hthr
 rw [hg]
 go_enter Tryz.func150, Tryz.ntmps150
 go_wp2_with fail
 refine CT.out.mono ?_
 rintro e w1 ⟨⟨p, l3, er, rfl, hnv⟩, hrd1, htn1⟩
 have HTN1 := Lib.hid (HT1.out.trans htn1)
 obtain ⟨g6, hg6⟩ : ∃ g6, w1.heap.size = g6 := ⟨_, rfl⟩
 obtain ⟨w2, hw2⟩ : ∃ w2, w1.alloc (.cells #[.pointer p, .int .u32 l3] 227) = w2 := ⟨_, rfl⟩
 have hb2 : Below w1.heap.size w1 w2 := by rw [<- hw2]; exact (Below.refl _ _).alloc (Nat.le_refl _) _
 have hx2 : w2.heap[g6]? = some (.cells #[.pointer p, .int .u32 l3] 227 (0, 0)) := by rw [<- hw2, <- hg6]; exact heap_alloc_new _ _
 have hz2 : w2.heap.size = g6 + 1 := by rw [<- hw2]; simp [hg6]
 have HG6 : Hid (g <= g6) := Lib.hid (by have := HTN1.out.below.size; have h1 := HG.out; have h2 := htn1.below.size; simp at h2; omega)
 have HRD2 := Lib.hid (hrd1.on hb2)
 have HTN2 := Lib.hid (HTN1.out.trans (Tn.of_below hb2 (by have := HRG.out; have := HG6.out; omega)))
 have HNV := Lib.hid (hnv.keep (D' := fun _ => True) (W' := w2) (fun _ _ _ => trivial) (fun j _ hl => hb2.block j hl))
 have HX2 := Lib.hid hx2
 have HZ2 := Lib.hid hz2
 obtain ⟨n0, n1⟩ := qaa_ hx2
 clear hrd1 htn1 hnv hb2 hx2 hz2 CT
 by_cases he : er = 0
 rotate_left
 ·have q1 : (er != 0) = true := by rw [bne_iff_ne]; exact he
  have HXE : Hid (X = .error er) := Lib.hid (by
   have h2 := HNV.out
   rw [HXD.out]
   cases T0 with
   | error e1 => rw [show er = e1 from h2]
   | ok y => exact absurd h2.1 he)
  clear he
  go_wp2
  go_ret2
  exact ⟨⟨_, _, rfl, by (rw [HXE.out]; exact ⟨rfl, rfl⟩)⟩, HRD2.out, HTN2.out⟩
 subst he
 obtain ⟨z3, l4, hTo⟩ : ∃ z3 l4, T0 = .ok (z3, l4) := by
  have h2 := HNV.out
  cases hN : T0 with
  | error e1 =>
   rw [hN] at h2
   exact absurd (show e1 = 0 from h2.symm) (qca_ (HT0.out.trans hN))
  | ok y => exact ⟨y.1, y.2, rfl⟩
 rw [hTo] at HNV HXD
 obtain ⟨_, rfl, b3, x3, rfl, hsp3⟩ := HNV.out
 obtain ⟨w3, hw3⟩ : ∃ w3, w2.alloc (.cells #[.pointer (some ⟨b3, 0, none⟩), .int .u32 l3] 227) = w3 := ⟨_, rfl⟩
 have hb3 : Below w2.heap.size w2 w3 := by rw [<- hw3]; exact (Below.refl _ _).alloc (Nat.le_refl _) _
 have HWI : Hid (WayI t B r g g6 X w 0 (.slice (some ⟨g6 + 1, 0, none⟩) 1 1) [⟨b3, l3⟩] [(z3, l3)] b3 z3 x3 l3 w3) := Lib.hid ⟨rfl, ⟨rfl, .inr ⟨g6 + 1, 1, #[.pointer (some ⟨b3, 0, none⟩), .int .u32 l3], rfl, by have := HG6.out; omega, by rw [<- hw3, <- HZ2.out]; exact heap_alloc_new _ _, Nat.le_refl _, by unfold maxLen; omega, rfl, rfl⟩⟩, .cons ⟨⟨x3, hsp3.on hb3⟩, rfl⟩ .nil, (hb3.block g6 (by rw [HZ2.out]; omega)).trans HX2.out, fun j e => by simp [Value.ownBlock] at e; omega, hsp3.on hb3, HRD2.out.on hb3, HTN2.out.trans (Tn.of_below hb3 (by rw [HZ2.out]; have := HRG.out; have := HG6.out; omega)), by rw [HXD.out]⟩
 have hz2 := HZ2.out
 clear hTo hsp3 hb3
 go_wp2_with fail
 go_loopw [8, 22] (fun l i wr => ∃ (k : Nat) (Av : Option Addr) (cv : Nat) (xs : List WireR) (acc : List (List Nat × Int)) (bc : Nat) (zc : List Nat) (xc : Nd) (lc : Int), k <= 16 /\ i = .int .i64 k /\ l = .slice Av (k + 1) cv /\ WayI t B r g g6 X w k l xs acc bc zc xc lc wr) (fun _ i _ => 16 - (intOf i).toNat)
 case atStart => exact ⟨0, _, _, _, _, _, _, _, _, by omega, rfl, rfl, HWI.out⟩
 case round =>
  obtain ⟨k, Av, cv, xs, acc, bc, zc, xc, lc, hk, rfl, rfl, hwi⟩ := hrel
  have HWR := Lib.hid hwi
  by_cases hlt : k < 16
  ·have HRS : Hid ((match qce_ t.root (zc.map Int.ofNat) with | .error e => .error e | .ok [] => .ok acc | .ok (l0 :: _) => match qa6_ t.root 16 l0.1 l0.2 with | .error e => .error e | .ok c' => iway t.root (16 - (k + 1)) (acc ++ [c']) c') = X) := Lib.hid (by
    have h := hwi.rest
    rw [show 16 - k = (16 - (k + 1)) + 1 by omega, iway] at h
    exact h)
   obtain ⟨m0, m1⟩ := qaa_ hwi.box
   have CP := Lib.hid (HPL.out wr bc zc xc hwi.spot)
   have hsz : g <= wr.heap.size := by have h1 := (Array.getElem?_eq_some_iff.1 hwi.box).1; have h2 := HG6.out; omega
   have HSZ := Lib.hid hsz
   clear hwi hsz
   go_wp2_with fail
   refine CP.out.mono ?_
   rintro e w4 ⟨⟨A5, c5, rfl, hcel, hc51, hc52, _⟩, hb4⟩
   have HW4 := Lib.hid (HWR.out.on (Tn.of_below hb4 (by have := HRG.out; have := HSZ.out; omega)) (HWR.out.rd.on hb4) HRG.out.1 HG6.out)
   have CL := Lib.hid (HLF.out w4 HW4.out.tn HW4.out.rd (zc.map Int.ofNat) A5 zc.length c5 (by rw [<- qf3_]; exact hcel) hc51 hc52)
   have HS4 : Hid (g <= w4.heap.size) := Lib.hid (Nat.le_trans HSZ.out hb4.size)
   clear hcel hc51 hc52 hb4 CP m0 m1
   go_wp2_with fail
   refine CL.out.mono ?_
   rintro e w5 ⟨⟨v5, er5, rfl, hm5⟩, hrd5, htn5⟩
   have HW5 := Lib.hid (HW4.out.on htn5 hrd5 HRG.out.1 HG6.out)
   obtain ⟨IL, hIL⟩ : ∃ IL, qce_ t.root (zc.map Int.ofNat) = IL := ⟨_, rfl⟩
   have HILN := Lib.hid hIL
   rw [hIL] at hm5 HRS
   have HS5 : Hid (g <= w5.heap.size) := Lib.hid (Nat.le_trans HS4.out htn5.below.size)
   clear hrd5 htn5 hIL CL
   cases IL with
   | error e' =>
    obtain ⟨rfl, rfl⟩ := hm5
    have he : er5 ≠ 0 := qfn_ HILN.out
    have q1 : (er5 != 0) = true := by rw [bne_iff_ne]; exact he
    clear he
    go_wp2
    go_ret2
    exact ⟨⟨_, _, rfl, by (rw [<- HRS.out]; exact ⟨rfl, rfl⟩)⟩, HW5.out.rd, HW5.out.tn⟩
   | ok ws =>
    obtain ⟨rfl, xs5, hrow5, hwi5⟩ := hm5
    obtain ⟨A6, c6, rfl, hcel5, hc61, hc62, _⟩ := qe6_ hrow5
    cases hwi5 with
    | nil =>
     have HL : Hid (WRow w5 g (.slice Av (k + 1) cv) xs) := Lib.hid HW5.out.row
     clear hrow5 hcel5
     go_wp2
     go_ret2
     exact ⟨⟨_, _, rfl, by (rw [<- HRS.out]; exact ⟨rfl, xs, HL.out, HW5.out.wires⟩)⟩, HW5.out.rd, HW5.out.tn⟩
    | @cons y l0 xs6 ws6 hy hrest =>
     obtain ⟨⟨x0, hsp0⟩, hyl⟩ := hy
     obtain ⟨ab, ao, eA, _, hcc⟩ := hcel5.2 (by simp)
     obtain ⟨d0, d1⟩ := hcc 0 (by simp)
     simp only [List.map_cons, List.getElem_cons_zero, WireR.two, Nat.zero_mul, Nat.add_zero] at d0 d1
     rw [hyl] at d1
     obtain ⟨xlen, hxlen⟩ : ∃ xlen, (y :: xs6).length = xlen := ⟨_, rfl⟩
     have hx0 : xlen ≠ 0 := by rw [<- hxlen]; simp
     have q1 : ((xlen : Int) == 0) = false := by rw [beq_eq_false_iff_ne]; omega
     rw [hxlen] at hc61 ⊢
     obtain rfl : A6 = _ := eA
     obtain ⟨zl, ll⟩ := l0
     simp only at hsp0 d1 HRS
     obtain ⟨yb, yl⟩ := y
     simp only at hsp0 d0
     have CT := Lib.hid (HTF.out w5 HW5.out.tn HW5.out.rd yb zl x0 ll hsp0)
     obtain ⟨TN, hTN⟩ : ∃ TN, qa6_ t.root 16 zl ll = TN := ⟨_, rfl⟩
     have HTNV := Lib.hid hTN
     rw [hTN] at CT HRS
     have hlt0 : (0 : Int) < xlen := by omega
     clear hrow5 hcel5 hcc hsp0 hyl hrest hxlen hTN
     go_wp2_with fail
     refine CT.out.mono ?_
     rintro e w6 ⟨⟨p6, l6, er6, rfl, hnv6⟩, hrd6, htn6⟩
     have HW6 := Lib.hid (HW5.out.on htn6 hrd6 HRG.out.1 HG6.out)
     have HNV6 := Lib.hid hnv6
     have hg6l := (Array.getElem?_eq_some_iff.1 HW6.out.box).1
     obtain ⟨m0, m1⟩ := qaa_ HW6.out.box
     have f0 := Lib.frozen_of_heap HW6.out.box 0
     have f1 := Lib.frozen_of_heap HW6.out.box 1
     obtain ⟨w7, hw7⟩ : ∃ w7, (w6.setCell ⟨g6, 0, none⟩ (.pointer p6)).setCell ⟨g6, 1, none⟩ (.int .u32 l6) = w7 := ⟨_, rfl⟩
     have ho7 : ∀ k, k ≠ g6 -> w7.heap[k]? = w6.heap[k]? := fun k hk => by rw [<- hw7]; exact qay_ w6 hk _ _
     have hx7 : w7.heap[g6]? = some (.cells #[.pointer p6, .int .u32 l6] 227 (0, 0)) := by rw [<- hw7]; exact qax_ HW6.out.box _ _
     have hz7 : w7.heap.size = w6.heap.size := by rw [<- hw7]; exact qcl_ _ _ _ _
     obtain ⟨s7, r7⟩ := qc6_ HW6.out.rd HW6.out.box ho7
     have ht7 : Tn B r w w7 := ⟨by rw [<- hw7]; exact qal_ HW6.out.tn.below (by have := HRG.out; have := HG6.out; omega) _ _, fun j hj hjr => (ho7 j (by rw [HG.out] at hj; have := HG6.out; omega)).trans (HW6.out.tn.same j hj hjr)⟩
     have HRD7 := Lib.hid r7
     have HTN7 := Lib.hid ht7
     have HSP7 := Lib.hid s7
     have HO7 := Lib.hid ho7
     have HX7 := Lib.hid hx7
     have HZ7 : Hid (g6 < w7.heap.size) := Lib.hid (by rw [hz7]; exact hg6l)
     obtain ⟨c0, c1⟩ := qaa_ hx7
     clear hnv6 hrd6 htn6 CT ho7 hz7 s7 r7 ht7 hx7 hg6l d0 d1
     by_cases he : er6 = 0
     rotate_left
     ·have q2 : (er6 != 0) = true := by rw [bne_iff_ne]; exact he
      have HXE : Hid (X = .error er6) := Lib.hid (by
       have h2 := HNV6.out
       rw [<- HRS.out]
       cases TN with
       | error e1 => rw [show er6 = e1 from h2]
       | ok y => exact absurd h2.1 he)
      clear he
      go_wp2
      go_ret2
      exact ⟨⟨_, _, rfl, by (rw [HXE.out]; exact ⟨rfl, rfl⟩)⟩, HRD7.out, HTN7.out⟩
     subst he
     obtain ⟨z7, l7, hTo⟩ : ∃ z7 l7, TN = .ok (z7, l7) := by
      have h2 := HNV6.out
      cases hN : TN with
      | error e1 =>
       rw [hN] at h2
       exact absurd (show e1 = 0 from h2.symm) (qca_ (HTNV.out.trans hN))
      | ok y => exact ⟨y.1, y.2, rfl⟩
     rw [hTo] at HNV6 HRS
     obtain ⟨_, rfl, b7, x7, rfl, hsp7⟩ := HNV6.out
     have hsp7' := hsp7.sp HSP7.out
     have hrow7 : WRow w7 g (.slice Av (k + 1) cv) xs := HW6.out.row.keep (fun j e => HO7.out j (HW6.out.own j e))
     have hlen := HW6.out.len
     have happ := qkr_ hrow7 ⟨b7, l6⟩ (by omega) (by have := HZ7.out; have := HG6.out; omega)
     rw [hlen] at happ
     obtain ⟨A8, c8, w8, r8, o8, b8, g8, e8⟩ := happ
     simp only [WireR.two] at r8
     have hb8 : ∀ j, j < w7.heap.size -> (Value.slice Av (k + 1) cv).ownBlock ≠ some j -> w8.heap[j]? = w7.heap[j]? := fun j hj hne => g8.block j hj (fun e => hne e.symm)
     have hownT : ∀ j, (Value.slice Av (k + 1) cv).ownBlock = some j -> ∃ cur, w7.heap[j]? = some (.cells cur 227 (0, 0)) := fun j e => by
      rcases hrow7.2 with ⟨e', _⟩ | ⟨g', cap, cur, e', hb', hg', _⟩
      ·rw [e'] at e; cases e
      ·rw [e'] at e
       cases e
       exact ⟨cur, hg'⟩
     have hsp8 : Sp w7 w8 := fun j c e => hb8 j (Array.getElem?_eq_some_iff.1 e).1 (fun q => by
      obtain ⟨cur, hc⟩ := hownT j q
      rw [hc] at e
      simp only [Option.some.injEq, Obj.cells.injEq] at e
      exact absurd e.2.1 (by decide))
     have hlow : ∀ j, j < w7.heap.size -> j < g -> w8.heap[j]? = w7.heap[j]? := fun j hj hjg => hb8 j hj (fun e => by have := (hrow7.lt j e).1; omega)
     have hrd8 : RdF w8 B r t (fun _ => True) := HRD7.out.ty hsp8 (hlow r HRD7.out.lt HRG.out.1) (fun j es cl e => hb8 j (Array.getElem?_eq_some_iff.1 e).1 (fun q => by
      obtain ⟨cur, hc⟩ := hownT j q
      rw [hc] at e
      cases e))
     have HNEW : Hid (WayI t B r g g6 X w (k + 1) (.slice A8 (k + 1 + 1) c8) (xs ++ [⟨b7, l6⟩]) (acc ++ [(z7, l6)]) b7 z7 x7 l6 w8) := Lib.hid ⟨by rw [List.length_append, hlen]; rfl, o8, ((HW6.out.wires.sp HSP7.out).sp hsp8).snoc (hsp7'.sp hsp8) l6,
      (hb8 g6 HZ7.out (fun e => HW6.out.own g6 e rfl)).trans HX7.out, fun j e => by
       rcases e8 with e' | e'
       ·exact HW6.out.own j (e'.symm.trans e)
       ·rw [e'] at e
        have := Option.some.inj e
        have := HZ7.out
        omega, hsp7'.sp hsp8, hrd8, ⟨HTN7.out.below.trans (b8.mono HRG.out.2), fun j hj hjr => (hlow j (by rw [HG.out] at hj; have := HZ7.out; have := HG6.out; omega) (by rw [HG.out] at hj; exact hj)).trans (HTN7.out.same j hj hjr)⟩, HRS.out⟩
     have HR8 := Lib.hid r8
     clear hTo hsp7 hsp7' hrow7 hlen r8 o8 b8 g8 e8 hb8 hownT hsp8 hlow hrd8
     go_wp2_with (at_builtin; refine Lib.wpList_append_run_sl _ rfl _ _ _ rfl _ _ rfl rfl HR8.out ?_)
     go_roundw
     case rel => exact ⟨k + 1, A8, c8, _, _, _, _, _, _, by omega, by go_num, rfl, HNEW.out⟩
     case measure => simp [intOf]; omega
  ·have HXE : Hid (X = .error 14) := Lib.hid (by have h := hwi.rest; rw [show 16 - k = 0 by omega, iway] at h; exact h.symm)
   clear hwi
   go_wp2
   go_ret2
   exact ⟨⟨_, _, rfl, by (rw [HXE.out]; exact ⟨rfl, rfl⟩)⟩, HWR.out.rd, HWR.out.tn⟩
structure LnR where
 A : Option Addr
 n : Nat
 c : Nat
 l : Int
def LnR.two (x : LnR) : Value × Value := (.slice x.A x.n x.c, .int .u32 x.l)
def qcf_ (w : World) (B : Nat) (x : LnR) (y : List Nat × Int) : Prop := Cel w B x.A x.n (ints y.1) /\ x.n <= x.c /\ x.c <= 9223372036854775807 /\ x.l = y.2
def LinesV (w : World) (B : Nat) (A : Option Addr) (m : Nat) (ws : List (List Nat × Int)) : Prop := ∃ xs : List LnR, Cel2 w B A m (xs.map LnR.two) /\ Two (qcf_ w B) xs ws
def LinesL (lo : Nat) (w : World) (B : Nat) (A : Option Addr) (m : Nat) (ws : List (List Nat × Int)) : Prop := (∀ b o, A = some ⟨b, o, none⟩ -> lo <= b) /\ ∃ xs : List LnR, Cel2 w B A m (xs.map LnR.two) /\ Two (fun x y => qcf_ w B x y /\ ∀ b o, x.A = some ⟨b, o, none⟩ -> lo <= b) xs ws
theorem qko_ {w w' : World} {lo : Nat} {A : Option Addr} {n : Nat} {l : List Value} (h : Cel w w.heap.size A n l) (hl : ∀ b o, A = some ⟨b, o, none⟩ -> lo <= b) (hs : w.heap.size <= w'.heap.size) (ho : ∀ k, lo <= k -> k < w.heap.size -> w'.heap[k]? = w.heap[k]?) : Cel w' w'.heap.size A n l :=
 ⟨h.1, fun h0 => by
  obtain ⟨b, o, e, hb, hc⟩ := h.2 h0
  exact ⟨b, o, e, Nat.lt_of_lt_of_le hb hs, fun i hi => (World.cell?_of_block (a := ⟨b, o + i, none⟩) (ho b (hl b o e) hb)).trans (hc i hi)⟩⟩
theorem LinesL.keep {lo : Nat} {w w' : World} {A : Option Addr} {m : Nat} {ws : List (List Nat × Int)} (h : LinesL lo w w.heap.size A m ws) (hs : w.heap.size <= w'.heap.size) (ho : ∀ k, lo <= k -> k < w.heap.size -> w'.heap[k]? = w.heap[k]?) : LinesL lo w' w'.heap.size A m ws := by
 obtain ⟨h0, xs, h1, h2⟩ := h
 refine ⟨h0, xs, ⟨h1.1, fun hn => ?_⟩, Two.mono (fun a b ⟨⟨q1, q2⟩, q3⟩ => ⟨⟨qko_ q1 q3 hs ho, q2⟩, q3⟩) h2⟩
 obtain ⟨b, o, e, hb, hc⟩ := h1.2 hn
 have hk := ho b (h0 b o e) hb
 exact ⟨b, o, e, Nat.lt_of_lt_of_le hb hs, fun i hi => ⟨(World.cell?_of_block (a := ⟨b, o + i * 2, none⟩) hk).trans (hc i hi).1, (World.cell?_of_block (a := ⟨b, o + i * 2 + 1, none⟩) hk).trans (hc i hi).2⟩⟩
theorem LinesV.on {w w' : World} {A : Option Addr} {m : Nat} {ws : List (List Nat × Int)} (h : LinesV w w.heap.size A m ws) (hb : Below w.heap.size w w') : LinesV w' w'.heap.size A m ws := by
 obtain ⟨xs, h1, h2⟩ := h
 exact ⟨xs, h1.on hb, Two.mono (fun a b ⟨q1, q2⟩ => ⟨q1.on hb, q2⟩) h2⟩
theorem LinesV.len {w : World} {B : Nat} {A : Option Addr} {m : Nat} {ws : List (List Nat × Int)} (h : LinesV w B A m ws) : ws.length = m := by
 obtain ⟨xs, h1, h2⟩ := h
 rw [<- h2.len]
 have := h1.1
 rwa [List.length_map] at this
theorem ql5_ {w : World} {b i : Nat} {arr : Array Value} {T : TypeId} {f : Nat × Nat} (h : w.heap[b]? = some (.cells arr T f)) (u0 u1 : Value) : ((w.setCell ⟨b, i, none⟩ u0).setCell ⟨b, i + 1, none⟩ u1).heap[b]? = some (.cells ((arr.setIfInBounds i u0).setIfInBounds (i + 1) u1) T f) := by
 simp [World.setCell, Array.getElem?_modify, h]
theorem take_set2 (l : List Value) (i : Nat) (u0 u1 : Value) (h : i + 1 < l.length) : ((l.set i u0).set (i + 1) u1).take (i + 2) = l.take i ++ [u0, u1] := by
 apply List.ext_getElem?
 intro j
 rw [List.getElem?_take]
 by_cases hj : j < i + 2
 ·rw [if_pos hj]
  rcases Nat.lt_or_ge j i with h1 | h1
  ·rw [List.getElem?_set_ne (by omega), List.getElem?_set_ne (by omega), List.getElem?_append_left (by rw [List.length_take]; omega), List.getElem?_take, if_pos h1]
  ·rw [List.getElem?_append_right (by rw [List.length_take]; omega), List.length_take, Nat.min_eq_left (by omega)]
   rcases Nat.lt_or_ge i j with h2 | h2
   ·obtain rfl : j = i + 1 := by omega
    rw [List.getElem?_set_self (by rw [List.length_set]; exact h)]
    simp
   ·obtain rfl : j = i := by omega
    rw [List.getElem?_set_ne (by omega), List.getElem?_set_self (by omega)]
    simp
 ·rw [if_neg hj, List.getElem?_eq_none (by simp; omega)]
theorem qme_ : (Tryz.prog.info? 127).map (fun i => (i.zero, i.size, i.bytes)) = some (some (.agg #[.slice none 0 0, .int .u32 0]), 2, 32) := by kernel_rfl
theorem qmy_ (w : World) (m : Nat) (hm : m <= 1073741824) : ∃ arr, arr.size = m * 2 /\ (Instr.makeSlice 78 (.int .i64 (m : Int)) (.int .i64 (m : Int))).run Tryz.prog w = .ok (.slice (some ⟨w.heap.size, 0, none⟩) m m) (w.alloc (.cells arr 127)) := by
 obtain ⟨i0, hi, hz, hs1, hby⟩ := qaw_ qme_
 have h := run_make (P := Tryz.prog) w 78 127 i0 _ Tryz.underlying78 hi hz .i64 .i64 (m : Int) (m : Int) (by omega) (Int.le_refl _) (by rw [hby]; omega) (by omega)
 rw [Int.toNat_natCast, hs1] at h
 exact ⟨_, size_madeCells _ _, h⟩
def AnsI (t : Tr) (g m : Nat) (w : World) (ws : List (List Nat × Int)) (k : Nat) (W : World) : Prop := ∃ (arr : Array Value) (done : List LnR), arr.size = m * 2 /\ done.length = k /\ arr.toList.take (k * 2) = flat2 (done.map LnR.two) /\ W.heap[g]? = some (.cells arr 127 (0, 0)) /\ Two (qcf_ W W.heap.size) done (ws.take k) /\ (∀ x ∈ done, ∀ b o, x.A = some ⟨b, o, none⟩ -> g < b) /\ Below g w W
theorem AnsI.on {t : Tr} {g m : Nat} {w W W' : World} {ws : List (List Nat × Int)} {k : Nat} (h : AnsI t g m w ws k W) (hb : Below W.heap.size W W') : AnsI t g m w ws k W' := by
 obtain ⟨arr, done, h1, h2, h3, h4, h5, h6, h7⟩ := h
 have hlt := (Array.getElem?_eq_some_iff.1 h4).1
 exact ⟨arr, done, h1, h2, h3, (hb.block g hlt).trans h4, Two.mono (fun a b ⟨q1, q2⟩ => ⟨q1.on hb, q2⟩) h5, h6, h7.trans (hb.mono (by omega))⟩
theorem Two.mem {α β : Type} {r : α -> β -> Prop} {P : α -> Prop} : ∀ {l : List α} {m : List β}, Two r l m -> (∀ a ∈ l, P a) -> Two (fun a b => r a b /\ P a) l m
 | _, _, .nil, _ => .nil
 | _, _, .cons h t, hp => .cons ⟨h, hp _ (by simp)⟩ (Two.mem t (fun a ha => hp a (by simp [ha])))
theorem AnsI.step {t : Tr} {g m : Nat} {w W : World} {ws : List (List Nat × Int)} {k : Nat} (h : AnsI t g m w ws k W) (hk : k < m) (hws : ws.length = m) (x : LnR) (hx : qcf_ W W.heap.size x (ws[k]'(by omega))) (hA : ∀ b o, x.A = some ⟨b, o, none⟩ -> g < b) :
  AnsI t g m w ws (k + 1) ((W.setCell ⟨g, k * 2, none⟩ x.two.1).setCell ⟨g, k * 2 + 1, none⟩ x.two.2) := by
 obtain ⟨arr, done, h1, h2, h3, h4, h5, h6, h7⟩ := h
 have ho : ∀ j, j ≠ g -> ((W.setCell ⟨g, k * 2, none⟩ x.two.1).setCell ⟨g, k * 2 + 1, none⟩ x.two.2).heap[j]? = W.heap[j]? := fun j hj => by
  rw [Below.heap_setCell _ _ _ _ (by show j ≠ g; exact hj), Below.heap_setCell _ _ _ _ (by show j ≠ g; exact hj)]
 have hsz : ((W.setCell ⟨g, k * 2, none⟩ x.two.1).setCell ⟨g, k * 2 + 1, none⟩ x.two.2).heap.size = W.heap.size := by simp [World.setCell]
 have hcel : ∀ {A : Option Addr} {n : Nat} {l : List Value}, Cel W W.heap.size A n l -> (∀ b o, A = some ⟨b, o, none⟩ -> g < b) -> Cel ((W.setCell ⟨g, k * 2, none⟩ x.two.1).setCell ⟨g, k * 2 + 1, none⟩ x.two.2) ((W.setCell ⟨g, k * 2, none⟩ x.two.1).setCell ⟨g, k * 2 + 1, none⟩ x.two.2).heap.size A n l := fun hc hn => ⟨hc.1, fun h0 => by
  obtain ⟨b, o, e, hb, hcc⟩ := hc.2 h0
  exact ⟨b, o, e, by rw [hsz]; exact hb, fun i hi => (World.cell?_of_block (a := ⟨b, o + i, none⟩) (ho b (by have := hn b o e; omega))).trans (hcc i hi)⟩⟩
 refine ⟨_, done ++ [x], ?_, by rw [List.length_append, h2]; rfl, ?_, ql5_ h4 _ _, ?_, fun y hy b o e => ?_, (h7.setCell (p := ⟨g, k * 2, none⟩) (Nat.le_refl _) _).setCell (p := ⟨g, k * 2 + 1, none⟩) (Nat.le_refl _) _⟩
 ·rw [Array.size_setIfInBounds, Array.size_setIfInBounds, h1]
 ·rw [Array.toList_setIfInBounds, Array.toList_setIfInBounds, show (k + 1) * 2 = k * 2 + 2 by omega, take_set2 _ _ _ _ (by rw [Array.length_toList, h1]; omega), h3, List.map_append, List.map_singleton, qls_]
 ·rw [List.take_add_one, List.getElem?_eq_getElem (by omega : k < ws.length)]
  exact Two.app (Two.mono (fun a b ⟨⟨q1, q2⟩, q3⟩ => ⟨hcel q1 q3, q2⟩) (Two.mem (P := fun a : LnR => ∀ b o, a.A = some ⟨b, o, none⟩ -> g < b) h5 h6)) (.cons ⟨hcel hx.1 hA, hx.2⟩ .nil)
 ·rcases List.mem_append.1 hy with hy | hy
  ·exact h6 y hy b o e
  ·rw [List.mem_singleton.1 hy] at e
   exact hA b o e
theorem AnsI.out {t : Tr} {g m : Nat} {w W : World} {ws : List (List Nat × Int)} (h : AnsI t g m w ws m W) (hws : ws.length = m) : LinesL g W W.heap.size (some ⟨g, 0, none⟩) m ws := by
 obtain ⟨arr, done, h1, h2, h3, h4, h5, h6, h7⟩ := h
 have hlt := (Array.getElem?_eq_some_iff.1 h4).1
 rw [List.take_of_length_le (by rw [Array.length_toList, h1]; exact Nat.le_refl _)] at h3
 rw [List.take_of_length_le (by rw [hws]; exact Nat.le_refl _)] at h5
 refine ⟨fun b o e => (by cases e; exact Nat.le_refl _), done, ⟨by rw [List.length_map]; exact h2, fun _ => ⟨g, 0, rfl, hlt, fun i hi => ?_⟩⟩, Two.mono (fun a b q => ⟨q.1, fun b o e => Nat.le_of_lt (q.2 b o e)⟩) (Two.mem (P := fun a : LnR => ∀ b o, a.A = some ⟨b, o, none⟩ -> g < b) h5 h6)⟩
 obtain ⟨q1, q2⟩ := qe5_ (done.map LnR.two) i hi
 rw [<- h3, Array.getElem?_toList] at q1 q2
 rw [Nat.zero_add]
 simp only [World.cell?, h4]
 exact ⟨q1, q2⟩
theorem qga_ (t : Tr) (A : Option Addr) (m c : Nat) (xs : List WireR) (ws : List (List Nat × Int)) (w : World) (hc2 : Cel2 w w.heap.size A m (xs.map WireR.two)) (hw : Wires w t.root (fun _ => True) xs ws) (hm : m <= 536870912) (hmc : m <= c) (hc : c <= 9223372036854775807) (hh : heftN t.root <= 134217728) :
  Calls Tryz.prog 71 #[.slice A m c] w fun e w' => e = .returned (.slice (some ⟨w.heap.size, 0, none⟩) m m) /\ LinesL w.heap.size w' w'.heap.size (some ⟨w.heap.size, 0, none⟩) m ws /\ Below w.heap.size w w' := by
 obtain ⟨g, hg⟩ : ∃ g, w.heap.size = g := ⟨_, rfl⟩
 obtain ⟨arr, ha, hmk⟩ := qmy_ w m (by omega)
 have hxl : xs.length = m := by have := hc2.1; rwa [List.length_map] at this
 have HWL : Hid (ws.length = m) := Lib.hid (by rw [<- hw.len]; exact hxl)
 have HXL := Lib.hid hxl
 have HC2 := Lib.hid hc2
 have HWI := Lib.hid hw
 have HLN := Lib.hid (fun (W : World) (b' : Nat) (z' : List Nat) (x' : Nd) (l' : Int) (hs' : Spot W t.root (fun _ => True) b' z' x') => qh5_ t.root _ b' z' x' l' W hs' hh)
 obtain ⟨w1, hw1⟩ : ∃ w1, w.alloc (.cells arr 127) = w1 := ⟨_, rfl⟩
 rw [hw1] at hmk
 have HI0 : Hid (AnsI t g m w ws 0 w1 /\ Below w.heap.size w w1) := Lib.hid ⟨⟨arr, [], ha, rfl, by simp [flat2], by rw [<- hw1, <- hg]; exact heap_alloc_new _ _, .nil, fun x hx => (by cases hx), by rw [<- hw1, <- hg]; exact (Below.refl _ _).alloc (Nat.le_refl _) _⟩, by rw [<- hw1]; exact (Below.refl _ _).alloc (Nat.le_refl _) _⟩
 have HG := Lib.hid hg
 clear hc2 hw hxl ha hh hw1
 rw [hg] at hmk ⊢
 go_enter Tryz.func71, Tryz.ntmps71
 go_wp2_with fail
 clear hmk
 go_loopw [11] (fun i wr => ∃ k : Nat, k <= m /\ i = .int .i64 k /\ AnsI t g m w ws k wr /\ Below w.heap.size w wr) (fun i _ => m - (intOf i).toNat)
 case atStart => exact ⟨0, Nat.zero_le _, rfl, HI0.out.1, HI0.out.2⟩
 case round =>
  obtain ⟨k, hk, rfl, hai, hbw⟩ := hrel
  have HAI := Lib.hid hai
  have HBW := Lib.hid hbw
  by_cases hlt : k < m
  ·have hkx : k < xs.length := by rw [HXL.out]; exact hlt
   have hkw : k < ws.length := by rw [HWL.out]; exact hlt
   obtain ⟨ab, ao, eA, hab, hcc⟩ := HC2.out.2 (by omega)
   obtain ⟨d0, d1⟩ := hcc k (by rw [List.length_map]; exact hkx)
   obtain ⟨⟨x0, hsp0⟩, hl0⟩ := Two.get HWI.out k hkx hkw
   rw [List.getElem_map] at d0 d1
   replace d0 := (hbw.cell (p := ⟨ab, ao + k * 2, none⟩) hab).trans d0
   replace d1 := (hbw.cell (p := ⟨ab, ao + k * 2 + 1, none⟩) hab).trans d1
   have hsp1 := hsp0.on hbw
   obtain rfl : A = _ := eA
   obtain ⟨y, hy⟩ : ∃ y, xs[k] = y := ⟨_, rfl⟩
   obtain ⟨zz, hz⟩ : ∃ zz, ws[k] = zz := ⟨_, rfl⟩
   have HZK := Lib.hid hz
   rw [hy, hz] at hl0
   rw [hy] at d0 d1
   rw [hy, hz] at hsp1
   obtain ⟨yb, yl⟩ := y
   obtain ⟨zl, ll⟩ := zz
   simp only [WireR.two] at d0 d1 hl0 hsp1
   subst hl0
   have hal : Below wr.heap.size wr (wr.alloc (.cells #[.pointer (some ⟨yb, 0, none⟩), .int .u32 yl] 227)) := (Below.refl _ _).alloc (Nat.le_refl _) _
   have hx5 := heap_alloc_new wr (.cells #[.pointer (some ⟨yb, 0, none⟩), .int .u32 yl] 227)
   obtain ⟨w5, hw5⟩ : ∃ w5, wr.alloc (.cells #[.pointer (some ⟨yb, 0, none⟩), .int .u32 yl] 227) = w5 := ⟨_, rfl⟩
   rw [hw5] at hal hx5
   have HB5 := Lib.hid hal
   have CL := Lib.hid (HLN.out w5 yb zl x0 yl (hsp1.on hal))
   obtain ⟨n0, n1⟩ := qaa_ hx5
   clear hai hbw hkx hab hcc hsp0 hsp1 hy hz hal hx5
   go_wp2_with fail
   refine CL.out.mono ?_
   rintro e w6 ⟨⟨A6, c6, rfl, hcel, h61, h62, hfr⟩, hb6⟩
   have hai6 := (HAI.out.on HB5.out).on hb6
   have hgw : g < w5.heap.size := by
    obtain ⟨arr, done, _, _, _, h4, _⟩ := HAI.out
    have := (Array.getElem?_eq_some_iff.1 h4).1
    have := HB5.out.size
    omega
   have hstep := hai6.step hlt HWL.out ⟨A6, zl.length, c6, yl⟩ ⟨by rw [HZK.out]; exact hcel, h61, h62, by rw [HZK.out]⟩ (fun b o e => by have := hfr b o e; omega)
   have HST := Lib.hid hstep
   have HBF : Hid (Below w.heap.size w ((w6.setCell ⟨g, k * 2, none⟩ (.slice A6 zl.length c6)).setCell ⟨g, k * 2 + 1, none⟩ (.int .u32 yl))) := Lib.hid (((HBW.out.trans (HB5.out.mono HBW.out.size)).trans (hb6.mono (Nat.le_trans HBW.out.size HB5.out.size)) |>.setCell (p := ⟨g, k * 2, none⟩) (by rw [HG.out]; exact Nat.le_refl _) _).setCell (p := ⟨g, k * 2 + 1, none⟩) (by rw [HG.out]; exact Nat.le_refl _) _)
   obtain ⟨arr, done, q1, _, _, q4, _⟩ := hai6
   have r0 : w6.cell? ⟨g, k * 2, none⟩ = some (arr[k * 2]'(by omega)) := by rw [Lib.cell_of_heap q4, Array.getElem?_eq_getElem]
   have r1 : w6.cell? ⟨g, k * 2 + 1, none⟩ = some (arr[k * 2 + 1]'(by omega)) := by rw [Lib.cell_of_heap q4, Array.getElem?_eq_getElem]
   generalize arr[k * 2]'(by omega) = z0 at *
   generalize arr[k * 2 + 1]'(by omega) = z1 at *
   have f0 := Lib.frozen_of_heap q4 (k * 2)
   have f1 := Lib.frozen_of_heap q4 (k * 2 + 1)
   clear hcel h61 h62 hfr hb6 hgw hstep q1 q4 CL n0 n1 d0 d1
   go_wp2
   go_roundw
   case rel => exact ⟨k + 1, by omega, by go_num, HST.out, HBF.out⟩
   case measure => simp [intOf]; omega
  ·obtain rfl : k = m := by omega
   have HV := Lib.hid (hai.out HWL.out)
   clear hai hbw
   go_wp2
   go_ret
   exact ⟨rfl, HV.out, by rw [<- HG.out]; exact HBW.out⟩
theorem qho_ {x : Nd} {s : ByteArray} : (valV x s).length <= heftN x := by
 unfold valV
 cases h : x.props.find? (fun p => decide (p.name = s)) with
 | none => simp
 | some p =>
  obtain ⟨k, hk, rfl⟩ := List.getElem_of_mem (List.mem_of_find?_eq_some h)
  exact qc0_ hk
theorem qil_ (v : List Int) : (qao_ v).length <= v.length := by
 unfold qao_
 split
 ·rw [List.length_map, List.length_range]; omega
 ·simp
theorem qmk_ {R x : Nd} {z : List Nat} {ws : List (List Nat × Int)} (h : qdr_ R x z = .ok ws) : ws.length <= heftN x := by
 unfold qdr_ at h
 split at h
 ·unfold qi0_ at h
  split at h
  ·cases h
  ·rw [qgp_ h]
   have h1 := qil_ (valV x qdz_)
   have h2 : (valV x qdz_).length <= heftN x := qho_
   omega
 split at h
 ·cases h
 split at h
 ·cases h; simp
 split at h
 ·cases h
 ·cases h
  rw [List.length_map]
  have h1 := qil_ (valV x qcj_)
  have h2 : (valV x qcj_).length <= heftN x := qho_
  omega
theorem qh9_ {R : Nd} {z : List Int} {ws : List (List Nat × Int)} (h : qce_ R z = .ok ws) : ws.length <= heftN R := by
 unfold qce_ at h
 split at h
 ·cases h
 split at h
 ·cases h
 ·rename_i x hx
  exact Nat.le_trans (qmk_ h) (qgs_ _ hx)
end Go.Proofs.YtcfinbapfhhpgaaGreatDoor
