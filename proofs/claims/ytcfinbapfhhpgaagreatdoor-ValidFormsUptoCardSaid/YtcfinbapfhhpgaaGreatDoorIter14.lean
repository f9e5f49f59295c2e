/-
  Iter, part 14.
-/
import Derived.Test.YtcfinbapfhhpgaaGreatDoorIter10
import Derived.Test.YtcfinbapfhhpgaaGreatDoorIter13
import Derived.Test.YtcfinbapfhhpgaaGreatDoorIter9
import Derived.Test.YtcfinbapfhhpgaaGreatDoorBase1
namespace Go.Proofs.YtcfinbapfhhpgaaGreatDoor
open Go.RowKit
set_option linter.unusedVariables false
set_option linter.unusedSimpArgs false
set_option maxRecDepth 20000
set_option maxHeartbeats 16000000
noncomputable def enL : List Nd -> Bool -> Bool × Int
 | [], b => (b, 0)
 | n :: l, b => if (onP n).2 ≠ 0 then (false, (onP n).2) else enL l (b && (onP n).1)
def wayN (R : Nd) (p : List Nat) : List Nd := wayL R (p.map Int.ofNat) p.length
theorem wayN_in {R : Nd} {p : List Nat} {y : Nd} (hy : qaj_ R p = some y) {w : World} {B : Nat} (hin : R.In w B) : ∀ x ∈ wayN R p, x.In w B /\ heftN x <= heftN R := fun x hx => by
 obtain ⟨k, hk⟩ := qhl_ ((qa4_ p R).trans hy) hx
 exact ⟨qa9_ _ hin hk, qbs_ _ hk⟩
theorem wayN_last {R : Nd} {p : List Nat} {y : Nd} (hy : qaj_ R p = some y) (h : p.length < (wayL R (p.map Int.ofNat) p.length).length) : (wayL R (p.map Int.ofNat) p.length)[p.length] = y := by
 rw [qnc_]
 have e : (p.map Int.ofNat).take p.length = p.map Int.ofNat := List.take_of_length_le (by rw [List.length_map]; exact Nat.le_refl _)
 rw [e, (qa4_ p R).trans hy]
 rfl
theorem of_any (t : Tr) (p : List Nat) (A : Option Addr) (n c : Nat) (y : Nd) (w : World) (hin : t.In w w.heap.size) (hck : qb5_ t = 0) (hh : heftN t.root <= 134217728) (hy : qaj_ t.root p = some y) (hp : Cel w w.heap.size A n (ints p)) (hnc : n <= c) (hc : c <= 9223372036854775807) :
  Calls Tryz.prog 152 #[t.val, .slice A n c] w fun e w' => e = .returned (.tuple #[.int .i64 (kindP y).1, .int .i64 (kindP y).2.2]) /\ Below w.heap.size w w' := by
 have hpl : p ∈ qac_ t.root [] := (qcx_ t.root [] p).2 ⟨p, rfl, by rw [hy]; rfl⟩
 have hlen : p.length = n := by have := hp.1; rwa [List.length_map] at this
 have CW := Lib.hid (fun W (hW : Below w.heap.size w W) => qno_ t p A n c W (hin.on hW) hck hh hpl (hp.on hW) hnc hc)
 have hyi := wayN_in hy hin.root
 have hn40 : n <= 40 := by
  have := qcq_ (qdd_ hck) hy
  omega
 have HL : Hid ((wayL t.root (p.map Int.ofNat) n).length = n + 1 /\ ∀ (h : n < ((wayL t.root (p.map Int.ofNat) n).map Nd.tri).length), ((wayL t.root (p.map Int.ofNat) n).map Nd.tri)[n] = y.tri) := Lib.hid (by
  subst hlen
  refine ⟨qbx_ _ _ _, fun h => ?_⟩
  rw [List.getElem_map]
  congr 1
  exact wayN_last hy (by rw [List.length_map] at h; exact h))
 have CK := Lib.hid (fun W (hW : Below w.heap.size w W) => qfq_ y W ((qa9_ _ hin.root ((qa4_ p t.root).trans hy)).on hW) (Nat.le_trans (qbs_ _ ((qa4_ p t.root).trans hy)) hh))
 obtain ⟨K, hK⟩ : ∃ K, kindP y = K := ⟨_, rfl⟩
 rw [hK] at CK ⊢
 obtain ⟨k1, k2, k3⟩ := K
 generalize wayL t.root (p.map Int.ofNat) n = L at *
 clear hin hck hh hy hp hpl hlen hyi hK hnc hc
 obtain ⟨boot, ra, rc, rs, ⟨nm, pa, pc, ps, ka, kc, ks⟩⟩ := t
 obtain ⟨yn, ypa, ypc, yps, yka, ykc, yks⟩ := y
 simp only [Tr.val, Tr.rv, Nd.val, Nd.pv, Nd.kv, Nd.name, Nd.pa, Nd.pc, Nd.props, Nd.ka, Nd.kc, Nd.kids, Nd.tri] at CW CK HL ⊢
 have HB := Lib.hid ((Below.refl w.heap.size w).alloc (Nat.le_refl _) (.cells #[.int .u32 boot, .slice ra rs.length rc, .string nm, .slice pa ps.length pc, .slice ka ks.length kc] 29))
 obtain ⟨b0, b1, b2, b3, b4⟩ := qa2_ w (.int .u32 boot) (.slice ra rs.length rc) (.string nm) (.slice pa ps.length pc) (.slice ka ks.length kc) _ (Below.refl _ _)
 go_enter Tryz.func152, Tryz.ntmps152
 go_wp2_with fail
 refine (CW.out _ HB.out).mono ?_
 rintro e w1 ⟨⟨A', c', rfl, hcel, h1, h2⟩, hb⟩
 have HB1 := Lib.hid (HB.out.trans (hb.mono HB.out.size))
 obtain ⟨ab, ao, rfl, _, hcc⟩ := hcel.2 (by omega)
 have hnl : n < (L.map Nd.tri).length := by rw [List.length_map, HL.out.1]; omega
 have hq := hcc n hnl
 have hq2 : (L.map Nd.tri)[n] = _ := HL.out.2 hnl
 rw [hq2] at hq
 obtain ⟨d0, d1, d2⟩ := hq
 simp only at d0 d1 d2
 clear hcel hcc hb b0 b1 b2 b3 b4 CW hnl hq2
 have hw : ((n : Int) + 1) - 1 = n := by omega
 go_wp2_with fail
 refine (CK.out _ HB1.out).mono ?_
 rintro e w2 ⟨rfl, hb⟩
 have HB2 := Lib.hid (HB1.out.trans (hb.mono HB1.out.size))
 clear hb CK d0 d1 d2
 go_wp2
 go_ret2
 exact ⟨rfl, HB2.out⟩
theorem qmm_ (t : Tr) (p : List Nat) (A : Option Addr) (n c : Nat) (y : Nd) (w : World) (hin : t.In w w.heap.size) (hck : qb5_ t = 0) (hh : heftN t.root <= 134217728) (hy : qaj_ t.root p = some y) (hp : Cel w w.heap.size A n (ints p)) (hnc : n <= c) (hc : c <= 9223372036854775807) :
  Calls Tryz.prog 153 #[t.val, .slice A n c] w fun e w' => e = .returned (.tuple #[.bool (enL (wayN t.root p) true).1, .int .i64 (enL (wayN t.root p) true).2]) /\ Below w.heap.size w w' := by
 have hpl : p ∈ qac_ t.root [] := (qcx_ t.root [] p).2 ⟨p, rfl, by rw [hy]; rfl⟩
 have hlen : p.length = n := by have := hp.1; rwa [List.length_map] at this
 have CW := Lib.hid (fun W (hW : Below w.heap.size w W) => qno_ t p A n c W (hin.on hW) hck hh hpl (hp.on hW) hnc hc)
 have hyi := wayN_in hy hin.root
 have hn40 : n <= 40 := by
  have := qcq_ (qdd_ hck) hy
  omega
 have e0 : wayN t.root p = wayL t.root (p.map Int.ofNat) n := by rw [wayN, hlen]
 rw [e0] at hyi ⊢
 have HL : Hid ((wayL t.root (p.map Int.ofNat) n).length = n + 1) := Lib.hid (qbx_ _ _ _)
 have CO := Lib.hid (fun (x : Nd) (hx : x ∈ wayL t.root (p.map Int.ofNat) n) W (hW : Below w.heap.size w W) => qj3_ x W ((hyi x hx).1.on hW) (Nat.le_trans (hyi x hx).2 hh))
 generalize wayL t.root (p.map Int.ofNat) n = L at *
 obtain ⟨X, hX⟩ : ∃ X, enL L true = X := ⟨_, rfl⟩
 have HX := Lib.hid hX
 rw [hX]
 obtain ⟨x1, x2⟩ := X
 clear hin hck hh hy hp hpl hlen hyi hX e0 hnc hc
 obtain ⟨boot, ra, rc, rs, ⟨nm, pa, pc, ps, ka, kc, ks⟩⟩ := t
 simp only [Tr.val, Tr.rv, Nd.val, Nd.pv, Nd.kv, Nd.name, Nd.pa, Nd.pc, Nd.props, Nd.ka, Nd.kc, Nd.kids] at CW ⊢
 have HB := Lib.hid ((Below.refl w.heap.size w).alloc (Nat.le_refl _) (.cells #[.int .u32 boot, .slice ra rs.length rc, .string nm, .slice pa ps.length pc, .slice ka ks.length kc] 29))
 obtain ⟨b0, b1, b2, b3, b4⟩ := qa2_ w (.int .u32 boot) (.slice ra rs.length rc) (.string nm) (.slice pa ps.length pc) (.slice ka ks.length kc) _ (Below.refl _ _)
 go_enter Tryz.func153, Tryz.ntmps153
 go_wp2_with fail
 refine (CW.out _ HB.out).mono ?_
 rintro e w1 ⟨⟨A', c', rfl, hcel, h1, h2⟩, hb⟩
 have HB1 := Lib.hid (HB.out.trans (hb.mono HB.out.size))
 have HC := Lib.hid hcel
 have hn41 : n + 1 <= 41 := by omega
 clear hcel hb b0 b1 b2 b3 b4 CW
 go_wp2_with fail
 go_loopw [8, 24] (fun b i wr => ∃ (k : Nat) (bb : Bool), k <= n + 1 /\ b = .bool bb /\ i = .int .i64 k /\ enL (L.drop k) bb = (x1, x2) /\ Below w.heap.size w wr /\ Below w1.heap.size w1 wr) (fun _ i _ => n + 1 - (intOf i).toNat)
 case atStart => exact ⟨0, true, Nat.zero_le _, rfl, rfl, HX.out, HB1.out, Below.refl _ _⟩
 case round =>
  obtain ⟨k, bb, hk, rfl, rfl, hen, hb, hb2⟩ := hrel
  have HEN := Lib.hid hen
  have HB3 := Lib.hid hb
  have HB4 := Lib.hid hb2
  clear hen
  by_cases hlt : k < n + 1
  ·have hkl : k < L.length := by rw [HL.out]; exact hlt
   obtain ⟨x, hx⟩ : ∃ x, L[k] = x := ⟨_, rfl⟩
   have hxm : x ∈ L := by rw [<- hx]; exact List.getElem_mem _
   have CX := Lib.hid (fun W hW => CO.out x hxm W hW)
   have HDR : Hid (L.drop k = x :: L.drop (k + 1)) := Lib.hid (by rw [<- hx]; exact List.drop_eq_getElem_cons hkl)
   obtain ⟨ab, ao, rfl, _, hcc⟩ := (HC.out.below hb2).2 (by omega)
   have hkl2 : k < (L.map Nd.tri).length := by rw [List.length_map]; exact hkl
   obtain ⟨d0, d1, d2⟩ := hcc k hkl2
   simp only [List.getElem_map, hx] at d0 d1 d2
   have HE2 : Hid (enL (L.drop k) bb = if (onP x).2 ≠ 0 then (false, (onP x).2) else enL (L.drop (k + 1)) (bb && (onP x).1)) := Lib.hid (by rw [HDR.out, enL])
   obtain ⟨Y, hY⟩ : ∃ Y, onP x = Y := ⟨_, rfl⟩
   rw [hY] at CX HE2
   obtain ⟨y1, y2⟩ := Y
   clear hY hcc hxm hx HDR hkl hkl2 hb hb2
   obtain ⟨yn, ypa, ypc, yps, yka, ykc, yks⟩ := x
   simp only [Nd.val, Nd.pv, Nd.kv, Nd.name, Nd.pa, Nd.pc, Nd.props, Nd.ka, Nd.kc, Nd.kids, Nd.tri] at CX d0 d1 d2
   go_wp2_with fail
   refine (CX.out _ (HB3.out.alloc HB3.out.size _)).mono ?_
   rintro e w4 ⟨rfl, hb⟩
   have HB5 := Lib.hid ((HB3.out.alloc HB3.out.size (.cells #[.string yn, .slice ypa yps.length ypc, .slice yka yks.length ykc] 27)).trans (hb.mono (by have := HB3.out.size; simp; omega)))
   have HB6 := Lib.hid ((HB4.out.alloc HB4.out.size (.cells #[.string yn, .slice ypa yps.length ypc, .slice yka yks.length ykc] 27)).trans (hb.mono (by have := HB4.out.size; simp; omega)))
   clear hb CX d0 d1 d2
   by_cases hy0 : y2 = 0
   ·have HE3 : Hid (enL (L.drop (k + 1)) (bb && y1) = (x1, x2)) := Lib.hid (by
     have h5 := HE2.out
     rw [if_neg (by simpa using hy0), HEN.out] at h5
     exact h5.symm)
    subst hy0
    cases bb <;> cases y1
    all_goals
     go_wp2
     go_roundw
     case rel => exact ⟨k + 1, _, by omega, rfl, by go_num, HE3.out, HB5.out, HB6.out⟩
     case measure => simp [intOf]; omega
   ·have hq : (y2 != 0) = true := by rw [bne_iff_ne]; exact hy0
    obtain ⟨rfl, rfl⟩ : x1 = false /\ x2 = y2 := by
     have h5 := HE2.out
     rw [if_pos hy0, HEN.out] at h5
     exact Prod.mk.inj h5
    clear hy0 HE2 HEN
    go_wp2
    go_ret2
    exact ⟨rfl, HB5.out⟩
  ·obtain rfl : k = n + 1 := by omega
   have HEX : Hid (x1 = bb /\ x2 = 0) := Lib.hid (by
    have h5 := HEN.out
    rw [List.drop_of_length_le (by rw [HL.out]; exact Nat.le_refl _), enL] at h5
    cases h5
    exact ⟨rfl, rfl⟩)
   obtain ⟨rfl, rfl⟩ := HEX.out
   clear hb hb2
   go_wp2
   go_ret2
   exact ⟨rfl, HB3.out⟩
theorem iway_ok {R : Nd} {ws : List (List Nat × Int)} : ∀ {k : Nat} {acc : List (List Nat × Int)} {c : List Nat × Int}, iway R k acc c = .ok ws -> acc.length <= ws.length /\ ws.length <= acc.length + k
 | 0, acc, c, h => by cases h
 | k + 1, acc, c, h => by
  rw [iway] at h
  split at h
  ·cases h
  ·cases h; omega
  ·split at h
   ·cases h
   ·have := iway_ok h
    rw [List.length_append, List.length_singleton] at this
    omega
theorem iway_ne {R : Nd} {e : Int} : ∀ {k : Nat} {acc : List (List Nat × Int)} {c : List Nat × Int}, iway R k acc c = .error e -> e ≠ 0
 | 0, acc, c, h => by cases h; decide
 | k + 1, acc, c, h => by
  rw [iway] at h
  split at h
  ·rename_i h0
   cases h
   exact qfn_ h0
  ·cases h
  ·split at h
   ·rename_i h0
    cases h
    exact qca_ h0
   ·exact iway_ne h
theorem iways_ok {R : Nd} {z : List Nat} {l : Int} {ws : List (List Nat × Int)} (h : iways R z l = .ok ws) : 1 <= ws.length /\ ws.length <= 17 := by
 unfold iways at h
 split at h
 ·cases h
 ·have := iway_ok h
  simp at this
  omega
theorem iways_ne {R : Nd} {z : List Nat} {l e : Int} (h : iways R z l = .error e) : e ≠ 0 := by
 unfold iways at h
 split at h
 ·rename_i h0
  cases h
  exact qca_ h0
 ·exact iway_ne h
def iroot (R : Nd) (z : List Int) (l : Int) : Except Int (List (List Nat × Int)) := match nodeZ R z with
 | none => .error 8
 | some _ => iways R (z.map Int.toNat) l
theorem qkl_ {R : Nd} {z : List Int} {l : Int} {ws : List (List Nat × Int)} (h : iroot R z l = .ok ws) : 1 <= ws.length /\ ws.length <= 17 := by
 unfold iroot at h
 split at h
 ·cases h
 ·exact iways_ok h
theorem qkq_ {R : Nd} {z : List Int} {l e : Int} (h : iroot R z l = .error e) : e ≠ 0 := by
 unfold iroot at h
 split at h
 ·cases h; decide
 ·exact iways_ne h
def RootX (w' : World) (X : Except Int (List (List Nat × Int))) (e : Ending) : Prop := match X with
 | .error er => e = .returned (.tuple #[.agg #[.slice none 0 0, .int .u32 0], .slice none 0 0, .int .i64 er])
 | .ok ws => ∃ (x : LnR) (y : List Nat × Int) (A : Option Addr) (m c : Nat), e = .returned (.tuple #[.agg #[.slice x.A x.n x.c, .int .u32 x.l], .slice A m c, .int .i64 0]) /\ ws.getLast? = some y /\ qcf_ w' w'.heap.size x y /\ LinesV w' w'.heap.size A m ws /\ m <= c /\ c <= 9223372036854775807
def qbu_ (R : Nd) (z : List Int) (l : Int) : Except Int (List Nat × Int) := match nodeZ R z with
 | none => .error 8
 | some _ => qa6_ R 16 (z.map Int.toNat) l
theorem qgb_ {R : Nd} {z : List Int} {l e : Int} (h : qbu_ R z l = .error e) : e ≠ 0 := by
 unfold qbu_ at h
 split at h
 ·cases h; decide
 ·exact qca_ h
def ThroughX (w' : World) (X : Except Int (List Nat × Int)) (e : Ending) : Prop := match X with
 | .error er => e = .returned (.tuple #[.agg #[.slice none 0 0, .int .u32 0], .int .i64 er])
 | .ok y => ∃ x : LnR, e = .returned (.tuple #[.agg #[.slice x.A x.n x.c, .int .u32 x.l], .int .i64 0]) /\ qcf_ w' w'.heap.size x y
theorem qj4_ (t : Tr) (z : List Int) (A : Option Addr) (n c : Nat) (ln : Int) (w : World) (hin : t.In w w.heap.size) (hh : heftN t.root <= 134217728) (hp : Cel w w.heap.size A n (intsZ z)) (hnc : n <= c) (hc : c <= 9223372036854775807) :
  Calls Tryz.prog 92 #[t.val, .agg #[.slice A n c, .int .u32 ln]] w fun e w' => ThroughX w' (qbu_ t.root z ln) e /\ Below w.heap.size w w' := by
 obtain ⟨g, hg⟩ : ∃ g, w.heap.size = g := ⟨_, rfl⟩
 obtain ⟨X, hX⟩ : ∃ X, qbu_ t.root z ln = X := ⟨_, rfl⟩
 have HXV := Lib.hid hX
 rw [hX]
 have HAT := Lib.hid (fun (W : World) (hW : Below w.heap.size w W) (hr : W.heap[g + 3]? = some (rbox t none 0)) => at_any t (g + 3) none 0 z A n c W hr (hin.on hW) (hp.on hW) hnc hc)
 have HWY := Lib.hid (fun (W : World) (hW : Below g w W) (hr : RdF W g (g + 3) t (fun _ => True)) (b : Nat) (zn : List Nat) (x : Nd) (hs : Spot W t.root (fun _ => True) b zn x) => qd3_ t g (g + 3) b zn x ln W hr (by have := hW.size; omega) (by rw [<- hg] at hW ⊢; exact hin.under hW) hh hs)
 have HLI := Lib.hid (fun (W : World) (b : Nat) (zn : List Nat) (x : Nd) (l : Int) (hs : Spot W t.root (fun _ => True) b zn x) => qh5_ t.root _ b zn x l W hs hh)
 have HRD0 : Hid (∀ W : World, W.heap[g + 3]? = some (rbox t none 0) -> RdF W g (g + 3) t (fun _ => True)) := Lib.hid (fun W h => ⟨by omega, none, 0, h, fun g e => by cases e⟩)
 clear hin hp hnc hc hh hX
 obtain ⟨boot, ra, rc, rs, ⟨nm, pa, pc, ps, ka, kc, ks⟩⟩ := t
 obtain ⟨TT, hTT⟩ : ∃ TT, Tr.mk boot ra rc rs (Nd.mk nm pa pc ps ka kc ks) = TT := ⟨_, rfl⟩
 have HA4 := Lib.hid (qhz_ w (.cells #[.int .u32 boot, .slice ra rs.length rc, .string nm, .slice pa ps.length pc, .slice ka ks.length kc] 29) (.cells #[.slice A n c, .int .u32 ln] 127) (.cells #[.slice none 0 0, .int .u32 0] 127) (.cells #[.int .u32 boot, .slice ra rs.length rc, .string nm, .slice pa ps.length pc, .slice ka ks.length kc, .map none, .int .i64 0] 161))
 have hrb : (.cells #[.int .u32 boot, .slice ra rs.length rc, .string nm, .slice pa ps.length pc, .slice ka ks.length kc, .map none, .int .i64 0] 161 : Obj) = rbox TT none 0 := by rw [<- hTT]; rfl
 have hvv : Tr.val (Tr.mk boot ra rc rs (Nd.mk nm pa pc ps ka kc ks)) = .agg #[.int .u32 boot, .slice ra rs.length rc, .string nm, .slice pa ps.length pc, .slice ka ks.length kc] := rfl
 rw [hvv]
 rw [hTT] at HAT HWY HLI HRD0 HXV
 have HRB := Lib.hid hrb
 have HG := Lib.hid hg
 clear hTT hvv hrb
 rw [hg] at HA4 HAT ⊢
 go_enter Tryz.func92, Tryz.ntmps92
 go_wp2_with fail
 generalize hW0 : (((w.alloc (.cells #[.int .u32 boot, .slice ra rs.length rc, .string nm, .slice pa ps.length pc, .slice ka ks.length kc] 29)).alloc (.cells #[.slice A n c, .int .u32 ln] 127)).alloc (.cells #[.slice none 0 0, .int .u32 0] 127)).alloc (.cells #[.int .u32 boot, .slice ra rs.length rc, .string nm, .slice pa ps.length pc, .slice ka ks.length kc, .map none, .int .i64 0] 161) = W0
 have A4 := HA4.out
 rw [hW0] at A4
 obtain ⟨z0, a0, a1, a2, a3, hb0⟩ := A4
 rw [HRB.out] at a3
 have HG1 := Lib.hid a1
 have HG2 := Lib.hid a2
 have HR0 := Lib.hid a3
 have HB0 := Lib.hid hb0
 have HZ0 := Lib.hid z0
 clear hW0 HA4 HRB a0 a1 a2 a3 hb0 z0
 refine (HAT.out W0 HB0.out HR0.out).mono ?_
 rintro e w1 ⟨hat, hb1⟩
 have HB1 := Lib.hid (HB0.out.trans (hb1.mono (by have := HZ0.out; omega)))
 have HG11 := Lib.hid ((hb1.block (g + 1) (by have := HZ0.out; omega)).trans HG1.out)
 have HG21 := Lib.hid ((hb1.block (g + 2) (by have := HZ0.out; omega)).trans HG2.out)
 have HR1 := Lib.hid ((hb1.block (g + 3) (by have := HZ0.out; omega)).trans HR0.out)
 have HS1 : Hid (g + 4 <= w1.heap.size) := Lib.hid (by have := HZ0.out; have := hb1.size; omega)
 clear hb1
 rcases hat with ⟨b, x, zn, rfl, hx, hz, hsp⟩ | ⟨rfl, hx⟩
 rotate_left
 ·obtain ⟨d0, d1⟩ := qaa_ HG21.out
  have f0 := Lib.frozen_of_heap HG21.out 0
  have f1 := Lib.frozen_of_heap HG21.out 1
  have HE := Lib.hid (qaa_ (qax_ HG21.out (.slice none 0 0) (.int .u32 0)))
  have HBF := Lib.hid (qal_ HB1.out (b := g + 2) (by omega) (.slice none 0 0) (.int .u32 0))
  have HX : Hid (X = .error 8) := Lib.hid (by rw [<- HXV.out, qbu_, hx])
  clear hx
  go_wp2
  obtain ⟨e0, e1⟩ := HE.out
  refine bodyPost_ret (v := .tuple #[.agg #[.slice none 0 0, .int .u32 0], .int .i64 8]) (by simp [results, Tryz.results92, go_sem, e0, e1]; try rfl) rfl ?_
  exact ⟨by (rw [HX.out]; rfl), HBF.out⟩
 have hspt : Spot w1 TT.root (fun _ => True) b zn x := hsp.sub (fun _ _ _ => trivial)
 have hXW : qa6_ TT.root 16 zn ln = X := by rw [<- HXV.out, qbu_, hx, hz, qct_]
 have CW := HWY.out w1 HB1.out (HRD0.out w1 HR1.out) b zn x hspt
 rw [hXW] at CW
 have CW := Lib.hid CW
 obtain ⟨l0, l1⟩ := qaa_ HG11.out
 clear hsp hspt hx hz hXW
 go_wp2_with fail
 refine CW.out.mono ?_
 rintro e w2 ⟨⟨p, l3, er, rfl, hnv⟩, hrd2, htn2⟩
 have hg2 := (htn2.same (g + 2) (by have := HS1.out; omega) (by omega)).trans HG21.out
 have hs2 : g + 4 <= w2.heap.size := Nat.le_trans HS1.out htn2.below.size
 have hb2 : Below g w w2 := HB1.out.trans htn2.below
 obtain ⟨w3, hw3⟩ : ∃ w3, w2.alloc (.cells #[.pointer p, .int .u32 l3] 227) = w3 := ⟨_, rfl⟩
 have hb3 : Below w2.heap.size w2 w3 := by rw [<- hw3]; exact (Below.refl _ _).alloc (Nat.le_refl _) _
 have hn3 : w3.heap[w2.heap.size]? = some (.cells #[.pointer p, .int .u32 l3] 227 (0, 0)) := by rw [<- hw3]; exact heap_alloc_new _ _
 have HB3 := Lib.hid (hb2.trans (hb3.mono (by omega)))
 have HG3 := Lib.hid ((hb3.block (g + 2) (by omega)).trans hg2)
 have HS3 : Hid (g + 4 <= w3.heap.size) := Lib.hid (Nat.le_trans hs2 hb3.size)
 have HNV := Lib.hid (hnv.keep (D' := fun _ => True) (W' := w3) (fun _ _ _ => trivial) (fun j _ hl => hb3.block j hl))
 obtain ⟨n0, n1⟩ := qaa_ hn3
 obtain ⟨d0, d1⟩ := qaa_ HG3.out
 clear hnv hrd2 htn2 hg2 hs2 hb2 hb3 hn3 l0 l1 CW
 by_cases he : er = 0
 rotate_left
 ·have q1 : (er != 0) = true := by rw [bne_iff_ne]; exact he
  have f0 := Lib.frozen_of_heap HG3.out 0
  have f1 := Lib.frozen_of_heap HG3.out 1
  have HE := Lib.hid (qaa_ (qax_ HG3.out (.slice none 0 0) (.int .u32 0)))
  have HBF := Lib.hid (qal_ HB3.out (b := g + 2) (by omega) (.slice none 0 0) (.int .u32 0))
  have HX : Hid (X = .error er) := Lib.hid (by
   have h2 := HNV.out
   cases X with
   | error e1 => rw [show er = e1 from h2]
   | ok y => exact absurd h2.1 he)
  clear he
  go_wp2
  obtain ⟨e0, e1⟩ := HE.out
  refine bodyPost_ret (v := .tuple #[.agg #[.slice none 0 0, .int .u32 0], .int .i64 er]) (by simp [results, Tryz.results92, go_sem, e0, e1]; try rfl) rfl ?_
  exact ⟨by (rw [HX.out]; rfl), HBF.out⟩
 subst he
 obtain ⟨z3, l4, hTo⟩ : ∃ z3 l4, X = .ok (z3, l4) := by
  have h2 := HNV.out
  cases hN : X with
  | error e1 =>
   rw [hN] at h2
   exact absurd (show e1 = 0 from h2.symm) (qgb_ (HXV.out.trans hN))
  | ok y => exact ⟨y.1, y.2, rfl⟩
 have HTO := Lib.hid hTo
 rw [hTo] at HNV
 obtain ⟨_, rfl, b3, x3, rfl, hsp3⟩ := HNV.out
 have CL := Lib.hid (HLI.out w3 b3 z3 x3 l3 hsp3)
 clear hsp3 d0 d1 hTo
 go_wp2_with fail
 refine CL.out.mono ?_
 rintro e w4 ⟨⟨A', c', rfl, hcel, hc1, hc2, hfr⟩, hb4⟩
 have hg4 := (hb4.block (g + 2) (by have := HS3.out; omega)).trans HG3.out
 obtain ⟨d0, d1⟩ := qaa_ hg4
 have f0 := Lib.frozen_of_heap hg4 0
 have f1 := Lib.frozen_of_heap hg4 1
 have HE := Lib.hid (qaa_ (qax_ hg4 (.slice A' z3.length c') (.int .u32 l3)))
 have HBF := Lib.hid (qal_ (HB3.out.trans (hb4.mono (by have := HS3.out; omega))) (b := g + 2) (by omega) (.slice A' z3.length c') (.int .u32 l3))
 have HCF := Lib.hid (hcel.set2 (g := g + 2) (fun b o e => by have h1 := hfr b o e; have h2 := HS3.out; omega) (.slice A' z3.length c') (.int .u32 l3))
 have HCC := Lib.hid (And.intro hc1 hc2)
 clear hcel hc1 hc2 hfr hb4 hg4 CL n0 n1
 go_wp2
 obtain ⟨e0, e1⟩ := HE.out
 refine bodyPost_ret (v := .tuple #[.agg #[.slice A' z3.length c', .int .u32 l3], .int .i64 0]) (by simp [results, Tryz.results92, go_sem, e0, e1]; try rfl) rfl ?_
 exact ⟨by (rw [HTO.out]; exact ⟨⟨A', z3.length, c', l3⟩, rfl, HCF.out, HCC.out.1, HCC.out.2, rfl⟩), HBF.out⟩
theorem qpm_ {α β : Type} {R : α -> β -> Prop} {l : List α} {m : List β} (h : Two R l m) {i : Nat} (hi : i < l.length) : ∃ hm : i < m.length, R l[i] m[i] := ⟨by rw [<- h.len]; exact hi, h.get i hi (by rw [<- h.len]; exact hi)⟩
def qcm_ (x : LnR) : Value := .agg #[.slice x.A x.n x.c, .int .u32 x.l]
theorem idx_range (bc : Nat) (P : List Nat × Int -> Bool) (A : Option Addr) (m c : Nat) (ws : List (List Nat × Int)) (w : World) (hl : LinesV w w.heap.size A m ws) (hm : m <= 1073741824) (hmc : m <= c) (hc : c <= 9223372036854775807)
  (CL : ∀ (x : LnR) (y : List Nat × Int) (W : World), Below w.heap.size w W -> qcf_ W W.heap.size x y -> y ∈ ws -> Calls Tryz.prog 123 #[qcm_ x] W fun e w' => e = .returned (.bool (P y)) /\ Below W.heap.size W w') :
  Calls Tryz.prog 151 #[.slice A m c, .func (.func 123) #[] #[]] w fun e w' => (∃ r : Int, e = .returned (.int .i64 r) /\ decide (0 <= r) = ws.any P) /\ Below w.heap.size w w' := by
 obtain ⟨xs, hcel, htwo⟩ := hl
 have hxl : xs.length = m := by have := hcel.1; rwa [List.length_map] at this
 have HTW := Lib.hid htwo
 have HCE := Lib.hid hcel
 have HCL := Lib.hid CL
 have HXL := Lib.hid hxl
 obtain ⟨R, hR⟩ : ∃ R, ws.any P = R := ⟨_, rfl⟩
 have HR := Lib.hid hR
 rw [hR]
 clear hcel htwo CL hxl hR
 go_enter Tryz.func151, Tryz.ntmps151
 go_wp2_with fail
 go_loopw [8] (fun i wr => ∃ k : Nat, k <= m /\ i = .int .i64 k /\ (∀ j (h : j < ws.length), j < k -> P ws[j] = false) /\ Below w.heap.size w wr) (fun i _ => m - (intOf i).toNat)
 case atStart => exact ⟨0, Nat.zero_le _, rfl, fun j h h0 => absurd h0 (Nat.not_lt_zero _), Below.refl _ _⟩
 case round =>
  obtain ⟨k, hk, rfl, hpre, hb⟩ := hrel
  have HPRE := Lib.hid hpre
  have HB := Lib.hid hb
  clear hpre
  by_cases hlt : k < m
  ·have hkx : k < xs.length := by rw [HXL.out]; exact hlt
   obtain ⟨hkw, hsh⟩ := qpm_ HTW.out hkx
   obtain ⟨b, o, rfl, _, hcc⟩ := (HCE.out.on hb).2 (by omega)
   have hkm : k < (xs.map LnR.two).length := by rw [List.length_map]; exact hkx
   obtain ⟨d0, d1⟩ := hcc k hkm
   simp only [List.getElem_map] at d0 d1
   have hsh2 : qcf_ wr wr.heap.size xs[k] ws[k] := ⟨hsh.1.on hb, hsh.2⟩
   have CX := Lib.hid (HCL.out xs[k] ws[k] wr hb hsh2 (List.getElem_mem _))
   obtain ⟨x, hx⟩ : ∃ x, xs[k] = x := ⟨_, rfl⟩
   obtain ⟨y, hy⟩ : ∃ y, ws[k] = y := ⟨_, rfl⟩
   rw [hx, hy] at CX
   rw [hx] at d0 d1
   have HY := Lib.hid (Exists.intro hkw hy : ∃ h : k < ws.length, ws[k] = y)
   obtain ⟨PB, hPB⟩ : ∃ PB, P y = PB := ⟨_, rfl⟩
   have HPB := Lib.hid hPB
   rw [hPB] at CX
   clear hcc hsh hsh2 hkm hx hkx hy hkw hb hPB
   obtain ⟨xA, xn, xc, xl⟩ := x
   simp only [LnR.two, qcm_] at CX d0 d1
   go_wp2_with fail
   refine CX.out.mono ?_
   rintro e w2 ⟨rfl, hb⟩
   have HB2 := Lib.hid (HB.out.trans (hb.mono HB.out.size))
   clear hb CX d0 d1
   cases PB
   ·go_wp2
    go_roundw
    case rel => exact ⟨k + 1, by omega, by go_num, fun j hj hjk => by
     rcases Nat.lt_or_ge j k with h | h
     ·exact HPRE.out j hj h
     ·obtain rfl : j = k := by omega
      obtain ⟨h1, h2⟩ := HY.out
      rw [h2]; exact HPB.out, HB2.out⟩
    case measure => simp [intOf]; omega
   ·obtain rfl : R = true := by
     rw [<- HR.out, List.any_eq_true]
     obtain ⟨h1, h2⟩ := HY.out
     exact ⟨y, by rw [<- h2]; exact List.getElem_mem _, HPB.out⟩
    go_wp2
    go_ret
    exact ⟨⟨_, rfl, decide_eq_true (by omega)⟩, HB2.out⟩
  ·obtain rfl : k = m := by omega
   obtain rfl : R = false := (by
    rw [<- HR.out, List.any_eq_false]
    intro y hy
    obtain ⟨j, hj, rfl⟩ := List.getElem_of_mem hy
    have hjk : j < k := by rw [<- HXL.out, HTW.out.len]; exact hj
    simp [HPRE.out j hj hjk])
   clear hb
   go_wp2
   go_ret
   exact ⟨⟨_, rfl, by decide⟩, HB.out⟩
theorem idx_else (bc : Nat) (P : List Nat × Int -> Bool) (A : Option Addr) (m c : Nat) (ws : List (List Nat × Int)) (w : World) (hl : LinesV w w.heap.size A m ws) (hm : m <= 1073741824) (hmc : m <= c) (hc : c <= 9223372036854775807)
  (CL : ∀ (x : LnR) (y : List Nat × Int) (W : World), Below w.heap.size w W -> qcf_ W W.heap.size x y -> y ∈ ws -> Calls Tryz.prog 124 #[.pointer (some ⟨bc, 0, none⟩), qcm_ x] W fun e w' => e = .returned (.bool (P y)) /\ Below W.heap.size W w') :
  Calls Tryz.prog 151 #[.slice A m c, .func (.func 124) #[.pointer (some ⟨bc, 0, none⟩)] #[]] w fun e w' => (∃ r : Int, e = .returned (.int .i64 r) /\ decide (0 <= r) = ws.any P) /\ Below w.heap.size w w' := by
 obtain ⟨xs, hcel, htwo⟩ := hl
 have hxl : xs.length = m := by have := hcel.1; rwa [List.length_map] at this
 have HTW := Lib.hid htwo
 have HCE := Lib.hid hcel
 have HCL := Lib.hid CL
 have HXL := Lib.hid hxl
 obtain ⟨R, hR⟩ : ∃ R, ws.any P = R := ⟨_, rfl⟩
 have HR := Lib.hid hR
 rw [hR]
 clear hcel htwo CL hxl hR
 go_enter Tryz.func151, Tryz.ntmps151
 go_wp2_with fail
 go_loopw [8] (fun i wr => ∃ k : Nat, k <= m /\ i = .int .i64 k /\ (∀ j (h : j < ws.length), j < k -> P ws[j] = false) /\ Below w.heap.size w wr) (fun i _ => m - (intOf i).toNat)
 case atStart => exact ⟨0, Nat.zero_le _, rfl, fun j h h0 => absurd h0 (Nat.not_lt_zero _), Below.refl _ _⟩
 case round =>
  obtain ⟨k, hk, rfl, hpre, hb⟩ := hrel
  have HPRE := Lib.hid hpre
  have HB := Lib.hid hb
  clear hpre
  by_cases hlt : k < m
  ·have hkx : k < xs.length := by rw [HXL.out]; exact hlt
   obtain ⟨hkw, hsh⟩ := qpm_ HTW.out hkx
   obtain ⟨b, o, rfl, _, hcc⟩ := (HCE.out.on hb).2 (by omega)
   have hkm : k < (xs.map LnR.two).length := by rw [List.length_map]; exact hkx
   obtain ⟨d0, d1⟩ := hcc k hkm
   simp only [List.getElem_map] at d0 d1
   have hsh2 : qcf_ wr wr.heap.size xs[k] ws[k] := ⟨hsh.1.on hb, hsh.2⟩
   have CX := Lib.hid (HCL.out xs[k] ws[k] wr hb hsh2 (List.getElem_mem _))
   obtain ⟨x, hx⟩ : ∃ x, xs[k] = x := ⟨_, rfl⟩
   obtain ⟨y, hy⟩ : ∃ y, ws[k] = y := ⟨_, rfl⟩
   rw [hx, hy] at CX
   rw [hx] at d0 d1
   have HY := Lib.hid (Exists.intro hkw hy : ∃ h : k < ws.length, ws[k] = y)
   obtain ⟨PB, hPB⟩ : ∃ PB, P y = PB := ⟨_, rfl⟩
   have HPB := Lib.hid hPB
   rw [hPB] at CX
   clear hcc hsh hsh2 hkm hx hkx hy hkw hb hPB
   obtain ⟨xA, xn, xc, xl⟩ := x
   simp only [LnR.two, qcm_] at CX d0 d1
   go_wp2_with fail
   refine CX.out.mono ?_
   rintro e w2 ⟨rfl, hb⟩
   have HB2 := Lib.hid (HB.out.trans (hb.mono HB.out.size))
   clear hb CX d0 d1
   cases PB
   ·go_wp2
    go_roundw
    case rel => exact ⟨k + 1, by omega, by go_num, fun j hj hjk => by
     rcases Nat.lt_or_ge j k with h | h
     ·exact HPRE.out j hj h
     ·obtain rfl : j = k := by omega
      obtain ⟨h1, h2⟩ := HY.out
      rw [h2]; exact HPB.out, HB2.out⟩
    case measure => simp [intOf]; omega
   ·obtain rfl : R = true := by
     rw [<- HR.out, List.any_eq_true]
     obtain ⟨h1, h2⟩ := HY.out
     exact ⟨y, by rw [<- h2]; exact List.getElem_mem _, HPB.out⟩
    go_wp2
    go_ret
    exact ⟨⟨_, rfl, decide_eq_true (by omega)⟩, HB2.out⟩
  ·obtain rfl : k = m := by omega
   obtain rfl : R = false := (by
    rw [<- HR.out, List.any_eq_false]
    intro y hy
    obtain ⟨j, hj, rfl⟩ := List.getElem_of_mem hy
    have hjk : j < k := by rw [<- HXL.out, HTW.out.len]; exact hj
    simp [HPRE.out j hj hjk])
   clear hb
   go_wp2
   go_ret
   exact ⟨⟨_, rfl, by decide⟩, HB.out⟩
theorem has_range (bc : Nat) (P : List Nat × Int -> Bool) (A : Option Addr) (m c : Nat) (ws : List (List Nat × Int)) (w : World) (hl : LinesV w w.heap.size A m ws) (hm : m <= 1073741824) (hmc : m <= c) (hc : c <= 9223372036854775807)
  (CL : ∀ (x : LnR) (y : List Nat × Int) (W : World), Below w.heap.size w W -> qcf_ W W.heap.size x y -> y ∈ ws -> Calls Tryz.prog 123 #[qcm_ x] W fun e w' => e = .returned (.bool (P y)) /\ Below W.heap.size W w') :
  Calls Tryz.prog 122 #[.slice A m c, .func (.func 123) #[] #[]] w fun e w' => e = .returned (.bool (ws.any P)) /\ Below w.heap.size w w' := by
 have CI := Lib.hid (idx_range bc P A m c ws w hl hm hmc hc CL)
 obtain ⟨R, hR⟩ : ∃ R, ws.any P = R := ⟨_, rfl⟩
 rw [hR] at CI ⊢
 clear hl hm hmc hc CL hR
 go_enter Tryz.func122, Tryz.ntmps122
 go_wp2_with fail
 refine CI.out.mono ?_
 rintro e w1 ⟨⟨r, rfl, hr⟩, hb⟩
 have HB := Lib.hid hb
 have HRR := Lib.hid hr
 clear hb CI
 have hq : decide (r >= 0) = R := HRR.out
 go_wp2
 go_ret
 exact ⟨by first | rfl | rw [hq] | simp [hq], HB.out⟩
theorem has_else (bc : Nat) (P : List Nat × Int -> Bool) (A : Option Addr) (m c : Nat) (ws : List (List Nat × Int)) (w : World) (hl : LinesV w w.heap.size A m ws) (hm : m <= 1073741824) (hmc : m <= c) (hc : c <= 9223372036854775807)
  (CL : ∀ (x : LnR) (y : List Nat × Int) (W : World), Below w.heap.size w W -> qcf_ W W.heap.size x y -> y ∈ ws -> Calls Tryz.prog 124 #[.pointer (some ⟨bc, 0, none⟩), qcm_ x] W fun e w' => e = .returned (.bool (P y)) /\ Below W.heap.size W w') :
  Calls Tryz.prog 122 #[.slice A m c, .func (.func 124) #[.pointer (some ⟨bc, 0, none⟩)] #[]] w fun e w' => e = .returned (.bool (ws.any P)) /\ Below w.heap.size w w' := by
 have CI := Lib.hid (idx_else bc P A m c ws w hl hm hmc hc CL)
 obtain ⟨R, hR⟩ : ∃ R, ws.any P = R := ⟨_, rfl⟩
 rw [hR] at CI ⊢
 clear hl hm hmc hc CL hR
 go_enter Tryz.func122, Tryz.ntmps122
 go_wp2_with fail
 refine CI.out.mono ?_
 rintro e w1 ⟨⟨r, rfl, hr⟩, hb⟩
 have HB := Lib.hid hb
 have HRR := Lib.hid hr
 clear hb CI
 have hq : decide (r >= 0) = R := HRR.out
 go_wp2
 go_ret
 exact ⟨by first | rfl | rw [hq] | simp [hq], HB.out⟩
noncomputable def elseB (R : Nd) (p : List Nat) : Bool := match qaj_ R p with
 | none => true
 | some y => decide ((kindP y).1 ≠ 7) || !(enL (wayN R p) true).1
theorem range_any (x : LnR) (w : World) : Calls Tryz.prog 123 #[qcm_ x] w fun e w' => e = .returned (.bool (decide (32 <= x.l))) /\ Below w.heap.size w w' := by
 obtain ⟨A, n, c, l⟩ := x
 have HB := Lib.hid ((Below.refl w.heap.size w).alloc (Nat.le_refl _) (.cells #[.slice A n c, .int .u32 l] 127))
 simp only [qcm_]
 go_enter Tryz.func123, Tryz.ntmps123
 by_cases h : 32 <= l
 ·rw [decide_eq_true h]
  go_wp2
  go_ret
  exact ⟨rfl, HB.out⟩
 ·rw [decide_eq_false h]
  go_wp2
  go_ret
  exact ⟨rfl, HB.out⟩
theorem else_any (t : Tr) (bc : Nat) (A0 : Option Addr) (n0 c0 : Nat) (x : LnR) (p : List Nat) (y : Nd) (w : World) (hbox : w.heap[bc]? = some (chkO t A0 n0 c0)) (hin : t.In w w.heap.size) (hck : qb5_ t = 0) (hh : heftN t.root <= 134217728) (hy : qaj_ t.root p = some y) (hp : Cel w w.heap.size x.A x.n (ints p)) (hnc : x.n <= x.c) (hc : x.c <= 9223372036854775807) :
  Calls Tryz.prog 124 #[.pointer (some ⟨bc, 0, none⟩), qcm_ x] w fun e w' => e = .returned (.bool (elseB t.root p)) /\ Below w.heap.size w w' := by
 obtain ⟨A, n, c, l⟩ := x
 have C1 := Lib.hid (fun W (hW : Below w.heap.size w W) => of_any t p A n c y W (hin.on hW) hck hh hy (hp.on hW) hnc hc)
 have C2 := Lib.hid (fun W (hW : Below w.heap.size w W) => qmm_ t p A n c y W (hin.on hW) hck hh hy (hp.on hW) hnc hc)
 obtain ⟨B, hB⟩ : ∃ B, elseB t.root p = B := ⟨_, rfl⟩
 rw [hB]
 unfold elseB at hB
 rw [hy] at hB
 obtain ⟨K, hK⟩ : ∃ K, kindP y = K := ⟨_, rfl⟩
 rw [hK] at C1
 simp only [hK] at hB
 obtain ⟨k1, k2, k3⟩ := K
 have HBV := Lib.hid hB
 have hlb : bc < w.heap.size := (Array.getElem?_eq_some_iff.1 hbox).1
 generalize (enL (wayN t.root p) true).1 = e1 at *
 generalize (enL (wayN t.root p) true).2 = e2 at *
 have CB := Lib.hid (fun W (hW : Below w.heap.size w W) => qbl_ ((hW.block bc hlb).trans hbox))
 clear hbox hin hck hh hy hp hnc hc hB hlb hK
 obtain ⟨boot, ra, rc, rs, ⟨nm, pa, pc, ps, ka, kc, ks⟩⟩ := t
 simp only [Tr.val, Tr.rv, Nd.val, Nd.pv, Nd.kv, Nd.name, Nd.pa, Nd.pc, Nd.props, Nd.ka, Nd.kc, Nd.kids, qcm_] at C1 C2 CB ⊢
 have HB0 := Lib.hid ((Below.refl w.heap.size w).alloc (Nat.le_refl _) (.cells #[.slice A n c, .int .u32 l] 127))
 obtain ⟨V, hV⟩ : ∃ V, w.alloc (.cells #[.slice A n c, .int .u32 l] 127) = V := ⟨_, rfl⟩
 have HLN : Hid (∀ W, Below V.heap.size V W -> W.cell? ⟨w.heap.size, 0, none⟩ = some (.slice A n c)) := Lib.hid (fun W hW => by
  rw [hW.cell (p := ⟨w.heap.size, 0, none⟩) (by rw [<- hV]; simp), <- hV]
  exact World.cell?_alloc_new _ _ _ _)
 rw [hV] at HB0
 have HS : Hid (∀ W, Below V.heap.size V W -> (W.cell? ⟨bc, 0, none⟩ = some (.int .u32 boot) /\ W.cell? ⟨bc, 1, none⟩ = some (.slice ra rs.length rc) /\ W.cell? ⟨bc, 2, none⟩ = some (.string nm) /\ W.cell? ⟨bc, 3, none⟩ = some (.slice pa ps.length pc) /\ W.cell? ⟨bc, 4, none⟩ = some (.slice ka ks.length kc)) /\ W.cell? ⟨w.heap.size, 0, none⟩ = some (.slice A n c)) := Lib.hid (fun W hW => by
  obtain ⟨q0, q1, q2, q3, q4, _⟩ := CB.out W (HB0.out.trans (hW.mono HB0.out.size))
  exact ⟨⟨q0, q1, q2, q3, q4⟩, HLN.out W hW⟩)
 have HR := Lib.hid (Below.refl V.heap.size V)
 clear CB HLN
 go_enter Tryz.func124, Tryz.ntmps124
 go_wp2_with fail
 refine wp_region_held_drew (S := fun W => (W.cell? ⟨bc, 0, none⟩ = some (.int .u32 boot) /\ W.cell? ⟨bc, 1, none⟩ = some (.slice ra rs.length rc) /\ W.cell? ⟨bc, 2, none⟩ = some (.string nm) /\ W.cell? ⟨bc, 3, none⟩ = some (.slice pa ps.length pc) /\ W.cell? ⟨bc, 4, none⟩ = some (.slice ka ks.length kc)) /\ W.cell? ⟨w.heap.size, 0, none⟩ = some (.slice A n c)) (by kernel_rfl) (HS.out _ HR.out.drew) (fun hHeld => ?_)
 refine tk 0 hHeld fun _ => ?_
 refine tk 1 hHeld fun _ => ?_
 refine tk 2 hHeld fun _ => ?_
 refine tk 3 hHeld fun _ => ?_
 refine tk 4 hHeld fun _ => ?_
 refine tk 5 hHeld fun _ => ?_
 refine qab_ 6 (by kernel_rfl) rfl (by rfl) (fun K hK => ?_)
 go_simp
 refine (C1.out _ (HB0.out.trans (HR.out.drew.mono HB0.out.size))).mono ?_
 rintro e w1 ⟨rfl, hb⟩
 have HR1 := Lib.hid (HR.out.drew.trans (hb.mono (by simp)))
 clear hb C1
 dsimp only
 refine hK.out _ _ (HS.out _ HR1.out) (fun hHeld => ?_)
 clear hK K
 refine tk 7 hHeld fun _ => ?_
 refine tk 8 hHeld fun _ => ?_
 refine tk 9 hHeld fun _ => ?_
 refine tk 10 hHeld fun _ => ?_
 refine tk 11 hHeld fun _ => ?_
 refine wpAnyH_done (by kernel_rfl) ?_ _
 clear hHeld
 go_wp2_with fail
 refine wp_region_held_drew (S := fun W => (W.cell? ⟨bc, 0, none⟩ = some (.int .u32 boot) /\ W.cell? ⟨bc, 1, none⟩ = some (.slice ra rs.length rc) /\ W.cell? ⟨bc, 2, none⟩ = some (.string nm) /\ W.cell? ⟨bc, 3, none⟩ = some (.slice pa ps.length pc) /\ W.cell? ⟨bc, 4, none⟩ = some (.slice ka ks.length kc)) /\ W.cell? ⟨w.heap.size, 0, none⟩ = some (.slice A n c)) (by kernel_rfl) (HS.out _ HR1.out.drew) (fun hHeld => ?_)
 refine tk 0 hHeld fun _ => ?_
 refine tk 1 hHeld fun _ => ?_
 refine tk 2 hHeld fun _ => ?_
 refine tk 3 hHeld fun _ => ?_
 refine tk 4 hHeld fun _ => ?_
 refine tk 5 hHeld fun _ => ?_
 refine qab_ 6 (by kernel_rfl) rfl (by rfl) (fun K hK => ?_)
 go_simp
 refine (C2.out _ (HB0.out.trans (HR1.out.drew.mono HB0.out.size))).mono ?_
 rintro e w2 ⟨rfl, hb⟩
 have HR2 := Lib.hid (HR1.out.drew.trans (hb.mono (by have := HR1.out.size; simpa using this)))
 have HF := Lib.hid (HB0.out.trans (HR2.out.mono HB0.out.size))
 clear hb C2
 dsimp only
 refine hK.out _ _ (HS.out _ HR2.out) (fun hHeld => ?_)
 clear hK K
 refine tk 7 hHeld fun _ => ?_
 refine tk 8 hHeld fun _ => ?_
 refine tk 9 hHeld fun _ => ?_
 refine tk 10 hHeld fun _ => ?_
 refine tk 11 hHeld fun _ => ?_
 refine wpAnyH_done (by kernel_rfl) ?_ _
 clear hHeld
 clear hV
 by_cases hk : k1 = 7
 ·obtain rfl : B = !e1 := by
   have := HBV.out
   rw [<- this, hk]
   simp
  subst hk
  cases e1
  all_goals
   go_wp2
   go_ret
   exact ⟨rfl, HF.out⟩
 ·have q : (k1 != 7) = true := by rw [bne_iff_ne]; exact hk
  obtain rfl : B = true := by
   have := HBV.out
   rw [<- this, decide_eq_true hk]
   rfl
  clear hk
  go_wp2
  go_ret
  exact ⟨rfl, HF.out⟩
end Go.Proofs.YtcfinbapfhhpgaaGreatDoor
