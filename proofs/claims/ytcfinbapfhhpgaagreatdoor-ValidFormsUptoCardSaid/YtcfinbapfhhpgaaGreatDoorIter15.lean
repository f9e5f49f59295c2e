/-
  Iter, part 15.
-/
import Derived.Test.YtcfinbapfhhpgaaGreatDoorIter10
import Derived.Test.YtcfinbapfhhpgaaGreatDoorIter14
import Derived.Test.YtcfinbapfhhpgaaGreatDoorIter4
import Derived.Test.YtcfinbapfhhpgaaGreatDoorBase10
import Derived.Test.YtcfinbapfhhpgaaGreatDoorIter12
import Derived.Test.YtcfinbapfhhpgaaGreatDoorIter13
import Derived.Test.YtcfinbapfhhpgaaGreatDoorIter7
import Derived.Test.YtcfinbapfhhpgaaGreatDoorIter11
namespace Go.Proofs.YtcfinbapfhhpgaaGreatDoor
open Go.RowKit
set_option linter.unusedVariables false
set_option linter.unusedSimpArgs false
set_option maxRecDepth 20000
set_option maxHeartbeats 16000000
def RootXL (lo : Nat) (w' : World) (X : Except Int (List (List Nat × Int))) (e : Ending) : Prop := match X with
 | .error er => e = .returned (.tuple #[.agg #[.slice none 0 0, .int .u32 0], .slice none 0 0, .int .i64 er])
 | .ok ws => ∃ (x : LnR) (y : List Nat × Int) (A : Option Addr) (m c : Nat), e = .returned (.tuple #[.agg #[.slice x.A x.n x.c, .int .u32 x.l], .slice A m c, .int .i64 0]) /\ ws.getLast? = some y /\ qcf_ w' w'.heap.size x y /\ LinesP0 (fun b => lo <= b) w' A m ws /\ m <= c /\ c <= 9223372036854775807
theorem qoy_ (t : Tr) (z : List Int) (A : Option Addr) (n c : Nat) (ln : Int) (w : World) (hin : t.In w w.heap.size) (hh : heftN t.root <= 134217728) (hp : Cel w w.heap.size A n (intsZ z)) (hnc : n <= c) (hc : c <= 9223372036854775807) :
  Calls Tryz.prog 121 #[t.val, .agg #[.slice A n c, .int .u32 ln]] w fun e w' => RootXL w.heap.size w' (iroot t.root z ln) e /\ Below w.heap.size w w' := by
 obtain ⟨g, hg⟩ : ∃ g, w.heap.size = g := ⟨_, rfl⟩
 obtain ⟨X, hX⟩ : ∃ X, iroot t.root z ln = X := ⟨_, rfl⟩
 have HXV := Lib.hid hX
 rw [hX]
 have HAT := Lib.hid (fun (W : World) (hW : Below w.heap.size w W) (hr : W.heap[g + 3]? = some (rbox t none 0)) => at_any t (g + 3) none 0 z A n c W hr (hin.on hW) (hp.on hW) hnc hc)
 have HWY := Lib.hid (fun (W : World) (hW : Below g w W) (hr : RdF W g (g + 3) t (fun _ => True)) (b : Nat) (zn : List Nat) (x : Nd) (hs : Spot W t.root (fun _ => True) b zn x) => qn2_ t g (g + 3) b zn x ln W hr (by have := hW.size; omega) (by rw [<- hg] at hW ⊢; exact hin.under hW) hh hs)
 have HLI := Lib.hid (fun (W : World) (b : Nat) (zn : List Nat) (x : Nd) (l : Int) (hs : Spot W t.root (fun _ => True) b zn x) => qh5_ t.root _ b zn x l W hs hh)
 have HAN := Lib.hid (fun (W : World) (A : Option Addr) (m c : Nat) (xs : List WireR) (ws : List (List Nat × Int)) h1 h2 h3 h4 h5 => qga_ t A m c xs ws W h1 h2 h3 h4 h5 hh)
 have HRD0 : Hid (∀ W : World, W.heap[g + 3]? = some (rbox t none 0) -> RdF W g (g + 3) t (fun _ => True)) := Lib.hid (fun W h => ⟨by omega, none, 0, h, fun g e => by cases e⟩)
 clear hin hp hnc hc hh hX
 obtain ⟨boot, ra, rc, rs, ⟨nm, pa, pc, ps, ka, kc, ks⟩⟩ := t
 obtain ⟨TT, hTT⟩ : ∃ TT, Tr.mk boot ra rc rs (Nd.mk nm pa pc ps ka kc ks) = TT := ⟨_, rfl⟩
 have HA4 := Lib.hid (qhz_ w (.cells #[.int .u32 boot, .slice ra rs.length rc, .string nm, .slice pa ps.length pc, .slice ka ks.length kc] 29) (.cells #[.slice A n c, .int .u32 ln] 127) (.cells #[.slice none 0 0, .int .u32 0] 127) (.cells #[.int .u32 boot, .slice ra rs.length rc, .string nm, .slice pa ps.length pc, .slice ka ks.length kc, .map none, .int .i64 0] 161))
 have hrb : (.cells #[.int .u32 boot, .slice ra rs.length rc, .string nm, .slice pa ps.length pc, .slice ka ks.length kc, .map none, .int .i64 0] 161 : Obj) = rbox TT none 0 := by rw [<- hTT]; rfl
 have hvv : Tr.val (Tr.mk boot ra rc rs (Nd.mk nm pa pc ps ka kc ks)) = .agg #[.int .u32 boot, .slice ra rs.length rc, .string nm, .slice pa ps.length pc, .slice ka ks.length kc] := rfl
 rw [hvv]
 rw [hTT] at HAT HWY HLI HAN HRD0 HXV
 have HRB := Lib.hid hrb
 have HG := Lib.hid hg
 clear hTT hvv hrb
 rw [hg] at HA4 HAT ⊢
 go_enter Tryz.func121, Tryz.ntmps121
 go_wp2_with fail
 generalize hW0 : (((w.alloc (.cells #[.int .u32 boot, .slice ra rs.length rc, .string nm, .slice pa ps.length pc, .slice ka ks.length kc] 29)).alloc (.cells #[.slice A n c, .int .u32 ln] 127)).alloc (.cells #[.slice none 0 0, .int .u32 0] 127)).alloc (.cells #[.int .u32 boot, .slice ra rs.length rc, .string nm, .slice pa ps.length pc, .slice ka ks.length kc, .map none, .int .i64 0] 161) = W0
 have A4 := HA4.out
 rw [hW0] at A4
 obtain ⟨z0, a0, a1, a2, a3, hb0⟩ := A4
 rw [HRB.out] at a3
 have HG1 := Lib.hid a1
 have HG2 := Lib.hid a2
 have HR0 := Lib.hid a3
 have HB0 := Lib.hid hb0
 have HZ0 := Lib.hid z0
 clear hW0 HA4 HRB a0 a1 a2 a3 hb0 z0
 refine (HAT.out W0 HB0.out HR0.out).mono ?_
 rintro e w1 ⟨hat, hb1⟩
 have HB1 := Lib.hid (HB0.out.trans (hb1.mono (by have := HZ0.out; omega)))
 have HG11 := Lib.hid ((hb1.block (g + 1) (by have := HZ0.out; omega)).trans HG1.out)
 have HG21 := Lib.hid ((hb1.block (g + 2) (by have := HZ0.out; omega)).trans HG2.out)
 have HR1 := Lib.hid ((hb1.block (g + 3) (by have := HZ0.out; omega)).trans HR0.out)
 have HS1 : Hid (g + 4 <= w1.heap.size) := Lib.hid (by have := HZ0.out; have := hb1.size; omega)
 clear hb1
 rcases hat with ⟨b, x, zn, rfl, hx, hz, hsp⟩ | ⟨rfl, hx⟩
 rotate_left
 ·obtain ⟨d0, d1⟩ := qaa_ HG21.out
  have f0 := Lib.frozen_of_heap HG21.out 0
  have f1 := Lib.frozen_of_heap HG21.out 1
  have HE := Lib.hid (qaa_ (qax_ HG21.out (.slice none 0 0) (.int .u32 0)))
  have HBF := Lib.hid (qal_ HB1.out (b := g + 2) (by omega) (.slice none 0 0) (.int .u32 0))
  have HX : Hid (X = .error 8) := Lib.hid (by rw [<- HXV.out, iroot, hx])
  clear hx
  go_wp2
  obtain ⟨e0, e1⟩ := HE.out
  refine bodyPost_ret (v := .tuple #[.agg #[.slice none 0 0, .int .u32 0], .slice none 0 0, .int .i64 8]) (by simp [results, Tryz.results121, go_sem, e0, e1]; try rfl) rfl ?_
  exact ⟨by (rw [HX.out]; rfl), HBF.out⟩
 have hspt : Spot w1 TT.root (fun _ => True) b zn x := hsp.sub (fun _ _ _ => trivial)
 have hXW : iways TT.root zn ln = X := by rw [<- HXV.out, iroot, hx, hz, qct_]
 have CW := HWY.out w1 HB1.out (HRD0.out w1 HR1.out) b zn x hspt
 rw [hXW] at CW
 have CW := Lib.hid CW
 obtain ⟨l0, l1⟩ := qaa_ HG11.out
 clear hsp hspt hx hz hXW
 go_wp2_with fail
 refine CW.out.mono ?_
 rintro e w2 ⟨⟨v, er, rfl, hm⟩, hrd2, htn2⟩
 have HB2 := Lib.hid (HB1.out.trans htn2.below)
 have HG22 := Lib.hid ((htn2.same (g + 2) (by have := HS1.out; omega) (by omega)).trans HG21.out)
 have HS2 : Hid (g + 4 <= w2.heap.size) := Lib.hid (Nat.le_trans HS1.out htn2.below.size)
 clear hrd2 htn2 l0 l1 CW
 cases X with
 | error e' =>
  obtain ⟨rfl, rfl⟩ := hm
  have he : er ≠ 0 := qkq_ HXV.out
  have q1 : (er != 0) = true := by rw [bne_iff_ne]; exact he
  obtain ⟨d0, d1⟩ := qaa_ HG22.out
  have f0 := Lib.frozen_of_heap HG22.out 0
  have f1 := Lib.frozen_of_heap HG22.out 1
  have HE := Lib.hid (qaa_ (qax_ HG22.out (.slice none 0 0) (.int .u32 0)))
  have HBF := Lib.hid (qal_ HB2.out (b := g + 2) (by omega) (.slice none 0 0) (.int .u32 0))
  clear he
  go_wp2
  obtain ⟨e0, e1⟩ := HE.out
  refine bodyPost_ret (v := .tuple #[.agg #[.slice none 0 0, .int .u32 0], .slice none 0 0, .int .i64 er]) (by simp [results, Tryz.results121, go_sem, e0, e1]; try rfl) rfl ?_
  exact ⟨rfl, HBF.out⟩
 | ok ws =>
  obtain ⟨rfl, xs, hrow, hwi⟩ := hm
  obtain ⟨A1, c1, rfl, hcel, h11, h12, _⟩ := qe6_ hrow
  obtain ⟨hw1, hw2⟩ := qkl_ HXV.out
  have hxw := hwi.len
  have hml : xs.length - 1 < xs.length := by omega
  obtain ⟨ab, ao, eA, _, hcc⟩ := hcel.2 (by omega)
  obtain ⟨d0, d1⟩ := hcc (xs.length - 1) (by rw [List.length_map]; exact hml)
  rw [List.getElem_map] at d0 d1
  obtain ⟨⟨x5, hs5⟩, hl5⟩ := Two.get hwi (xs.length - 1) hml (by omega)
  obtain ⟨y, hy⟩ : ∃ y, xs[xs.length - 1] = y := ⟨_, rfl⟩
  obtain ⟨zz, hzz⟩ : ∃ zz, ws[xs.length - 1]'(by omega) = zz := ⟨_, rfl⟩
  have HLAST : Hid (ws.getLast? = some zz) := Lib.hid (by
   rw [List.getLast?_eq_getElem?, <- hxw, List.getElem?_eq_getElem (by omega), hzz])
  rw [hy] at d0 d1
  rw [hy, hzz] at hl5 hs5
  obtain ⟨yb, yl⟩ := y
  obtain ⟨zl, ll⟩ := zz
  simp only [WireR.two] at d0 d1 hl5 hs5
  subst hl5
  have CL := Lib.hid (HLI.out w2 yb zl x5 yl hs5)
  have CA := Lib.hid (fun (W : World) (hW : Below w2.heap.size w2 W) => HAN.out W A1 xs.length c1 xs ws (hcel.on hW) (Wires.sp hwi (.of_below hW)) (by omega) h11 h12)
  obtain ⟨m, hm⟩ : ∃ m, xs.length = m + 1 := ⟨xs.length - 1, by omega⟩
  have hm17 : m <= 16 := by omega
  rw [hm, Nat.add_sub_cancel] at d0 d1
  rw [hm] at CA ⊢
  obtain rfl : A1 = _ := eA
  have q3 : IntKind.i64.wrap (((m + 1 : Nat) : Int) - 1) = (m : Int) := by rw [IntWalk.i64_in _ (by omega)]; omega
  have q4 : ((m : Int)) < ((m + 1 : Nat) : Int) := by omega
  have HM17 := Lib.hid hm17
  clear hrow hcel hwi hw1 hw2 hxw hml hcc hy hzz hs5 hm h11 h12
  go_wp2_with fail
  refine CL.out.mono ?_
  rintro e w4 ⟨⟨A4, c4, rfl, hcel4, h41, h42, hfr4⟩, hb4⟩
  have HB4 := Lib.hid (HB2.out.trans (hb4.mono (by have := HS2.out; omega)))
  have CA4 := Lib.hid (CA.out w4 hb4)
  have HG24 := Lib.hid ((hb4.block (g + 2) (by have := HS2.out; omega)).trans HG22.out)
  have HS4 : Hid (g + 4 <= w4.heap.size) := Lib.hid (Nat.le_trans HS2.out hb4.size)
  have HC4 := Lib.hid (And.intro hcel4 (And.intro h41 (And.intro h42 hfr4)))
  clear hcel4 h41 h42 hfr4 hb4 CL CA d0 d1
  go_wp2_with fail
  refine CA4.out.mono ?_
  rintro e w5 ⟨rfl, hll, hb5⟩
  have hg5 := (hb5.block (g + 2) (by have := HS4.out; omega)).trans HG24.out
  obtain ⟨d0, d1⟩ := qaa_ hg5
  have f0 := Lib.frozen_of_heap hg5 0
  have f1 := Lib.frozen_of_heap hg5 1
  have HE := Lib.hid (qaa_ (qax_ hg5 (.slice A4 zl.length c4) (.int .u32 yl)))
  have HBF := Lib.hid (qal_ (HB4.out.trans (hb5.mono (by have := HS4.out; omega))) (b := g + 2) (by omega) (.slice A4 zl.length c4) (.int .u32 yl))
  have ho : ∀ k, k ≠ g + 2 -> ((w5.setCell ⟨g + 2, 0, none⟩ (.slice A4 zl.length c4)).setCell ⟨g + 2, 1, none⟩ (.int .u32 yl)).heap[k]? = w5.heap[k]? := fun k hk => qay_ w5 hk _ _
  have HLL := Lib.hid (LinesP0.mono (Q := fun b => g <= b) (LinesL.p (hll.keep (w' := (w5.setCell ⟨g + 2, 0, none⟩ (.slice A4 zl.length c4)).setCell ⟨g + 2, 1, none⟩ (.int .u32 yl)) (by rw [qcl_]; exact Nat.le_refl _) (fun k hk _ => ho k (by have := HS4.out; omega)))) (fun b _ hb => by have := HS4.out; omega))
  have HCF := Lib.hid (qko_ (lo := w2.heap.size) (w' := (w5.setCell ⟨g + 2, 0, none⟩ (.slice A4 zl.length c4)).setCell ⟨g + 2, 1, none⟩ (.int .u32 yl)) (HC4.out.1.on hb5) HC4.out.2.2.2 (by rw [qcl_]; exact Nat.le_refl _) (fun k hk _ => ho k (by have := HS2.out; omega)))
  clear hll hb5 hg5 ho CA4
  go_wp2
  obtain ⟨e0, e1⟩ := HE.out
  refine bodyPost_ret (v := .tuple #[.agg #[.slice A4 zl.length c4, .int .u32 yl], .slice (some ⟨w4.heap.size, 0, none⟩) (m + 1) (m + 1), .int .i64 0]) (by simp [results, Tryz.results121, go_sem, e0, e1]; try rfl) rfl ?_
  exact ⟨⟨⟨A4, zl.length, c4, yl⟩, (zl, yl), _, m + 1, m + 1, rfl, HLAST.out, ⟨HCF.out, HC4.out.2.1, HC4.out.2.2.1, rfl⟩, HLL.out, Nat.le_refl _, by have := HM17.out; omega⟩, HBF.out⟩
theorem qh3_ {R : Nd} : ∀ {k : Nat} {p : List Nat} {l : Int} {q : List Nat × Int}, qa6_ R k p l = .ok q -> ∃ x, qaj_ R q.1 = some x
 | 0, p, l, q, h => by cases h
 | k + 1, p, l, q, h => by
  rw [qa6_] at h
  cases hn : qaj_ R p with
  | none => rw [hn] at h; cases h
  | some x =>
   rw [hn] at h
   simp only at h
   split at h
   ·cases h
    exact ⟨x, hn⟩
   ·split at h
    ·cases h
    ·exact qh3_ h
theorem qlh_ {R : Nd} : ∀ {k : Nat} {acc : List (List Nat × Int)} {c : List Nat × Int} {ws : List (List Nat × Int)}, iway R k acc c = .ok ws -> (∀ m ∈ acc, ∃ x, qaj_ R m.1 = some x) -> ∀ m ∈ ws, ∃ x, qaj_ R m.1 = some x
 | 0, acc, c, ws, h, _, m, hm => by cases h
 | k + 1, acc, c, ws, h, ha, m, hm => by
  rw [iway] at h
  split at h
  ·cases h
  ·cases h
   exact ha m hm
  ·split at h
   ·cases h
   ·rename_i c' hc'
    refine qlh_ h (fun m hm => ?_) m hm
    rcases List.mem_append.1 hm with h1 | h1
    ·exact ha m h1
    ·rw [List.mem_singleton.1 h1]
     exact qh3_ hc'
theorem qpj_ {R : Nd} {z : List Int} {l : Int} {ws : List (List Nat × Int)} (h : iroot R z l = .ok ws) : ∀ m ∈ ws, ∃ x, qaj_ R m.1 = some x := by
 unfold iroot at h
 split at h
 ·cases h
 ·unfold iways at h
  split at h
  ·cases h
  ·rename_i c hc
   exact qlh_ h (fun m hm => by rw [List.mem_singleton.1 hm]; exact qh3_ hc)
noncomputable def lineX (R : Nd) : Except Int (List (List Nat × Int)) -> Int
 | .error er => er
 | .ok ws => if ws.any (fun y => decide (32 <= y.2)) = true then 12 else if ws.any (fun y => elseB R y.1) = true then 15 else 0
noncomputable def lineP (R : Nd) (p : List Nat) (ln : Int) : Int := lineX R (iroot R (p.map Int.ofNat) ln)
def RO (lo : Nat) (W : World) (X : Except Int (List (List Nat × Int))) (A : Option Addr) (m c : Nat) (er : Int) : Prop := match X with
 | .error e' => er = e'
 | .ok ws => er = 0 /\ LinesP0 (fun b => lo <= b) W A m ws /\ m <= c /\ c <= 9223372036854775807
theorem RootXL.out {lo : Nat} {W : World} {X : Except Int (List (List Nat × Int))} {e : Ending} (h : RootXL lo W X e) : ∃ (A : Option Addr) (n c : Nat) (l : Int) (A2 : Option Addr) (m2 c2 : Nat) (er : Int), e = .returned (.tuple #[.agg #[.slice A n c, .int .u32 l], .slice A2 m2 c2, .int .i64 er]) /\ RO lo W X A2 m2 c2 er := by
 cases X with
 | error e' => exact ⟨none, 0, 0, 0, none, 0, 0, e', h, rfl⟩
 | ok ws =>
  obtain ⟨x, y, A, m, c, rfl, _, _, h1, h2, h3⟩ := h
  exact ⟨_, _, _, _, A, m, c, 0, rfl, rfl, h1, h2, h3⟩
theorem RO.keep {lo lo' : Nat} {W W' : World} {X : Except Int (List (List Nat × Int))} {A : Option Addr} {m c : Nat} {er : Int} (h : RO lo W X A m c er) (hl : lo' <= lo) (hs : W.heap.size <= W'.heap.size) (ho : ∀ k, lo <= k -> k < W.heap.size -> W'.heap[k]? = W.heap[k]?) : RO lo' W' X A m c er := by
 cases X with
 | error e' => exact h
 | ok ws => exact ⟨h.1, (h.2.1.keep hs ho).mono (fun b _ hb => Nat.le_trans hl hb), h.2.2⟩
theorem qpg_ (t : Tr) (bc : Nat) (A0 : Option Addr) (n0 c0 : Nat) (x : LnR) (y : List Nat × Int) (w : World) (hbox : w.heap[bc]? = some (chkO t A0 n0 c0)) (hin : t.In w w.heap.size) (hck : qb5_ t = 0) (hh : heftN t.root <= 134217728) (hs : qcf_ w w.heap.size x y) :
  Calls Tryz.prog 80 #[.pointer (some ⟨bc, 0, none⟩), qcm_ x] w fun e w' => e = .returned (.int .i64 (lineP t.root y.1 y.2)) /\ Below w.heap.size w w' := by
 obtain ⟨A, n, c, l⟩ := x
 obtain ⟨p, ln⟩ := y
 obtain ⟨hcel, hnc, hc, hl⟩ := hs
 obtain rfl : l = ln := hl
 simp only at hcel hnc hc
 rw [qf3_] at hcel
 have C1 := Lib.hid (fun W (hW : Below w.heap.size w W) => qoy_ t (p.map Int.ofNat) A n c l W (hin.on hW) hh (hcel.on hW) hnc hc)
 have hlb : bc < w.heap.size := (Array.getElem?_eq_some_iff.1 hbox).1
 obtain ⟨X, hX⟩ : ∃ X, iroot t.root (p.map Int.ofNat) l = X := ⟨_, rfl⟩
 obtain ⟨L, hL⟩ : ∃ L, lineP t.root p l = L := ⟨_, rfl⟩
 have HLP : Hid (lineX t.root X = L) := Lib.hid (by rw [<- hL, lineP, hX])
 have HNE : Hid (∀ er, X = .error er -> er ≠ 0) := Lib.hid (fun er h => qkq_ (hX.trans h))
 have HCK1 := Lib.hid (fun (ws : List (List Nat × Int)) (hws : X = .ok ws) (A2 : Option Addr) (m2 c2 : Nat) (W : World) (hW : Below w.heap.size w W) (hl : LinesV W W.heap.size A2 m2 ws) h1 h2 h3 => has_range bc (fun y => decide (32 <= y.2)) A2 m2 c2 ws W hl h1 h2 h3 (fun x y U hU hs hy => (range_any x U).mono (fun e w' ⟨a, b⟩ => ⟨by rw [a, hs.2.2.2], b⟩)))
 have HCK2 := Lib.hid (fun (ws : List (List Nat × Int)) (hws : X = .ok ws) (A2 : Option Addr) (m2 c2 : Nat) (W : World) (hW : Below w.heap.size w W) (hl : LinesV W W.heap.size A2 m2 ws) h1 h2 h3 => has_else bc (fun y => elseB t.root y.1) A2 m2 c2 ws W hl h1 h2 h3 (fun x y U hU hs hy => by
  obtain ⟨nd, hnd⟩ := qpj_ (hX.trans hws) y hy
  have hWU : Below w.heap.size w U := hW.trans (hU.mono hW.size)
  exact else_any t bc A0 n0 c0 x y.1 nd U ((hWU.block bc hlb).trans hbox) (hin.on hWU) hck hh hnd hs.1 hs.2.1 hs.2.2.1))
 have HM17 : Hid (∀ ws, X = .ok ws -> ws.length <= 17) := Lib.hid (fun ws h => (qkl_ (hX.trans h)).2)
 have CB := Lib.hid (fun W (hW : Below w.heap.size w W) => qbl_ ((hW.block bc hlb).trans hbox))
 rw [hX] at C1
 show Calls _ _ _ _ fun e w' => e = .returned (.int .i64 (lineP t.root p l)) /\ Below w.heap.size w w'
 rw [hL]
 clear hbox hin hck hh hcel hnc hc hlb hX hL
 obtain ⟨boot, ra, rc, rs, ⟨nm, pa, pc, ps, ka, kc, ks⟩⟩ := t
 simp only [Tr.val, Tr.rv, Nd.val, Nd.pv, Nd.kv, Nd.name, Nd.pa, Nd.pc, Nd.props, Nd.ka, Nd.kc, Nd.kids, qcm_] at C1 CB ⊢
 have HB0 := Lib.hid ((Below.refl w.heap.size w).alloc (Nat.le_refl _) (.cells #[.slice A n c, .int .u32 l] 127))
 obtain ⟨V, hV⟩ : ∃ V, w.alloc (.cells #[.slice A n c, .int .u32 l] 127) = V := ⟨_, rfl⟩
 have HLN : Hid (∀ W, Below V.heap.size V W -> W.cell? ⟨w.heap.size, 0, none⟩ = some (.slice A n c) /\ W.cell? ⟨w.heap.size, 1, none⟩ = some (.int .u32 l)) := Lib.hid (fun W hW => by
  rw [hW.cell (p := ⟨w.heap.size, 0, none⟩) (by rw [<- hV]; simp), hW.cell (p := ⟨w.heap.size, 1, none⟩) (by rw [<- hV]; simp), <- hV]
  exact ⟨World.cell?_alloc_new _ _ _ _, World.cell?_alloc_new _ _ _ _⟩)
 rw [hV] at HB0
 have HS : Hid (∀ W, Below V.heap.size V W -> (W.cell? ⟨bc, 0, none⟩ = some (.int .u32 boot) /\ W.cell? ⟨bc, 1, none⟩ = some (.slice ra rs.length rc) /\ W.cell? ⟨bc, 2, none⟩ = some (.string nm) /\ W.cell? ⟨bc, 3, none⟩ = some (.slice pa ps.length pc) /\ W.cell? ⟨bc, 4, none⟩ = some (.slice ka ks.length kc)) /\ W.cell? ⟨w.heap.size, 0, none⟩ = some (.slice A n c) /\ W.cell? ⟨w.heap.size, 1, none⟩ = some (.int .u32 l)) := Lib.hid (fun W hW => by
  obtain ⟨q0, q1, q2, q3, q4, _⟩ := CB.out W (HB0.out.trans (hW.mono HB0.out.size))
  exact ⟨⟨q0, q1, q2, q3, q4⟩, HLN.out W hW⟩)
 have HR := Lib.hid (Below.refl V.heap.size V)
 clear CB HLN
 go_enter Tryz.func80, Tryz.ntmps80
 go_wp2_with fail
 apply cutw
 case h =>
  intro key1
  refine wp_region_held_drew (S := fun W => (W.cell? ⟨bc, 0, none⟩ = some (.int .u32 boot) /\ W.cell? ⟨bc, 1, none⟩ = some (.slice ra rs.length rc) /\ W.cell? ⟨bc, 2, none⟩ = some (.string nm) /\ W.cell? ⟨bc, 3, none⟩ = some (.slice pa ps.length pc) /\ W.cell? ⟨bc, 4, none⟩ = some (.slice ka ks.length kc)) /\ W.cell? ⟨w.heap.size, 0, none⟩ = some (.slice A n c) /\ W.cell? ⟨w.heap.size, 1, none⟩ = some (.int .u32 l)) (by kernel_rfl) (HS.out _ HR.out.drew) (fun hHeld => ?_)
  refine tk 0 hHeld fun _ => ?_
  refine tk 1 hHeld fun _ => ?_
  refine tk 2 hHeld fun _ => ?_
  refine tk 3 hHeld fun _ => ?_
  refine tk 4 hHeld fun _ => ?_
  refine qfs_ 5 10 (by kernel_rfl) rfl rfl (by rfl) (by rfl) (fun K hK => ?_) (fun K hK => ?_)
  ·go_simp
   refine (C1.out _ (HB0.out.trans (HR.out.drew.mono HB0.out.size))).mono ?_
   rintro e w2 ⟨hx, hb2⟩
   obtain ⟨A1, n1, c1, l1, A2, m2, c2, er, rfl, hok⟩ := hx.out
   have HD2 := Lib.hid (HR.out.drew.trans (hb2.mono (by simp)))
   have HOK : Hid (RO V.heap.size w2 X A2 m2 c2 er) := Lib.hid (hok.keep (Nat.le_of_eq (by simp)) (Nat.le_refl _) (fun k _ _ => rfl))
   clear hx hok hb2
   dsimp only
   refine hK.out _ _ (HS.out _ HD2.out) (fun hHeld => ?_)
   clear hK K
   refine tk 6 hHeld fun _ => ?_
   refine tk 7 hHeld fun _ => ?_
   refine tk 8 hHeld fun _ => ?_
   refine tk 9 hHeld fun _ => ?_
   refine qab_ 10 (by kernel_rfl) rfl (by rfl) (fun K hK => ?_)
   go_simp
   refine hK.out _ _ (HS.out _ (HD2.out.alloc (by have := HD2.out.size; simpa using this) _)) (fun hHeld => ?_)
   clear hK K
   refine qab_ 11 (by kernel_rfl) rfl (by rfl) (fun K hK => ?_)
   go_simp
   have H10 := Lib.hid (HD2.out.alloc (by have := HD2.out.size; simpa using this) (.cells #[.slice A1 n1 c1, .int .u32 l1] 127))
   refine hK.out _ _ (HS.out _ H10.out) (fun hHeld => ?_)
   clear hK K
   refine tk 12 hHeld fun _ => ?_
   refine tk 13 hHeld fun _ => ?_
   refine wpAnyH_done (by kernel_rfl) ?_ _
   clear hHeld
   have hq1 := HOK.out.keep (Nat.le_refl _) ((Below.refl _ w2).alloc (Nat.le_refl _) (.cells #[.slice A1 n1 c1, .int .u32 l1] 127)).size (fun k _ hk => ((Below.refl _ w2).alloc (Nat.le_refl _) (.cells #[.slice A1 n1 c1, .int .u32 l1] 127)).block k hk)
   have hq2 := H10.out
   clear H10 HOK HD2
   generalize hU : w2.alloc (.cells #[.slice A1 n1 c1, .int .u32 l1] 127) = U at hq1 hq2 ⊢
   generalize hgb : w2.heap.size = gb
   clear hU hgb
   generalize Value.agg #[.slice A1 n1 c1, .int .u32 l1] = v1
   revert hq2 hq1
   revert U gb v1 A2 m2 c2 er
   exact key1
  ·go_simp
   have HZ1 := Lib.hid ((HR.out.drew).alloc (by simp) (.cells #[.slice none 0 0, .int .u32 0] 127))
   refine hK.out _ _ (HS.out _ HZ1.out) (fun hHeld => ?_)
   clear hK K
   refine qab_ 5 (by kernel_rfl) rfl (by rfl) (fun K hK => ?_)
   go_simp
   refine (C1.out _ (HB0.out.trans (HZ1.out.mono HB0.out.size))).mono ?_
   rintro e w2 ⟨hx, hb2⟩
   obtain ⟨A1, n1, c1, l1, A2, m2, c2, er, rfl, hok⟩ := hx.out
   have HD2 := Lib.hid (HZ1.out.trans (hb2.mono (by simp)))
   have hz2 : w2.heap[V.heap.size]? = some (.cells #[.slice none 0 0, .int .u32 0] 127 (0, 0)) := (hb2.block V.heap.size (by simp)).trans (heap_alloc_new V.drew _)
   have HOK := Lib.hid hok
   clear hx hok hb2
   dsimp only
   refine hK.out _ _ (HS.out _ HD2.out) (fun hHeld => ?_)
   clear hK K
   refine tk 6 hHeld fun _ => ?_
   refine tk 7 hHeld fun _ => ?_
   refine tk 8 hHeld fun _ => ?_
   refine tk 9 hHeld fun _ => ?_
   have y0 : w2.cell? ⟨V.heap.size, 0, none⟩ = some (.slice none 0 0) := by rw [Lib.cell_of_heap hz2]; rfl
   have y1 : w2.cell? ⟨V.heap.size, 1, none⟩ = some (.int .u32 0) := by rw [Lib.cell_of_heap hz2]; rfl
   have f0 := Lib.frozen_of_heap hz2 0
   have f1 := Lib.frozen_of_heap hz2 1
   refine qab_ 11 (by kernel_rfl) rfl (by rfl) (fun K hK => ?_)
   go_simp
   have H10 := Lib.hid (qal_ HD2.out (b := V.heap.size) (Nat.le_refl _) (.slice A1 n1 c1) (.int .u32 l1))
   refine hK.out _ _ (HS.out _ H10.out) (fun hHeld => ?_)
   clear hK K
   refine tk 12 hHeld fun _ => ?_
   refine tk 13 hHeld fun _ => ?_
   refine wpAnyH_done (by kernel_rfl) ?_ _
   clear hHeld
   have hq1 : RO V.heap.size ((w2.setCell ⟨V.heap.size, 0, none⟩ (.slice A1 n1 c1)).setCell ⟨V.heap.size, 1, none⟩ (.int .u32 l1)) X A2 m2 c2 er := HOK.out.keep (by simp) (by rw [qcl_]; exact Nat.le_refl _) (fun k hk _ => qay_ w2 (by simp at hk; omega) _ _)
   have hq2 := H10.out
   clear H10 HOK HD2 HZ1 y0 y1 f0 f1 hz2
   generalize hU : (w2.setCell ⟨V.heap.size, 0, none⟩ (.slice A1 n1 c1)).setCell ⟨V.heap.size, 1, none⟩ (.int .u32 l1) = U at hq1 hq2 ⊢
   clear hU
   revert hq2 hq1
   revert U
   exact fun U h1 h2 => key1 A2 m2 c2 er U V.heap.size _ h1 h2
 intro A2 m2 c2 er U gb v1 hro hbu
 have HBU := Lib.hid (HB0.out.trans (hbu.mono HB0.out.size))
 clear hbu hV
 cases X with
 | error e' =>
  obtain rfl : er = e' := hro
  have hq : (er != 0) = true := by rw [bne_iff_ne]; exact HNE.out er rfl
  obtain rfl : L = er := HLP.out.symm
  go_wp2
  go_ret
  exact ⟨rfl, HBU.out⟩
 | ok ws =>
  obtain ⟨rfl, hlp, h1, h2⟩ := hro
  have hm : m2 <= 1073741824 := by
   have h3 := hlp.v.len
   have h4 := HM17.out ws rfl
   omega
  have K1 := Lib.hid (HCK1.out ws rfl A2 m2 c2 U HBU.out hlp.v hm h1 h2)
  have K2 := Lib.hid (fun U2 (hb : Below U.heap.size U U2) => HCK2.out ws rfl A2 m2 c2 U2 (HBU.out.trans (hb.mono HBU.out.size)) (hlp.v.on hb) hm h1 h2)
  have HL2 : Hid ((if ws.any (fun y => decide (32 <= y.2)) = true then (12 : Int) else if ws.any (fun y => elseB (Nd.mk nm pa pc ps ka kc ks) y.1) = true then 15 else 0) = L) := Lib.hid HLP.out
  change Hid (∀ U2, Below U.heap.size U U2 -> Calls Tryz.prog _ _ U2 fun e w' => e = .returned (.bool (ws.any fun y => elseB (Nd.mk nm pa pc ps ka kc ks) y.1)) /\ Below U2.heap.size U2 w') at K2
  generalize ws.any (fun y => decide (32 <= y.2)) = B1 at *
  generalize ws.any (fun y => elseB (Nd.mk nm pa pc ps ka kc ks) y.1) = B2 at *
  clear hlp hm h1 h2 HCK1 HCK2 HLP
  go_wp2_with fail
  refine K1.out.mono ?_
  rintro e w3 ⟨rfl, hb⟩
  have HB3 := Lib.hid (HBU.out.trans (hb.mono HBU.out.size))
  have K3 := Lib.hid (K2.out w3 hb)
  clear hb K1 K2
  cases B1
  ·go_wp2_with fail
   refine K3.out.mono ?_
   rintro e w4 ⟨rfl, hb⟩
   have HB4 := Lib.hid (HB3.out.trans (hb.mono HB3.out.size))
   clear hb K3
   cases B2
   ·obtain rfl : L = 0 := HL2.out.symm
    go_wp2
    go_ret
    exact ⟨rfl, HB4.out⟩
   ·obtain rfl : L = 15 := HL2.out.symm
    go_wp2
    go_ret
    exact ⟨rfl, HB4.out⟩
  ·obtain rfl : L = 12 := HL2.out.symm
   go_wp2
   go_ret
   exact ⟨rfl, HB3.out⟩
def offB (x : Int × Int × Int) : Bool := qd1_ x.1 x.2.2 || qd1_ x.2.1 x.2.2
def busP (parent n : Nd) : Int := if (qap_ parent n).2.1 = false then 10 else if (qap_ parent n).1 = false then 12 else if (qap_ parent n).2.2.any offB = true then 12 else 0
theorem bus_any (r q : SpR) (d dq : SpD) (w : World) (h1 : w.heap[r.b]? = some (spO r d)) (h2 : w.heap[q.b]? = some (spO q dq)) (hab : r.ab = some q.b) (hi1 : q.y.In w w.heap.size) (hi2 : r.y.In w w.heap.size) (hh1 : heftN q.y <= 1073741824) (hh2 : heftN r.y <= 1073741824) :
  Calls Tryz.prog 46 #[bptr r.b] w fun e w' => e = .returned (.int .i64 (busP q.y r.y)) /\ Below w.heap.size w w' := by
 have C1 := Lib.hid (fun W (hW : Below w.heap.size w W) => xrangesOK q.y r.y W (hi1.on hW) (hi2.on hW) hh1 hh2)
 have CG := Lib.hid (fun a s W ha hs => qm0_ a s W ha hs)
 have CV := Lib.hid (fun x y z W => qlk_ x y z W)
 obtain ⟨X, hX⟩ : ∃ X, busP q.y r.y = X := ⟨_, rfl⟩
 rw [hX]
 have H64 : Hid (∀ x ∈ (qap_ q.y r.y).2.2, U64 x.1 /\ U64 x.2.1 /\ U64 x.2.2) := Lib.hid (qc9_ hi1 hi2)
 unfold busP at hX
 obtain ⟨RV, hRV⟩ : ∃ RV, qap_ q.y r.y = RV := ⟨_, rfl⟩
 rw [hRV] at C1 hX H64
 obtain ⟨th, gd, L⟩ := RV
 have HX := Lib.hid hX
 have HB1 := Lib.hid (fun W (hW : Below w.heap.size w W) => qaq_ ((hW.block r.b (Array.getElem?_eq_some_iff.1 h1).1).trans h1))
 have HB2 := Lib.hid (fun W (hW : Below w.heap.size w W) => qaq_ ((hW.block q.b (Array.getElem?_eq_some_iff.1 h2).1).trans h2))
 clear h1 h2 hi1 hi2 hh1 hh2 hX hRV
 obtain ⟨rb, rz, rA, rc, ⟨yn, ypa, ypc, yps, yka, ykc, yks⟩, rab, rkA, rkc, rks⟩ := r
 obtain ⟨qb, qz, qA, qc, ⟨xn, xpa, xpc, xps, xka, xkc, xks⟩, qab, qkA, qkc, qks⟩ := q
 obtain rfl : rab = some qb := hab
 simp only [Nd.val, Nd.pv, Nd.kv, Nd.name, Nd.pa, Nd.pc, Nd.props, Nd.ka, Nd.kc, Nd.kids, abV, Option.map_some] at C1 HB1 HB2
 simp only [bptr]
 have HS : Hid (∀ W, Below w.heap.size w W -> (W.cell? ⟨rb, 1, none⟩ = some (.string yn) /\ W.cell? ⟨rb, 2, none⟩ = some (.slice ypa yps.length ypc) /\ W.cell? ⟨rb, 3, none⟩ = some (.slice yka yks.length ykc) /\ W.cell? ⟨rb, 4, none⟩ = some (.pointer (some ⟨qb, 0, none⟩))) /\ (W.cell? ⟨qb, 1, none⟩ = some (.string xn) /\ W.cell? ⟨qb, 2, none⟩ = some (.slice xpa xps.length xpc) /\ W.cell? ⟨qb, 3, none⟩ = some (.slice xka xks.length xkc))) := Lib.hid (fun W hW => by
  obtain ⟨_, a1, a2, a3, a4, _⟩ := HB1.out W hW
  obtain ⟨_, b1, b2, b3, _⟩ := HB2.out W hW
  exact ⟨⟨a1, a2, a3, a4⟩, b1, b2, b3⟩)
 have HR := Lib.hid (Below.refl w.heap.size w)
 clear HB1 HB2
 go_enter Tryz.func46, Tryz.ntmps46
 go_wp2_with fail
 refine wp_region_held_drew (S := fun W => (W.cell? ⟨rb, 1, none⟩ = some (.string yn) /\ W.cell? ⟨rb, 2, none⟩ = some (.slice ypa yps.length ypc) /\ W.cell? ⟨rb, 3, none⟩ = some (.slice yka yks.length ykc) /\ W.cell? ⟨rb, 4, none⟩ = some (.pointer (some ⟨qb, 0, none⟩))) /\ (W.cell? ⟨qb, 1, none⟩ = some (.string xn) /\ W.cell? ⟨qb, 2, none⟩ = some (.slice xpa xps.length xpc) /\ W.cell? ⟨qb, 3, none⟩ = some (.slice xka xks.length xkc))) (by kernel_rfl) (HS.out _ HR.out.drew) (fun hHeld => ?_)
 refine tk 0 hHeld fun _ => ?_
 refine tk 1 hHeld fun _ => ?_
 refine tk 2 hHeld fun _ => ?_
 refine tk 3 hHeld fun _ => ?_
 refine tk 4 hHeld fun _ => ?_
 refine tk 5 hHeld fun _ => ?_
 refine tk 6 hHeld fun _ => ?_
 refine tk 7 hHeld fun _ => ?_
 refine tk 8 hHeld fun _ => ?_
 refine tk 9 hHeld fun _ => ?_
 refine tk 10 hHeld fun _ => ?_
 refine qab_ 11 (by kernel_rfl) rfl (by rfl) (fun K hK => ?_)
 go_simp
 refine (C1.out _ HR.out.drew).mono ?_
 rintro e w1 ⟨hg, hbad, hb⟩
 have HB := Lib.hid (HR.out.drew.trans (hb.mono (by simp)))
 clear hb C1
 cases gd
 ·obtain ⟨A2, c2, rfl, _⟩ := hbad rfl
  clear hg hbad
  obtain rfl : X = 10 := by rw [<- HX.out]; rfl
  dsimp only
  refine hK.out _ _ (HS.out _ HB.out) (fun hHeld => ?_)
  clear hK K
  refine tk 12 hHeld fun _ => ?_
  refine tk 13 hHeld fun _ => ?_
  refine tk 14 hHeld fun _ => ?_
  refine tk 15 hHeld fun _ => ?_
  refine tk 16 hHeld fun _ => ?_
  refine tk 17 hHeld fun _ => ?_
  refine tk 18 hHeld fun _ => ?_
  refine wpAnyH_done (by kernel_rfl) ?_ _
  clear hHeld
  go_wp2
  go_ret
  exact ⟨rfl, HB.out⟩
 ·obtain ⟨A2, m2, c2, rfl, hcel, hm1, hm2⟩ := hg rfl
  have HC := Lib.hid hcel
  have HM := Lib.hid (And.intro hm1 hm2)
  have HLM : Hid (L.length = m2) := Lib.hid (by have := hcel.1; rwa [List.length_map] at this)
  clear hg hbad hcel hm1 hm2
  dsimp only
  refine hK.out _ _ (HS.out _ HB.out) (fun hHeld => ?_)
  clear hK K
  refine tk 12 hHeld fun _ => ?_
  refine tk 13 hHeld fun _ => ?_
  refine tk 14 hHeld fun _ => ?_
  refine tk 15 hHeld fun _ => ?_
  refine tk 16 hHeld fun _ => ?_
  refine tk 17 hHeld fun _ => ?_
  refine tk 18 hHeld fun _ => ?_
  refine wpAnyH_done (by kernel_rfl) ?_ _
  clear hHeld
  cases th
  ·obtain rfl : X = 12 := by rw [<- HX.out]; rfl
   go_wp2
   go_ret
   exact ⟨rfl, HB.out⟩
  ·have HX2 : Hid ((if L.any offB = true then (12 : Int) else 0) = X) := Lib.hid HX.out
   clear HX
   go_wp2_with fail
   go_loopw [31] (fun i wr => ∃ k : Nat, k <= m2 /\ i = .int .i64 k /\ (∀ j (h : j < L.length), j < k -> offB L[j] = false) /\ Below w.heap.size w wr /\ Below w1.heap.size w1 wr) (fun i _ => m2 - (intOf i).toNat)
   case atStart => exact ⟨0, Nat.zero_le _, rfl, fun j h h0 => absurd h0 (Nat.not_lt_zero _), HB.out, Below.refl _ _⟩
   case round =>
    obtain ⟨k, hk, rfl, hpre, hb, hb2⟩ := hrel
    have HPRE := Lib.hid hpre
    have HB3 := Lib.hid hb
    have HB4 := Lib.hid hb2
    have hm12 : m2 <= 9223372036854775807 := by have := HM.out; omega
    clear hpre
    by_cases hlt : k < m2
    ·have hkl : k < L.length := by rw [HLM.out]; exact hlt
     obtain ⟨b, o, rfl, _, hcc⟩ := (HC.out.below hb2).2 (by omega)
     have hkm : k < (L.map rngV).length := by rw [List.length_map]; exact hkl
     obtain ⟨d0, d1, d2⟩ := hcc k hkm
     simp only [List.getElem_map] at d0 d1 d2
     have h64 := H64.out L[k] (List.getElem_mem _)
     obtain ⟨x, hx⟩ : ∃ x, L[k] = x := ⟨_, rfl⟩
     rw [hx] at d0 d1 d2 h64
     have HXK := Lib.hid (Exists.intro hkl hx : ∃ h : k < L.length, L[k] = x)
     clear hx hcc hkm hkl hb hb2
     obtain ⟨x1, x2, x3⟩ := x
     obtain ⟨u1, u2, u3⟩ := h64
     simp only at u1 u2 u3
     have CG1 := Lib.hid (fun W => CG.out x1 x3 W u1 u3)
     have CG2 := Lib.hid (fun W => CG.out x2 x3 W u2 u3)
     have CV1 := Lib.hid (fun W => CV.out x1 x2 x3 W)
     have HOF : Hid (offB (x1, x2, x3) = (qd1_ x1 x3 || qd1_ x2 x3)) := Lib.hid rfl
     generalize qd1_ x1 x3 = B1 at *
     generalize qd1_ x2 x3 = B2 at *
     replace d0 : wr.cell? ⟨b, o + k * 3, none⟩ = some (.int .u64 x1) := d0
     replace d1 : wr.cell? ⟨b, o + k * 3 + 1, none⟩ = some (.int .u64 x2) := d1
     replace d2 : wr.cell? ⟨b, o + k * 3 + 2, none⟩ = some (.int .u64 x3) := d2
     clear u1 u2 u3
     obtain ⟨gv, hgv⟩ : ∃ gv, wr.heap.size = gv := ⟨_, rfl⟩
     obtain ⟨WA, hWA⟩ : ∃ WA, wr.alloc (.cells #[.int .u64 x1, .int .u64 x2, .int .u64 x3] 171) = WA := ⟨_, rfl⟩
     have hn := heap_alloc_new wr (.cells #[.int .u64 x1, .int .u64 x2, .int .u64 x3] 171)
     rw [hWA, hgv] at hn
     have HN := Lib.hid hn
     have HBA : Hid (Below wr.heap.size wr WA) := Lib.hid (by rw [<- hWA]; exact (Below.refl _ _).alloc (Nat.le_refl _) _)
     have HLA : Hid (gv < WA.heap.size) := Lib.hid (by rw [<- hWA, <- hgv]; simp)
     have n0 : WA.cell? ⟨gv, 0, none⟩ = some (.int .u64 x1) := by rw [Lib.cell_of_heap hn]; rfl
     have n1 : WA.cell? ⟨gv, 1, none⟩ = some (.int .u64 x2) := by rw [Lib.cell_of_heap hn]; rfl
     have n2 : WA.cell? ⟨gv, 2, none⟩ = some (.int .u64 x3) := by rw [Lib.cell_of_heap hn]; rfl
     clear hn
     go_wp2_with fail
     refine (CG1.out _).mono ?_
     rintro e w4 ⟨rfl, hb⟩
     have HB5 := Lib.hid (HBA.out.trans (hb.mono HBA.out.size))
     have hn4 := (hb.block gv HLA.out).trans HN.out
     clear hb n0 n1 n2 d0 d1 d2
     cases B1
     ·have n0 : w4.cell? ⟨gv, 0, none⟩ = some (.int .u64 x1) := by rw [Lib.cell_of_heap hn4]; rfl
      have n1 : w4.cell? ⟨gv, 1, none⟩ = some (.int .u64 x2) := by rw [Lib.cell_of_heap hn4]; rfl
      have n2 : w4.cell? ⟨gv, 2, none⟩ = some (.int .u64 x3) := by rw [Lib.cell_of_heap hn4]; rfl
      clear hn4
      go_wp2_with fail
      refine (CV1.out _).mono ?_
      rintro e w5 ⟨rfl, hb⟩
      have HB6 := Lib.hid (HB5.out.trans (hb.mono HB5.out.size))
      clear hb n0 n1 n2
      go_wp2_with fail
      refine (CG2.out _).mono ?_
      rintro e w6 ⟨rfl, hb⟩
      have HB7 := Lib.hid (HB6.out.trans (hb.mono HB6.out.size))
      have HBW := Lib.hid (HB3.out.trans (HB7.out.mono HB3.out.size))
      have HBV := Lib.hid (HB4.out.trans (HB7.out.mono HB4.out.size))
      clear hb
      cases B2
      ·go_wp2
       go_roundw
       case rel => exact ⟨k + 1, by omega, by go_num, fun j hj hjk => by
        rcases Nat.lt_or_ge j k with h | h
        ·exact HPRE.out j hj h
        ·obtain rfl : j = k := by omega
         obtain ⟨h1, h2⟩ := HXK.out
         rw [h2]; exact HOF.out, HBW.out, HBV.out⟩
       case measure => simp [intOf]; omega
      ·obtain rfl : X = 12 := by
        rw [<- HX2.out, if_pos]
        rw [List.any_eq_true]
        obtain ⟨h1, h2⟩ := HXK.out
        exact ⟨_, List.getElem_mem h1, by rw [h2]; exact HOF.out⟩
       go_wp2
       go_ret
       exact ⟨rfl, HBW.out⟩
     ·have HBW := Lib.hid (HB3.out.trans (HB5.out.mono HB3.out.size))
      obtain rfl : X = 12 := by
       rw [<- HX2.out, if_pos]
       rw [List.any_eq_true]
       obtain ⟨h1, h2⟩ := HXK.out
       exact ⟨_, List.getElem_mem h1, by rw [h2]; exact HOF.out⟩
      clear hn4
      go_wp2
      go_ret
      exact ⟨rfl, HBW.out⟩
    ·obtain rfl : k = m2 := by omega
     obtain rfl : X = 0 := by
      rw [<- HX2.out, if_neg]
      rw [Bool.not_eq_true, List.any_eq_false]
      intro y hy
      obtain ⟨j, hj, rfl⟩ := List.getElem_of_mem hy
      have hjk : j < k := by rw [<- HLM.out]; exact hj
      simp [HPRE.out j hj hjk]
     clear hb hb2
     go_wp2
     go_ret
     exact ⟨rfl, HB3.out⟩
theorem qoq_ {w : World} {B : Nat} {x : Nd} (h : x.In w B) (s : ByteArray) : ∀ c ∈ qao_ (valV x s), 0 <= c /\ c <= 4294967295 := by
 intro c hc
 unfold valV at hc
 rcases hf : x.props.find? (fun p => decide (p.name = s)) with _ | p
 ·rw [hf] at hc
  simp [qao_] at hc
 ·rw [hf] at hc
  exact qhn_ (h.prop (List.mem_of_find?_eq_some hf)).2.1 c hc
theorem getD_rg {L : List Int} (h : ∀ c ∈ L, 0 <= c /\ c <= 4294967295) (k : Nat) : 0 <= L.getD k 0 /\ L.getD k 0 <= 4294967295 := by
 rw [List.getD_eq_getElem?_getD]
 rcases hk : L[k]? with _ | c
 ·decide
 ·exact h c (List.mem_of_getElem? hk)
theorem qjb_ {R : Nd} {L : List Int} (hL : ∀ c ∈ L, 0 <= c /\ c <= 4294967295) : ∀ {j : Nat} {ws : List (List Nat × Int)}, qbv_ R L j = .ok ws -> U32R ws
 | 0, ws, h => by cases h; intro y hy; cases hy
 | j + 1, ws, h => by
  rw [qbv_] at h
  split at h
  ·cases h
  ·rename_i h0
   split at h
   ·cases h
   ·cases h
    intro y hy
    rcases List.mem_append.1 hy with hy | hy
    ·exact qjb_ hL h0 y hy
    ·rw [List.mem_singleton.1 hy]
     exact getD_rg hL _
theorem qnn_ {w : World} {B : Nat} {R x : Nd} {z : List Nat} {ws : List (List Nat × Int)} (hx : x.In w B) (h : qdr_ R x z = .ok ws) : U32R ws := by
 unfold qdr_ at h
 split at h
 ·unfold qi0_ at h
  split at h
  ·cases h
  ·exact qjb_ (qoq_ hx _) h
 split at h
 ·cases h
 split at h
 ·cases h; intro y hy; cases hy
 split at h
 ·cases h
 ·cases h
  intro y hy
  obtain ⟨c, hc, rfl⟩ := List.mem_map.1 hy
  exact qoq_ hx _ c hc
theorem ilines_rg {w : World} {B : Nat} {R : Nd} {z : List Int} {ws : List (List Nat × Int)} (hR : R.In w B) (h : qce_ R z = .ok ws) : U32R ws := by
 unfold qce_ at h
 split at h
 ·cases h
 split at h
 ·cases h
 ·rename_i x hx
  exact qnn_ (qa9_ _ hR hx) h
theorem inext_rg {w : World} {B : Nat} {R x : Nd} {l : Int} {q : List Nat × Int} (hx : x.In w B) (h : inext R x l = .ok q) : 0 <= q.2 /\ q.2 <= 4294967295 := by
 unfold inext at h
 split at h
 ·cases h
 split at h
 ·cases h
 split at h
 ·cases h
 unfold qf8_ at h
 split at h
 ·cases h
 split at h
 ·cases h
 ·cases h
  exact getD_rg (qoq_ hx _) _
theorem qg0_ {w : World} {B : Nat} {R : Nd} (hR : R.In w B) : ∀ {k : Nat} {p : List Nat} {l : Int} {q : List Nat × Int}, 0 <= l /\ l <= 4294967295 -> qa6_ R k p l = .ok q -> (0 <= q.2 /\ q.2 <= 4294967295) /\ ∃ x, qaj_ R q.1 = some x
 | 0, p, l, q, _, h => by cases h
 | k + 1, p, l, q, hl, h => by
  rw [qa6_] at h
  cases hn : qaj_ R p with
  | none => rw [hn] at h; cases h
  | some x =>
   rw [hn] at h
   simp only at h
   split at h
   ·cases h
    exact ⟨hl, x, hn⟩
   ·split at h
    ·cases h
    ·rename_i h0
     exact qg0_ hR (inext_rg (qci_ p hR hn) h0) h
def LinesXL (lo : Nat) (w' : World) (X : Except Int (List (List Nat × Int))) (e : Ending) : Prop := match X with
 | .error er => e = .returned (.tuple #[.slice none 0 0, .int .i64 er])
 | .ok ws => ∃ A m c, e = .returned (.tuple #[.slice A m c, .int .i64 0]) /\ LinesP (fun b => lo <= b) w' A m ws /\ m <= c /\ c <= 9223372036854775807
theorem qhd_ (t : Tr) (z : List Int) (A : Option Addr) (n c : Nat) (w : World) (hin : t.In w w.heap.size) (hh : heftN t.root <= 134217728) (hp : Cel w w.heap.size A n (intsZ z)) (hnc : n <= c) (hc : c <= 9223372036854775807) :
  Calls Tryz.prog 44 #[t.val, .slice A n c] w fun e w' => LinesXL w.heap.size w' (qce_ t.root z) e /\ Below w.heap.size w w' := by
 obtain ⟨g, hg⟩ : ∃ g, w.heap.size = g := ⟨_, rfl⟩
 obtain ⟨X, hX⟩ : ∃ X, qce_ t.root z = X := ⟨_, rfl⟩
 have HXV := Lib.hid hX
 have HLF := Lib.hid (fun (W : World) (hW : Below w.heap.size w W) (hR : RdF W g (g + 1) t (fun _ => True)) => qis_ t g (g + 1) z A n c W hR (by rw [<- hg]; exact hW.size) (by rw [<- hg]; exact hin.under hW) hh (hp.on hW) hnc hc)
 rw [hX] at HLF ⊢
 have HAN := Lib.hid (fun (W : World) (A : Option Addr) (m c : Nat) (xs : List WireR) (ws : List (List Nat × Int)) h1 h2 h3 h4 h5 => qga_ t A m c xs ws W h1 h2 h3 h4 h5 hh)
 have HRD0 : Hid (∀ W : World, W.heap[g + 1]? = some (rbox t none 0) -> RdF W g (g + 1) t (fun _ => True)) := Lib.hid (fun W h => ⟨by omega, none, 0, h, fun g e => by cases e⟩)
 have HU32 : Hid (∀ ws, X = .ok ws -> U32L ws) := Lib.hid (fun ws h => ⟨ilines_rg hin.root (hX.trans h), Nat.le_trans (qh9_ (hX.trans h)) hh⟩)
 have HLEN : Hid (∀ ws, X = .ok ws -> ws.length <= 134217728) := Lib.hid (fun ws h => Nat.le_trans (qh9_ (hX.trans h)) hh)
 clear hin hp hnc hc hh hX
 obtain ⟨boot, ra, rc, rs, ⟨nm, pa, pc, ps, ka, kc, ks⟩⟩ := t
 obtain ⟨TT, hTT⟩ : ∃ TT, Tr.mk boot ra rc rs (Nd.mk nm pa pc ps ka kc ks) = TT := ⟨_, rfl⟩
 have hrb : (.cells #[.int .u32 boot, .slice ra rs.length rc, .string nm, .slice pa ps.length pc, .slice ka ks.length kc, .map none, .int .i64 0] 161 : Obj) = rbox TT none 0 := by rw [<- hTT]; rfl
 have hvv : Tr.val (Tr.mk boot ra rc rs (Nd.mk nm pa pc ps ka kc ks)) = .agg #[.int .u32 boot, .slice ra rs.length rc, .string nm, .slice pa ps.length pc, .slice ka ks.length kc] := rfl
 rw [hvv]
 rw [hTT] at HLF HAN HRD0 HXV
 have HRB := Lib.hid hrb
 have HG := Lib.hid hg
 clear hTT hvv hrb
 rw [hg]
 go_enter Tryz.func44, Tryz.ntmps44
 go_wp2_with fail
 generalize hW0 : (w.alloc (.cells #[.int .u32 boot, .slice ra rs.length rc, .string nm, .slice pa ps.length pc, .slice ka ks.length kc] 29)).alloc (.cells #[.int .u32 boot, .slice ra rs.length rc, .string nm, .slice pa ps.length pc, .slice ka ks.length kc, .map none, .int .i64 0] 161) = W0
 have HB0 : Hid (Below w.heap.size w W0) := Lib.hid (by rw [<- hW0]; exact ((Below.refl _ _).alloc (Nat.le_refl _) _).alloc (by simp) _)
 have HR0 : Hid (W0.heap[g + 1]? = some (rbox TT none 0)) := Lib.hid (by
  have e1 : (w.alloc (.cells #[.int .u32 boot, .slice ra rs.length rc, .string nm, .slice pa ps.length pc, .slice ka ks.length kc] 29)).heap.size = g + 1 := by simp [hg]
  rw [<- hW0, <- HRB.out, <- e1]
  exact heap_alloc_new _ _)
 clear hW0
 refine (HLF.out W0 HB0.out (HRD0.out W0 HR0.out)).mono ?_
 rintro e w1 ⟨⟨v, er, rfl, hm⟩, hrd1, htn1⟩
 have HB1 : Hid (Below g w w1) := Lib.hid (by rw [<- hg]; exact HB0.out.trans (by rw [hg]; exact htn1.below))
 clear hrd1 htn1
 cases X with
 | error e' =>
  obtain ⟨rfl, rfl⟩ := hm
  have he : er ≠ 0 := qfn_ HXV.out
  have q1 : (er != 0) = true := by rw [bne_iff_ne]; exact he
  clear he
  go_wp2
  go_ret2
  exact ⟨rfl, HB1.out⟩
 | ok ws =>
  obtain ⟨rfl, xs, hrow, hwi⟩ := hm
  obtain ⟨A1, c1, rfl, hcel, h11, h12, _⟩ := qe6_ hrow
  have hlen : xs.length <= 536870912 := by rw [hwi.len]; have := HLEN.out ws rfl; omega
  have CA := Lib.hid (HAN.out w1 A1 xs.length c1 xs ws hcel hwi hlen h11 h12)
  have HLL := Lib.hid hlen
  generalize xs.length = m at *
  clear hrow hcel h11 h12 hwi hlen
  go_wp2_with fail
  refine CA.out.mono ?_
  rintro e w2 ⟨rfl, hv, hb2⟩
  have HV : Hid (LinesP (fun b => g <= b) w2 _ m ws) := Lib.hid ⟨LinesP0.mono (Q := fun b => g <= b) (LinesL.p hv) (fun b _ hb => by have := HB1.out.size; have := HG.out; omega), HU32.out ws rfl⟩
  have HB2 := Lib.hid (HB1.out.trans (hb2.mono (by have := HB1.out.size; have := HG.out; omega)))
  clear hv hb2 CA
  go_wp2
  go_ret2
  exact ⟨⟨_, m, m, rfl, HV.out, Nat.le_refl _, by have := HLL.out; omega⟩, HB2.out⟩
end Go.Proofs.YtcfinbapfhhpgaaGreatDoor
