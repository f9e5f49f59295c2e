/-
  Layer 11, OverlayKeeps: where strconv's errors are laid; what awake answers.
-/
import Derived.Test.YtihlpcbebpnmkaaGreatDoorZApply
import Derived.Test.YtihlpcbebpnmkaaGreatDoorBase11
import Derived.Test.YtihlpcbebpnmkaaGreatDoorBase10
namespace Go.Proofs.YtihlpcbebpnmkaaGreatDoor
open Go.RowKit
set_option linter.unusedVariables false
set_option linter.unusedSimpArgs false
attribute [local go_sem ↓] Go.wp_at_zero Go.wp_at_succ

theorem applyOK_laid (t u : Tr) (w : World) (hin : t.In w w.heap.size) (hu : u.In w w.heap.size) (hh : heftN t.root + heftN u.root ≤ 134217728) (hel : ErrLaid w) :
    Calls Tryz.prog 6 #[t.val, u.val] w fun e w' => (∃ (x : Tr) (er : Int), e = .returned (.tuple #[x.val, .int .i64 er]) ∧ x.In w' w'.heap.size ∧ (er = 0 → checkE t = 0 ∧ checkE x = 0 ∧ Keeps t.root x.root)) ∧ Below w.heap.size w w' := by
  refine (apply_any t u w hin hu hh hel).mono ?_
  rintro e w' ⟨⟨x, er, h1, h2, h3, _⟩, h4⟩
  exact ⟨⟨x, er, h1, h2, h3⟩, h4⟩
def trA : Tr := ⟨0, none, 0, [], .mk ⟨#[97]⟩ none 0 [] none 0 []⟩
theorem trA_in (w : World) (B : Nat) : trA.In w B :=
  ⟨⟨by show (0 : Int) ≤ 0; decide, by show (0 : Int) ≤ _; decide⟩, ⟨by simp [trA], by simp [trA], by simp [trA]⟩, fun h => absurd h (by simp [trA]), fun r h => by simp [trA] at h,
    .mk _ ⟨by show (1 : Nat) ≤ _; omega, by simp [trA, Nd.props], by simp [trA, Nd.kids]⟩ (by simp [trA, Nd.props, Nd.pc]) (by simp [trA, Nd.pc]) (by simp [trA, Nd.kids, Nd.kc]) (by simp [trA, Nd.kc]) (fun h => absurd h (by simp [trA, Nd.props])) (fun p h => by simp [trA, Nd.props] at h) (fun h => absurd h (by simp [trA, Nd.kids])) (fun p h => by simp [trA, Nd.kids] at h)⟩
theorem trA_heft : heftN trA.root = 17 := by simp [trA, heftN, heftL]; rfl
theorem trA_check : checkE trA = 5 := by
  have h : aloneE (.mk ⟨#[97]⟩ none 0 [] none 0 []) 1 = 5 := by
    have h0 : nameOk (.mk ⟨#[97]⟩ none 0 [] none 0 []) 1 = false := by simp [nameOk, Nd.name]
    unfold aloneE
    rw [if_neg (by decide), if_pos h0]
  have h2 : wrongN trA.root 1 = 5 := by
    show wrongN (.mk ⟨#[97]⟩ none 0 [] none 0 []) 1 = 5
    rw [wrongN, h]
    rfl
  rw [checkE, h2]
  rfl
set_option maxRecDepth 20000 in
set_option maxHeartbeats 2000000 in
theorem awake11 (w : World) (hel : ErrLaid w) : Calls Tryz.prog 4 #[] w fun e w' => e = .returned (.bool true) ∧ Below w.heap.size w w' := by
  have C := Lib.hid (apply_any trA zeroT w (trA_in _ _) (zeroT_in _ _) (by rw [trA_heft, zeroT_heft]; omega) hel)
  clear hel
  replace C : Hid (Calls Tryz.prog 6 #[.agg #[.int .u32 0, .slice none 0 0, .string ⟨#[97]⟩, .slice none 0 0, .slice none 0 0], .agg #[.int .u32 0, .slice none 0 0, .string ⟨#[]⟩, .slice none 0 0, .slice none 0 0]] w (ApplyOut trA w)) := C
  go_enter Tryz.func4, Tryz.ntmps4
  go_wp2_with fail
  refine C.out.mono ?_
  rintro e w1 ⟨⟨x, er, rfl, _, _, hq⟩, hb⟩
  have he := hq (by rw [trA_check]; decide)
  rw [trA_check] at he
  subst he
  have HB := Lib.hid hb
  clear hb hq C
  obtain ⟨xb, xra, xrc, xrs, ⟨xn, xpa, xpc, xps, xka, xkc, xks⟩⟩ := x
  simp only [Tr.val, Tr.rv, Nd.val, Nd.pv, Nd.kv, Nd.name, Nd.pa, Nd.pc, Nd.props, Nd.ka, Nd.kc, Nd.kids]
  go_wp2
  go_ret
  exact ⟨rfl, HB.out.alloc HB.out.size _⟩

set_option maxRecDepth 20000 in
set_option maxHeartbeats 8000000 in
theorem overlayKeeps_laid (t u : Tr) (w : World) (hel : ErrLaid w) (hin : t.In w w.heap.size) (hjn : u.In w w.heap.size) (hheft : heftN t.root + heftN u.root ≤ 134217728) :
    Calls Tryz.prog 3 #[t.val, u.val] w fun e w' => e = .returned (.bool true) ∧ Below w.heap.size w w' := by
  have HK := Lib.hid awake11
  have HEL := Lib.hid hel
  have HI := Lib.hid hin
  have HJ := Lib.hid hjn
  have F1 := Lib.hid (fun W h => few_any t W h)
  have F2 := Lib.hid (fun W h => few_any u W h)
  have CA := Lib.hid (fun (W : World) (h1 : t.In W W.heap.size) (h2 : u.In W W.heap.size) (h3 : ErrLaid W) => applyOK_laid t u W h1 h2 hheft h3)
  have CI := Lib.hid (fun W h => refindex_any t W h (by omega))
  have HMEM := Lib.hid (refsFrom_mem t.root (placesN t.root []) [] (fun y hy => by cases hy))
  have CP := Lib.hid (fun (W : World) (h : t.In W W.heap.size) (p : List Nat) (nd : Nd) A n c (h1 : nodeAt t.root p = some nd) h2 h3 h4 h5 h6 => refpath_any t p nd A n c W h h1 h2 h3 h4 h5 h6)
  have HTR : Hid (∃ R, t.root = R) := ⟨_, rfl⟩
  obtain ⟨R, hR⟩ := HTR.out
  have HCK : Hid (checkE t = 0 → wrongN R 1 = 0) := Lib.hid (fun h => by rw [← hR]; exact root_wrong h)
  obtain ⟨RS, hRS⟩ : ∃ RS, refsOf t.root = RS := ⟨_, rfl⟩
  replace HMEM : Hid (∀ y ∈ (refsOf t.root).1, ∃ nd, nodeAt t.root y.2 = some nd ∧ 0 ≤ idxOf (nd.props.map PV.name) phName) := HMEM
  rw [hRS] at CI HMEM
  rw [hR] at HMEM
  replace CA : Hid (∀ W : World, t.In W W.heap.size → u.In W W.heap.size → ErrLaid W → Calls Tryz.prog 6 #[t.val, u.val] W fun e w' => (∃ (x : Tr) (er : Int), e = .returned (.tuple #[x.val, .int .i64 er]) ∧ x.In w' w'.heap.size ∧ (er = 0 → checkE t = 0 ∧ checkE x = 0 ∧ Keeps R x.root)) ∧ Below W.heap.size W w') := by rw [← hR]; exact CA
  replace CP : Hid (∀ (W : World) (_ : t.In W W.heap.size) (p : List Nat) (nd : Nd) (A : Option Addr) (n c : Nat) (_ : nodeAt R p = some nd) (_ : ∀ s ∈ namesAt R p, s.size ≤ 63) (_ : p.length ≤ 15) (_ : Cel W W.heap.size A n (ints p)) (_ : n ≤ c) (_ : c ≤ 9223372036854775807), Calls Tryz.prog 8 #[t.val, .slice A n c] W fun e w' => e = .returned (.string (pathOf R p)) ∧ Below W.heap.size W w') := by rw [← hR]; exact CP
  clear hel hin hjn hheft hR hRS HTR
  obtain ⟨rl, er0⟩ := RS
  obtain ⟨boot, ra, rc, rs, ⟨nm, pa, pc, ps, ka, kc, ks⟩⟩ := t
  obtain ⟨boot', ra', rc', rs', ⟨nm', pa', pc', ps', ka', kc', ks'⟩⟩ := u
  simp only [Tr.val, Tr.rv, Nd.val, Nd.pv, Nd.kv, Nd.name, Nd.pa, Nd.pc, Nd.props, Nd.ka, Nd.kc, Nd.kids] at F1 F2 CA CI CP ⊢
  obtain ⟨W0, hW0⟩ : ∃ W0, ((w.alloc (.cells #[Value.int .u32 boot, Value.slice ra rs.length rc, Value.string nm, Value.slice pa ps.length pc, Value.slice ka ks.length kc] 29)).alloc (.cells #[Value.int .u32 boot', Value.slice ra' rs'.length rc', Value.string nm', Value.slice pa' ps'.length pc', Value.slice ka' ks'.length kc'] 29)) = W0 := ⟨_, rfl⟩
  have HB0 : Hid (Below w.heap.size w W0) := Lib.hid (by rw [← hW0]; exact ((Below.refl w.heap.size w).alloc (Nat.le_refl _) _).alloc (by simp) _)
  have HS0 : Hid (W0.heap.size = w.heap.size + 2) := Lib.hid (by rw [← hW0]; simp)
  have HX0 : Hid (W0.heap[w.heap.size]? = some (.cells #[Value.int .u32 boot, Value.slice ra rs.length rc, Value.string nm, Value.slice pa ps.length pc, Value.slice ka ks.length kc] 29 (0, 0)) ∧ W0.heap[w.heap.size + 1]? = some (.cells #[Value.int .u32 boot', Value.slice ra' rs'.length rc', Value.string nm', Value.slice pa' ps'.length pc', Value.slice ka' ks'.length kc'] 29 (0, 0))) := Lib.hid (by rw [← hW0]; exact ⟨heap_alloc2_old _ _ _, heap_alloc2_new _ _ _⟩)
  go_enter Tryz.func3, Tryz.ntmps3
  go_wp2_with fail
  clear hW0
  refine (HK.out _ (HEL.out.on HEL.out.1 HB0.out HB0.out.size)).mono ?_
  rintro e w1 ⟨rfl, hb⟩
  have HB1 := Lib.hid hb
  have HXA := Lib.hid ((hb.block w.heap.size (by have := HS0.out; omega)).trans HX0.out.1)
  have HXB := Lib.hid ((hb.block (w.heap.size + 1) (by have := HS0.out; omega)).trans HX0.out.2)
  have HBW := Lib.hid (HB0.out.trans (hb.mono HB0.out.size))
  obtain ⟨b0, b1, b2, b3, b4⟩ := tree_box HXA.out
  clear hb
  go_wp2_with fail
  refine (F1.out _ (HI.out.on HBW.out)).mono ?_
  rintro e w2 ⟨⟨f1, rfl⟩, hb⟩
  clear b0 b1 b2 b3 b4
  have HL1 : Hid (w.heap.size + 1 < w1.heap.size) := Lib.hid (by have h1 := HS0.out; have h2 := HB1.out.size; omega)
  have HXA2 := Lib.hid ((hb.block w.heap.size (by have := HL1.out; omega)).trans HXA.out)
  have HXB2 := Lib.hid ((hb.block (w.heap.size + 1) HL1.out).trans HXB.out)
  have HBW2 := Lib.hid (HBW.out.trans (hb.mono HBW.out.size))
  have HL2 : Hid (w.heap.size + 1 < w2.heap.size) := Lib.hid (by have h1 := HL1.out; have h2 := hb.size; omega)
  clear hb HXA HXB HB1 HBW HL1
  cases f1
  · go_wp2_with fail
    refine (HK.out _ (HEL.out.on HEL.out.1 HBW2.out HBW2.out.size)).mono ?_
    rintro e w3 ⟨rfl, hb⟩
    have HB3 := Lib.hid (HBW2.out.trans (hb.mono HBW2.out.size))
    clear hb
    go_wp2
    go_ret
    exact ⟨rfl, HB3.out⟩
  · obtain ⟨b0, b1, b2, b3, b4⟩ := tree_box HXB2.out
    go_wp2_with fail
    refine (F2.out _ (HJ.out.on HBW2.out)).mono ?_
    rintro e w3 ⟨⟨f2, rfl⟩, hb⟩
    clear b0 b1 b2 b3 b4
    have HXA3 := Lib.hid ((hb.block w.heap.size (by have := HL2.out; omega)).trans HXA2.out)
    have HXB3 := Lib.hid ((hb.block (w.heap.size + 1) HL2.out).trans HXB2.out)
    have HBW3 := Lib.hid (HBW2.out.trans (hb.mono HBW2.out.size))
    have HL3 : Hid (w.heap.size + 1 < w3.heap.size) := Lib.hid (by have h1 := HL2.out; have h2 := hb.size; omega)
    clear hb HXA2 HXB2 HBW2 HL2
    cases f2
    · go_wp2_with fail
      refine (HK.out _ (HEL.out.on HEL.out.1 HBW3.out HBW3.out.size)).mono ?_
      rintro e w4 ⟨rfl, hb⟩
      have HB4 := Lib.hid (HBW3.out.trans (hb.mono HBW3.out.size))
      clear hb
      go_wp2
      go_ret
      exact ⟨rfl, HB4.out⟩
    · obtain ⟨a0, a1, a2, a3, a4⟩ := tree_box HXA3.out
      obtain ⟨b0, b1, b2, b3, b4⟩ := tree_box HXB3.out
      go_wp2_with fail
      refine (CA.out _ (HI.out.on HBW3.out) (HJ.out.on HBW3.out) (HEL.out.on HEL.out.1 HBW3.out HBW3.out.size)).mono ?_
      rintro e w4 ⟨⟨x, er, rfl, hxin, hxk⟩, hb⟩
      clear a0 a1 a2 a3 a4 b0 b1 b2 b3 b4
      have HXA4 := Lib.hid ((hb.block w.heap.size (by have := HL3.out; omega)).trans HXA3.out)
      have HBW4 := Lib.hid (HBW3.out.trans (hb.mono HBW3.out.size))
      have HL4 : Hid (w.heap.size + 1 < w4.heap.size) := Lib.hid (by have h1 := HL3.out; have h2 := hb.size; omega)
      have HXI := Lib.hid hxin
      have HXK := Lib.hid hxk
      clear hb hxin hxk HXA3 HXB3 HBW3 HL3
      have CN := Lib.hid (fun (W : World) (h : x.In W W.heap.size) (p : List Nat) (nd : Nd) (s : ByteArray) h1 h2 h3 => refnames_any x p nd s W h h1 h2 h3)
      have CG := Lib.hid (fun (W : World) (h : x.In W W.heap.size) (p : List Nat) A n c h1 h2 h3 => refget_any x (p.map Int.ofNat) A n c W h h1 h2 h3)
      obtain ⟨R2, hR2⟩ : ∃ R2, x.root = R2 := ⟨_, rfl⟩
      have HCX : Hid (checkE x = 0 → wrongN R2 1 = 0) := Lib.hid (fun h => by rw [← hR2]; exact root_wrong h)
      replace HXK : Hid (er = 0 → checkE (Tr.mk boot ra rc rs (Nd.mk nm pa pc ps ka kc ks)) = 0 ∧ checkE x = 0 ∧ Keeps R R2) := by rw [← hR2]; exact HXK
      replace CN : Hid (∀ (W : World) (_ : x.In W W.heap.size) (p : List Nat) (nd : Nd) (s : ByteArray) (_ : wrongN R2 1 = 0) (_ : nodeAt R2 p = some nd) (_ : s = pathOf R2 p), Calls Tryz.prog 9 #[x.val, .string s] W fun e w' => (∃ A c, e = .returned (.tuple #[.slice A p.length c, .bool true]) ∧ Cel w' w'.heap.size A p.length (ints p) ∧ p.length ≤ c ∧ c ≤ 9223372036854775807) ∧ Below W.heap.size W w') := by rw [← hR2]; exact CN
      replace CG : Hid (∀ (W : World) (_ : x.In W W.heap.size) (p : List Nat) (A : Option Addr) (n c : Nat) (_ : Cel W W.heap.size A n (intsZ (p.map Int.ofNat))) (_ : n ≤ c) (_ : c ≤ 9223372036854775807), Calls Tryz.prog 10 #[x.val, .slice A n c] W fun e w' => e = .returned (getVal (nodeZ R2 (p.map Int.ofNat))) ∧ Below W.heap.size W w') := by rw [← hR2]; exact CG
      have HR2I : Hid (R2.In w4 w4.heap.size) := Lib.hid (by rw [← hR2]; exact HXI.out.root)
      clear hR2
      have HE : Hid (er = 0 → (wrongN R 1 = 0 ∧ wrongN R2 1 = 0) ∧ Keeps R R2) := Lib.hid (fun h => ⟨⟨HCK.out (HXK.out h).1, HCX.out (HXK.out h).2.1⟩, (HXK.out h).2.2⟩)
      clear HXK HCK HCX
      obtain ⟨xb, xra, xrc, xrs, ⟨xnm, xpa, xpc, xps, xka, xkc, xks⟩⟩ := x
      simp only [Tr.val, Tr.rv, Nd.val, Nd.pv, Nd.kv, Nd.name, Nd.pa, Nd.pc, Nd.props, Nd.ka, Nd.kc, Nd.kids] at CN CG ⊢
      obtain ⟨W5, hW5⟩ : ∃ W5, w4.alloc (.cells #[Value.int .u32 xb, Value.slice xra xrs.length xrc, Value.string xnm, Value.slice xpa xps.length xpc, Value.slice xka xks.length xkc] 29) = W5 := ⟨_, rfl⟩
      have HB5 : Hid (Below w4.heap.size w4 W5) := Lib.hid (by rw [← hW5]; exact (Below.refl _ _).alloc (Nat.le_refl _) _)
      have HX5 : Hid (W5.heap[w4.heap.size]? = some (.cells #[Value.int .u32 xb, Value.slice xra xrs.length xrc, Value.string xnm, Value.slice xpa xps.length xpc, Value.slice xka xks.length xkc] 29 (0, 0)) ∧ W5.heap.size = w4.heap.size + 1) := Lib.hid (by rw [← hW5]; exact ⟨heap_alloc_new _ _, by simp⟩)
      have HXA5 := Lib.hid ((HB5.out.block w.heap.size (by have := HL4.out; omega)).trans HXA4.out)
      by_cases her : er = 0
      · subst her
        obtain ⟨⟨hw1, hw2⟩, hkp⟩ := HE.out rfl
        have HW1 := Lib.hid hw1
        have HW2 := Lib.hid hw2
        have HKP := Lib.hid hkp
        clear hw1 hw2 hkp HE
        obtain ⟨a0, a1, a2, a3, a4⟩ := tree_box HXA5.out
        go_wp2_with fail
        clear hW5
        refine (CI.out _ (HI.out.on (HBW4.out.trans (HB5.out.mono HBW4.out.size)))).mono ?_
        rintro e w6 ⟨⟨A6, n6, c6, rfl, s6, l6, m6⟩, hb⟩
        clear a0 a1 a2 a3 a4
        obtain rfl := s6.len
        have HS6 := Lib.hid s6
        have HXA6 := Lib.hid ((hb.block w.heap.size (by have h1 := HL4.out; have h2 := HX5.out.2; omega)).trans HXA5.out)
        have HXX6 := Lib.hid ((hb.block w4.heap.size (by have h2 := HX5.out.2; omega)).trans HX5.out.1)
        have HB6 := Lib.hid (HB5.out.trans (hb.mono HB5.out.size))
        have HL6 : Hid (w4.heap.size < w6.heap.size) := Lib.hid (by have h1 := hb.size; have h2 := HX5.out.2; omega)
        clear hb s6
        obtain ⟨N, hN⟩ : ∃ N, rl.length = N := ⟨_, rfl⟩
        have HN := Lib.hid hN
        rw [hN] at HS6 l6 ⊢
        clear hN
        go_wp2_with fail
        go_loopw [44] (fun i wr => ∃ j : Nat, j ≤ N ∧ i = .int .i64 j ∧ Below w6.heap.size w6 wr) (fun i _ => N - (intOf i).toNat)
        case atStart => exact ⟨0, Nat.zero_le _, rfl, Below.refl _ _⟩
        case round =>
          obtain ⟨j, hj, rfl, hb⟩ := hrel
          have HBX := Lib.hid hb
          by_cases hlt : j < N
          · have hja : j < rl.length := by rw [HN.out]; exact hlt
            obtain ⟨b, o, A7, c7, e, hbb, p1, p2, p3, p4, p5⟩ := (HS6.out.on hb).at_ hja
            obtain rfl : A6 = _ := e
            obtain ⟨nd, hat, hph⟩ := HMEM.out _ (List.getElem_mem hja)
            generalize rl[j] = Y at *
            obtain ⟨hv, P⟩ := Y
            simp only at p1 p2 p3 p4 hat hph
            obtain ⟨y, hy1, hy2, hy3⟩ := HKP.out P nd hat
            have HAT := Lib.hid hat
            have HY := Lib.hid (And.intro hy1 (And.intro hy2 (hy3 phName hph)))
            have HNM : Hid (∀ s ∈ namesAt R P, s.size ≤ 63) := Lib.hid (fun s hs => nodeB_size (namesAt_ok P (by omega) HW1.out hat s hs))
            have HP15 := Lib.hid (place_short HW1.out hat)
            have HSAME : Hid (pathOf R2 P = pathOf R P) := Lib.hid (by unfold pathOf; rw [hy2])
            have HP3 := Lib.hid p3
            have HP45 := Lib.hid (And.intro p4 p5)
            have HAr := Lib.hid ((hb.block w.heap.size (by have h1 := HL4.out; have h2 := HL6.out; omega)).trans HXA6.out)
            have HXr := Lib.hid ((hb.block w4.heap.size HL6.out).trans HXX6.out)
            clear hat hph hy1 hy2 hy3 p3 hja hb
            obtain ⟨pl, hpl⟩ : ∃ pl, P.length = pl := ⟨_, rfl⟩
            have HPL := Lib.hid hpl
            rw [hpl] at HP3 p4 p2 HP45
            clear hpl
            obtain ⟨a0, a1, a2, a3, a4⟩ := tree_box HAr.out
            go_wp2_with fail
            refine wp_region_held_drew (S := fun V => (V.cell? ⟨w.heap.size, 0, none⟩ = some (.int .u32 boot) ∧ V.cell? ⟨w.heap.size, 1, none⟩ = some (.slice ra rs.length rc) ∧ V.cell? ⟨w.heap.size, 2, none⟩ = some (.string nm) ∧ V.cell? ⟨w.heap.size, 3, none⟩ = some (.slice pa ps.length pc) ∧ V.cell? ⟨w.heap.size, 4, none⟩ = some (.slice ka ks.length kc)) ∧ V.cell? ⟨b, o + j * 2 + 1, none⟩ = some (.slice A7 pl c7)) (by kernel_rfl) (by exact ⟨⟨a0, a1, a2, a3, a4⟩, p2⟩) (fun hHeld => ?_)
            refine held_take 0 rfl (by kernel_rfl) (by kernel_rfl) (by kernel_rfl) (fun _ _ _ h => h) (by rfl) hHeld (v := ?_) (fun w hSw => ?_) (fun _ => ?_)
            rotate_left
            · ((try dsimp only at hSw); go_simp; (try with_reducible rfl))
            simp only [Act.put, List.setIfInBounds_toArray, List.set_cons_zero, List.set_cons_succ]
            refine held_take 1 rfl (by kernel_rfl) (by kernel_rfl) (by kernel_rfl) (fun _ _ _ h => h) (by rfl) hHeld (v := ?_) (fun w hSw => ?_) (fun _ => ?_)
            rotate_left
            · ((try dsimp only at hSw); go_simp; (try with_reducible rfl))
            simp only [Act.put, List.setIfInBounds_toArray, List.set_cons_zero, List.set_cons_succ]
            refine held_take 2 rfl (by kernel_rfl) (by kernel_rfl) (by kernel_rfl) (fun _ _ _ h => h) (by rfl) hHeld (v := ?_) (fun w hSw => ?_) (fun _ => ?_)
            rotate_left
            · ((try dsimp only at hSw); go_simp; (try with_reducible rfl))
            simp only [Act.put, List.setIfInBounds_toArray, List.set_cons_zero, List.set_cons_succ]
            refine held_take 3 rfl (by kernel_rfl) (by kernel_rfl) (by kernel_rfl) (fun _ _ _ h => h) (by rfl) hHeld (v := ?_) (fun w hSw => ?_) (fun _ => ?_)
            rotate_left
            · ((try dsimp only at hSw); go_simp; (try with_reducible rfl))
            simp only [Act.put, List.setIfInBounds_toArray, List.set_cons_zero, List.set_cons_succ]
            refine held_take 4 rfl (by kernel_rfl) (by kernel_rfl) (by kernel_rfl) (fun _ _ _ h => h) (by rfl) hHeld (v := ?_) (fun w hSw => ?_) (fun _ => ?_)
            rotate_left
            · ((try dsimp only at hSw); go_simp; (try with_reducible rfl))
            simp only [Act.put, List.setIfInBounds_toArray, List.set_cons_zero, List.set_cons_succ]
            refine held_take 5 rfl (by kernel_rfl) (by kernel_rfl) (by kernel_rfl) (fun _ _ _ h => h) (by rfl) hHeld (v := ?_) (fun w hSw => ?_) (fun _ => ?_)
            rotate_left
            · ((try dsimp only at hSw); go_simp; (try with_reducible rfl))
            simp only [Act.put, List.setIfInBounds_toArray, List.set_cons_zero, List.set_cons_succ]
            refine held_call 6 (by kernel_rfl) rfl (by rfl) (fun K hK => ?_)
            go_simp
            have hIW : Tr.In wr.drew wr.drew.heap.size ⟨boot, ra, rc, rs, .mk nm pa pc ps ka kc ks⟩ := HI.out.on (HBW4.out.trans ((HB6.out.trans (HBX.out.mono HB6.out.size)).mono HBW4.out.size)).drew
            refine (CP.out wr.drew hIW P nd A7 pl c7 HAT.out HNM.out HP15.out HP3.out HP45.out.1 HP45.out.2).mono ?_
            rintro e w8 ⟨rfl, hb8⟩
            have HB8 : Hid (Below wr.heap.size wr w8) := Lib.hid ((Below.refl _ wr).drew.trans hb8)
            have hA8 := (HB8.out.block w.heap.size (by have h1 := HL4.out; have h2 := HL6.out; have h3 := HBX.out.size; omega)).trans HAr.out
            have HX8 := Lib.hid ((HB8.out.block w4.heap.size (by have h2 := HL6.out; have h3 := HBX.out.size; omega)).trans HXr.out)
            have z2 := (HB8.out.cell (p := ⟨b, o + j * 2 + 1, none⟩) hbb).trans p2
            clear hb8 hIW a0 a1 a2 a3 a4 p1 p2
            dsimp only
            refine hK.out _ _ ⟨tree_box hA8, z2⟩ (fun hHeld => ?_)
            clear hK K
            refine held_take 7 rfl (by kernel_rfl) (by kernel_rfl) (by kernel_rfl) (fun _ _ _ h => h) (by rfl) hHeld (v := ?_) (fun w hSw => ?_) (fun _ => ?_)
            rotate_left
            · ((try dsimp only at hSw); go_simp; (try with_reducible rfl))
            simp only [Act.put, List.setIfInBounds_toArray, List.set_cons_zero, List.set_cons_succ]
            refine wpAnyH_done (by kernel_rfl) ?_ _
            clear hHeld hA8 z2 hbb
            obtain ⟨x0, x1, x2, x3, x4⟩ := tree_box HX8.out
            have HXI8 : Hid (Tr.In w8 w8.heap.size ⟨xb, xra, xrc, xrs, .mk xnm xpa xpc xps xka xkc xks⟩) := Lib.hid (HXI.out.on (HB6.out.trans ((HBX.out.trans (HB8.out.mono HBX.out.size)).mono HB6.out.size)))
            go_wp2_with fail
            clear x0 x1 x2 x3 x4
            refine (CN.out w8 HXI8.out P y _ HW2.out HY.out.1 HSAME.out.symm).mono ?_
            rintro e w9 ⟨⟨A9, c9, rfl, hc9, h91, h92⟩, hb9⟩
            have HB9 := Lib.hid hb9
            have HC9 := Lib.hid (And.intro hc9 (And.intro h91 h92))
            have HX9 := Lib.hid ((hb9.block w4.heap.size (by have h1 := HB8.out.size; have h2 := HL6.out; have h3 := HBX.out.size; omega)).trans HX8.out)
            have HXI9 := Lib.hid (HXI8.out.on hb9)
            clear hb9 hc9 h91 h92
            obtain ⟨x0, x1, x2, x3, x4⟩ := tree_box HX9.out
            rw [HPL.out]
            rw [HPL.out] at HC9
            go_wp2_with fail
            clear x0 x1 x2 x3 x4
            refine (CG.out w9 HXI9.out P A9 pl c9 (by rw [← ints_eq]; exact HC9.out.1) HC9.out.2.1 HC9.out.2.2).mono ?_
            rintro e w10 ⟨rfl, hb10⟩
            rw [nodeZ_nat, HY.out.1]
            have HB10 := Lib.hid hb10
            have HYI : Hid (y.In w10 w10.heap.size) := Lib.hid (nodeAt_in P ((HR2I.out.on (HB6.out.trans ((HBX.out.trans ((HB8.out.trans (HB9.out.mono HB8.out.size)).mono HBX.out.size)).mono HB6.out.size))).on hb10) HY.out.1)
            have HFI := Lib.hid (fun W (h : y.In W W.heap.size) => reffind_any y phName W h _ rfl)
            have hge : ¬ (idxOf (y.props.map PV.name) phName < 0) := by have := HY.out.2.2; omega
            generalize idxOf (y.props.map PV.name) phName = q at *
            clear hb10
            obtain ⟨yn, ypa, ypc, yps, yka, ykc, yks⟩ := y
            simp only [getVal, Nd.val, Nd.pv, Nd.kv, Nd.name, Nd.pa, Nd.pc, Nd.props, Nd.ka, Nd.kc, Nd.kids] at HFI ⊢
            have HYB := Lib.hid ((Below.refl w10.heap.size w10).alloc (Nat.le_refl _) (.cells #[Value.string yn, Value.slice ypa yps.length ypc, Value.slice yka yks.length ykc] 27))
            have HFI2 : Hid (∀ W : World, (Nd.mk yn ypa ypc yps yka ykc yks).In W W.heap.size → Calls Tryz.prog 11 #[.agg #[.string yn, .slice ypa yps.length ypc, .slice yka yks.length ykc], .string ⟨#[112, 104, 97, 110, 100, 108, 101]⟩] W fun e w' => e = .returned (.int .i64 q) ∧ Below W.heap.size W w') := HFI.out
            have hq : decide (q < 0) = false := decide_eq_false hge
            clear HFI hge
            go_wp2_with fail
            refine (HFI2.out _ (HYI.out.on HYB.out)).mono ?_
            rintro e w11 ⟨rfl, hb11⟩
            have HB11 := Lib.hid (HYB.out.trans (hb11.mono HYB.out.size))
            clear hb11
            go_wp2
            go_roundw
            case rel => exact ⟨j + 1, by omega, by go_num, HBX.out.trans ((HB8.out.trans ((HB9.out.trans ((HB10.out.trans (HB11.out.mono HB10.out.size)).mono HB9.out.size)).mono HB8.out.size)).mono HBX.out.size)⟩
            case measure => simp [intOf]; omega
          · go_wp2
            go_ret
            exact ⟨rfl, HBW4.out.trans ((HB6.out.trans (HBX.out.mono HB6.out.size)).mono HBW4.out.size)⟩
      · have hne : (er != 0) = true := by simpa using her
        go_wp2
        go_ret
        exact ⟨rfl, HBW4.out.trans (HB5.out.mono HBW4.out.size)⟩
end Go.Proofs.YtihlpcbebpnmkaaGreatDoor
