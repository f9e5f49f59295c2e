/-
  Base, part 10: what the proofs of this claim lean on.
-/
import Derived.Test.YtihlpcbebpnmkaaGreatDoorBase9
import Derived.Test.YtihlpcbebpnmkaaGreatDoorBase3
import Derived.Test.YtihlpcbebpnmkaaGreatDoorBase7
import Derived.Test.YtihlpcbebpnmkaaGreatDoorBase1
import Derived.Test.YtihlpcbebpnmkaaGreatDoorShelf
import Derived.Lib.IndexLaws
import Derived.Test.YtihlpcbebpnmkaaGreatDoorBase8

/-! All handles of a tree: the document's answer. -/
namespace Go.Proofs.YtihlpcbebpnmkaaGreatDoor
open Go.RowKit
set_option linter.unusedVariables false
set_option linter.unusedSimpArgs false

/-- A pair of values shows a handle, and a place below block B. -/
def RefV (w : World) (B : Nat) (x : Value × Value) (r : Int × List Nat) : Prop :=
  x.1 = .int .u32 r.1 ∧ ∃ A c, x.2 = .slice A r.2.length c ∧ Cel w B A r.2.length (ints r.2) ∧ r.2.length ≤ c ∧ c ≤ 9223372036854775807
theorem RefV.below {w w' : World} {B : Nat} {x : Value × Value} {r : Int × List Nat} (h : RefV w B x r) (hb : Below B w w') : RefV w' B x r := by
  obtain ⟨e, A, c, e2, h1, h2⟩ := h
  exact ⟨e, A, c, e2, h1.below hb, h2⟩
theorem RefV.more {w : World} {B B' : Nat} {x : Value × Value} {r : Int × List Nat} (h : RefV w B x r) (hB : B ≤ B') : RefV w B' x r := by
  obtain ⟨e, A, c, e2, h1, h2⟩ := h
  exact ⟨e, A, c, e2, h1.more hB, h2⟩
/-- A slice shows these handles. -/
def RefShow (w : World) (B : Nat) (A : Option Addr) (n : Nat) (rs : List (Int × List Nat)) : Prop :=
  ∃ vs, Cel2 w B A n vs ∧ Two (RefV w B) vs rs
theorem RefShow.on {w w' : World} {A : Option Addr} {n : Nat} {rs : List (Int × List Nat)} (h : RefShow w w.heap.size A n rs) (hb : Below w.heap.size w w') : RefShow w' w'.heap.size A n rs := by
  obtain ⟨vs, h1, h2⟩ := h
  exact ⟨vs, h1.on hb, h2.mono fun v p hv => (hv.below hb).more hb.size⟩
theorem RefShow.len {w : World} {B : Nat} {A : Option Addr} {n : Nat} {rs : List (Int × List Nat)} (h : RefShow w B A n rs) : rs.length = n := by
  obtain ⟨vs, h1, h2⟩ := h
  rw [← h2.len, h1.1]
theorem RefShow.nil (w : World) (B : Nat) (A : Option Addr) : RefShow w B A 0 [] := ⟨[], Cel2.nil _ _ _, .nil⟩
/-- One of them. -/
theorem RefShow.at_ {w : World} {B : Nat} {A : Option Addr} {n : Nat} {rs : List (Int × List Nat)} (h : RefShow w B A n rs) {i : Nat} (hi : i < rs.length) : ∃ b o A2 c2, A = some ⟨b, o, none⟩ ∧ b < B ∧ w.cell? ⟨b, o + i * 2, none⟩ = some (.int .u32 rs[i].1) ∧ w.cell? ⟨b, o + i * 2 + 1, none⟩ = some (.slice A2 rs[i].2.length c2) ∧ Cel w B A2 rs[i].2.length (ints rs[i].2) ∧ rs[i].2.length ≤ c2 ∧ c2 ≤ 9223372036854775807 := by
  obtain ⟨vs, h1, h2⟩ := h
  have hl := h2.len
  obtain ⟨b, o, e, hb, hc⟩ := h1.2 (by rw [← h1.1]; omega)
  have hv : i < vs.length := by omega
  obtain ⟨d1, d2⟩ := hc i hv
  obtain ⟨e1, A2, c2, e2, h3, h4, h5⟩ := h2.get i hv hi
  exact ⟨b, o, A2, c2, e, hb, by rw [d1, e1], by rw [d2, e2], h3, h4, h5⟩

theorem nodeAt_heft : ∀ (p : List Nat) {n x : Nd}, nodeAt n p = some x → heftN x ≤ heftN n
  | [], n, x, h => by rw [nodeAt] at h; rw [Option.some.inj h]; exact Nat.le_refl _
  | i :: p, n, x, h => by
    obtain ⟨hi, e⟩ := nodeAt_some h
    have h1 := nodeAt_heft p e
    have h2 := heftL_next n.kids i hi
    have h3 := heftL_take n.kids (i + 1)
    have h4 : heftN n = 16 + n.name.size + (n.props.map heftP).sum + heftL n.kids := by cases n; rw [heftN]; rfl
    omega
theorem info_ref : (Tryz.prog.info? 41).map (fun i => (i.zero, i.size, i.bytes)) = some (some (.agg #[.int .u32 0, .slice none 0 0]), 2, 32) := by kernel_rfl
theorem oneV_range {w : World} {B : Nat} {n : Nd} (hin : n.In w B) (s : ByteArray) : 0 ≤ (oneV n s).1 ∧ (oneV n s).1 ≤ 4294967295 := by
  unfold oneV
  split
  · exact ⟨by decide, by decide⟩
  · rename_i p hp
    split
    · exact numTo_u32 (hin.prop (List.mem_of_find?_eq_some hp)).2.1 0
    · exact ⟨by decide, by decide⟩


theorem refsFrom_range {w : World} {B : Nat} {root : Nd} (hin : root.In w B) : ∀ (l : List (List Nat)) (acc : List (Int × List Nat)), (∀ x ∈ acc, 0 ≤ x.1 ∧ x.1 ≤ 4294967295) → ∀ x ∈ (refsFrom root acc l).1, 0 ≤ x.1 ∧ x.1 ≤ 4294967295
  | [], acc, h => h
  | p :: r, acc, h => by
    rw [refsFrom]
    by_cases h1 : (refStep root acc p).2 = 0
    · rw [if_pos h1]
      refine refsFrom_range hin r _ ?_
      unfold refStep at h1 ⊢
      split at h1
      · exact h
      · rename_i n hn
        have hr := oneV_range (nodeAt_in p hin hn) phName
        by_cases g1 : (oneV n phName).2.2 ≠ 0
        · rw [if_pos g1] at h1; exact absurd h1 g1
        rw [if_neg g1] at h1 ⊢
        by_cases g2 : (oneV n phName).2.1 = false
        · rw [if_pos g2]; exact h
        rw [if_neg g2] at h1 ⊢
        by_cases g3 : (oneV n phName).1 = 0 ∨ (oneV n phName).1 = 4294967295
        · rw [if_pos g3] at h1; exact absurd h1 (by decide)
        rw [if_neg g3] at h1 ⊢
        by_cases g4 : acc.any (fun x => decide (x.1 = (oneV n phName).1)) = true
        · rw [if_pos g4] at h1; exact absurd h1 (by decide)
        rw [if_neg g4]
        intro x hx
        rcases List.mem_append.1 hx with hx | hx
        · exact h x hx
        · rw [List.mem_singleton.1 hx]; exact hr
    · rw [if_neg h1]; intro x hx; cases hx
theorem refsOf_range {w : World} {B : Nat} {root : Nd} (hin : root.In w B) : ∀ x ∈ (refsOf root).1, 0 ≤ x.1 ∧ x.1 ≤ 4294967295 := refsFrom_range hin _ _ (fun x hx => by cases hx)

set_option maxRecDepth 20000 in
set_option maxHeartbeats 8000000 in
theorem refindex_any (t : Tr) (w : World) (hin : t.In w w.heap.size) (hh : heftN t.root ≤ 134217728) :
    Calls Tryz.prog 7 #[t.val] w fun e w' => (∃ A n c, e = .returned (.tuple #[.slice A n c, .int .i64 (refsOf t.root).2]) ∧ RefShow w' w'.heap.size A n (refsOf t.root).1 ∧ n ≤ c ∧ c ≤ 9223372036854775807) ∧ Below w.heap.size w w' := by
  have CG := Lib.hid (fun (p : List Nat) A n c W (hW : Below w.heap.size w W) (hp : Cel W W.heap.size A n (ints p)) h1 h2 => refget_any t (p.map Int.ofNat) A n c W (hin.on hW) (by rw [← ints_eq]; exact hp) h1 h2)
  have CA := Lib.hid (fun W (hW : Below w.heap.size w W) => refall_any t.root [] none 0 0 W (hin.on hW).root rfl (Cel.nil _ _ _) (Nat.le_refl _) (by omega) (by omega))
  have HI := Lib.hid hin.root
  have HH := Lib.hid hh
  have HSUM : Hid (refsFrom t.root [] (placesN t.root []) = refsOf t.root) := Lib.hid rfl
  have HIN : Hid (∀ p ∈ placesN t.root [], ∃ x, nodeAt t.root p = some x) := Lib.hid fun p hp => place_node hp
  have HPN : Hid ((placesN t.root []).length ≤ 134217728) := Lib.hid (Nat.le_trans (places_len t.root []).1 hh)
  obtain ⟨PS, hPS⟩ : ∃ PS, placesN t.root [] = PS := ⟨_, rfl⟩
  obtain ⟨RS, hRS⟩ : ∃ RS, refsOf t.root = RS := ⟨_, rfl⟩
  rw [hPS] at CA HSUM HIN HPN
  rw [hRS] at HSUM ⊢
  clear hin hh hPS hRS
  obtain ⟨boot, ra, rc, rs, ⟨nm, pa, pc, ps, ka, kc, ks⟩⟩ := t
  replace HI : Hid ((Nd.mk nm pa pc ps ka kc ks).In w w.heap.size) := HI
  replace HH : Hid (heftN (Nd.mk nm pa pc ps ka kc ks) ≤ 134217728) := HH
  replace HSUM : Hid (refsFrom (Nd.mk nm pa pc ps ka kc ks) [] PS = RS) := HSUM
  replace HIN : Hid (∀ p ∈ PS, ∃ x, nodeAt (Nd.mk nm pa pc ps ka kc ks) p = some x) := HIN
  replace CA : Hid (∀ W (hW : Below w.heap.size w W), Calls Tryz.prog 17 #[.agg #[.string nm, .slice pa ps.length pc, .slice ka ks.length kc], .slice none 0 0] W fun e w' => (∃ v, e = .returned v ∧ PlRow w' W.heap.size v PS) ∧ Below W.heap.size W w') := CA
  replace CG : Hid (∀ (p : List Nat) A n c W (hW : Below w.heap.size w W) (hp : Cel W W.heap.size A n (ints p)) (h1 : n ≤ c) (h2 : c ≤ 9223372036854775807), Calls Tryz.prog 10 #[.agg #[.int .u32 boot, .slice ra rs.length rc, .string nm, .slice pa ps.length pc, .slice ka ks.length kc], .slice A n c] W fun e w' => e = .returned (getVal (nodeZ (Nd.mk nm pa pc ps ka kc ks) (p.map Int.ofNat))) ∧ Below W.heap.size W w') := CG
  show Calls _ _ #[.agg #[.int .u32 boot, .slice ra rs.length rc, .string nm, .slice pa ps.length pc, .slice ka ks.length kc]] _ _
  obtain ⟨R, hR⟩ : ∃ R, Nd.mk nm pa pc ps ka kc ks = R := ⟨_, rfl⟩
  rw [hR] at HI HH HSUM HIN CG
  clear hR
  have HB := Lib.hid ((Below.refl w.heap.size w).alloc (Nat.le_refl _) (.cells #[.int .u32 boot, .slice ra rs.length rc, .string nm, .slice pa ps.length pc, .slice ka ks.length kc] 29))
  obtain ⟨b0, b1, b2, b3, b4⟩ := box6_cells w (.int .u32 boot) (.slice ra rs.length rc) (.string nm) (.slice pa ps.length pc) (.slice ka ks.length kc) _ (Below.refl _ _)
  have BX := Lib.hid (box6_cells w (.int .u32 boot) (.slice ra rs.length rc) (.string nm) (.slice pa ps.length pc) (.slice ka ks.length kc))
  go_enter Tryz.func7, Tryz.ntmps7
  go_wp2_with fail
  refine (CA.out _ HB.out).mono ?_
  rintro e w1 ⟨⟨v1, rfl, hr1⟩, hb⟩
  obtain ⟨A1, c1, rfl, s1, l1, m1⟩ := hr1.show
  have HB1 := Lib.hid (HB.out.trans (hb.mono HB.out.size))
  have HX1 := Lib.hid (hb.mono (B' := w.heap.size + 1) (by simp))
  have HS1 := Lib.hid s1
  obtain ⟨N, hN⟩ : ∃ N, PS.length = N := ⟨_, rfl⟩
  have HN := Lib.hid hN
  rw [hN] at l1 HS1
  rw [hN]
  have hN2 : N ≤ 134217728 := by rw [← hN]; exact HPN.out
  clear hb hr1 s1 b0 b1 b2 b3 b4 hN CA
  go_wp2_with fail
  go_loopw [4, 18] (fun out i wr => ∃ (k : Nat) (acc : List (Int × List Nat)) (vs : List (Value × Value)), k ≤ N ∧ i = .int .i64 k ∧ wr.ownsRow w1.heap.size 41 2 out acc.length (flat2 vs) ∧ Two (RefV wr w1.heap.size) vs acc ∧ refsFrom R acc (PS.drop k) = RS ∧ acc.length ≤ k ∧ Below w1.heap.size w1 wr) (fun _ i _ => N - (intOf i).toNat)
  case atStart => exact ⟨0, [], [], Nat.zero_le _, rfl, World.ownsRow_nil _ _ _ _, .nil, HSUM.out, Nat.le_refl _, Below.refl _ _⟩
  case round =>
    obtain ⟨k, acc, vs, hk, rfl, hown, htwo, hsum, hal, hb⟩ := hrel
    have HO := Lib.hid hown
    have HT := Lib.hid htwo
    have HQ := Lib.hid hsum
    have HBX := Lib.hid hb
    have HBS := Lib.hid hb.size
    have hvl := htwo.len
    obtain ⟨Ao, co, rfl, hcel, hco1, hco2, hob⟩ := owned_cel2 hown
    by_cases hlt : k < N
    · obtain ⟨ws, hw1, hw2⟩ := HS1.out
      have hkp : k < PS.length := by rw [HN.out]; exact hlt
      have hkw : k < ws.length := by rw [hw2.len]; exact hkp
      obtain ⟨b, o, e, hblt, hc⟩ := hw1.2 (by omega)
      obtain rfl : A1 = _ := e
      have ck := hc k hlt
      rw [List.getElem?_eq_getElem hkw] at ck
      obtain ⟨Bk, m, e1, hp1, hm1, hm1', hq7⟩ := hw2.get k hkw hkp
      clear hq7
      rw [e1] at ck
      have hdrop : PS.drop k = PS[k] :: PS.drop (k + 1) := (List.getElem_cons_drop (h := hkp)).symm
      have hmem := List.getElem_mem hkp
      obtain ⟨P, hPk⟩ : ∃ P, PS[k] = P := ⟨_, rfl⟩
      rw [hPk] at ck hp1 hm1 hmem hdrop
      obtain ⟨x, hx⟩ := HIN.out P hmem
      obtain ⟨pl, hpl⟩ : ∃ pl, P.length = pl := ⟨_, rfl⟩
      have HP1 := Lib.hid (show Cel wr w1.heap.size Bk pl (ints P) from by rw [← hpl]; exact hp1.below hb)
      have HPL := Lib.hid hpl
      rw [hpl] at ck hm1
      have HPM := Lib.hid (And.intro hm1 hm1')
      have HXI := Lib.hid (nodeAt_in _ HI.out hx)
      have HXH := Lib.hid (Nat.le_trans (nodeAt_heft _ hx) HH.out)
      have HDR := Lib.hid hdrop
      have HXR := Lib.hid (oneV_range HXI.out phName)
      have HST : Hid (refStep R acc P = if (oneV x phName).2.2 ≠ 0 then ([], (oneV x phName).2.2) else if (oneV x phName).2.1 = false then (acc, 0) else if (oneV x phName).1 = 0 ∨ (oneV x phName).1 = 4294967295 then ([], 11) else if acc.any (fun y => decide (y.1 = (oneV x phName).1)) = true then ([], 9) else (acc ++ [((oneV x phName).1, P)], 0)) := Lib.hid (by unfold refStep; rw [hx])
      have HSR : Hid (if (refStep R acc P).2 = 0 then refsFrom R (refStep R acc P).1 (PS.drop (k + 1)) = RS else RS = ([], (refStep R acc P).2)) := Lib.hid (by
        have h1 := hsum
        rw [hdrop, refsFrom] at h1
        by_cases h0 : (refStep R acc P).2 = 0
        · rw [if_pos h0] at h1 ⊢; exact h1
        · rw [if_neg h0] at h1 ⊢; exact h1.symm)
      have HBW := Lib.hid (HB1.out.trans (hb.mono HB1.out.size))
      have HS : Hid (∀ W, Below wr.heap.size wr W → (W.cell? ⟨w.heap.size, 0, none⟩ = some (.int .u32 boot) ∧ W.cell? ⟨w.heap.size, 1, none⟩ = some (.slice ra rs.length rc) ∧ W.cell? ⟨w.heap.size, 2, none⟩ = some (.string nm) ∧ W.cell? ⟨w.heap.size, 3, none⟩ = some (.slice pa ps.length pc) ∧ W.cell? ⟨w.heap.size, 4, none⟩ = some (.slice ka ks.length kc) ∧ W.cell? ⟨b, o + k, none⟩ = some (Value.slice Bk pl m))) := Lib.hid (fun W hW => by
        have hW1 := hb.trans (hW.mono hb.size)
        obtain ⟨b0, b1, b2, b3, b4⟩ := BX.out W (HX1.out.trans (hW1.mono (by have := HX1.out.size; simpa using this)))
        exact ⟨b0, b1, b2, b3, b4, (hW1.cell (p := ⟨b, o + k, none⟩) hblt).trans ck⟩)
      have CG1 := Lib.hid (fun W (hW : Below wr.heap.size wr W) => CG.out P Bk pl m W (HBW.out.trans (hW.mono HBW.out.size)) ((HP1.out.more HBS.out).on hW) HPM.out.1 HPM.out.2)
      rw [nodeZ_nat, hx] at CG1
      have HONE := Lib.hid (fun W (hW : Below w.heap.size w W) => refone_any x phName W ((HXI.out.under hW).more hW.size) (Nat.le_trans HXH.out (by omega)))
      obtain ⟨hv, fl, er, hov⟩ : ∃ hv fl er, oneV x phName = (hv, fl, er) := ⟨_, _, _, rfl⟩
      rw [hov] at HONE HST HXR
      simp only [oneVal] at HONE HST HXR
      clear hw1 hw2 hkw hc hp1 hpl hmem hPk hkp e1 hdrop hown htwo hsum hb hx hov HXH CG
      obtain ⟨xn, xpa, xpc, xps, xka, xkc, xks⟩ := x
      replace CG1 : Hid (∀ W (hW : Below wr.heap.size wr W), Calls Tryz.prog 10 #[.agg #[.int .u32 boot, .slice ra rs.length rc, .string nm, .slice pa ps.length pc, .slice ka ks.length kc], .slice Bk pl m] W fun e w' => e = .returned (.tuple #[.agg #[.string xn, .slice xpa xps.length xpc, .slice xka xks.length xkc], .bool true]) ∧ Below W.heap.size W w') := CG1
      replace HONE : Hid (∀ W (hW : Below w.heap.size w W), Calls Tryz.prog 18 #[.agg #[.string xn, .slice xpa xps.length xpc, .slice xka xks.length xkc], .string ⟨#[112, 104, 97, 110, 100, 108, 101]⟩] W fun e w' => e = .returned (.tuple #[.int .u32 hv, .bool fl, .int .i64 er]) ∧ Below W.heap.size W w') := HONE
      generalize xks.length = xkl at *
      generalize xps.length = xpl at *
      have HD := Lib.hid (Below.refl wr.heap.size wr).drew
      go_wp2_with fail
      refine wp_region_held_drew (S := fun W => W.cell? ⟨w.heap.size, 0, none⟩ = some (.int .u32 boot) ∧ W.cell? ⟨w.heap.size, 1, none⟩ = some (.slice ra rs.length rc) ∧ W.cell? ⟨w.heap.size, 2, none⟩ = some (.string nm) ∧ W.cell? ⟨w.heap.size, 3, none⟩ = some (.slice pa ps.length pc) ∧ W.cell? ⟨w.heap.size, 4, none⟩ = some (.slice ka ks.length kc) ∧ W.cell? ⟨b, o + k, none⟩ = some (Value.slice Bk pl m)) (by kernel_rfl) (HS.out _ HD.out) (fun hHeld => ?_)
      refine held_take 0 rfl (by kernel_rfl) (by kernel_rfl) (by kernel_rfl) (fun _ _ _ h => h) (by rfl) hHeld (v := ?_) (fun w hSw => ?_) (fun _ => ?_)
      rotate_left
      · ((try dsimp only at hSw); go_simp; (try with_reducible rfl))
      simp only [Act.put, List.setIfInBounds_toArray, List.set_cons_zero, List.set_cons_succ]
      refine held_take 1 rfl (by kernel_rfl) (by kernel_rfl) (by kernel_rfl) (fun _ _ _ h => h) (by rfl) hHeld (v := ?_) (fun w hSw => ?_) (fun _ => ?_)
      rotate_left
      · ((try dsimp only at hSw); go_simp; (try with_reducible rfl))
      simp only [Act.put, List.setIfInBounds_toArray, List.set_cons_zero, List.set_cons_succ]
      refine held_take 2 rfl (by kernel_rfl) (by kernel_rfl) (by kernel_rfl) (fun _ _ _ h => h) (by rfl) hHeld (v := ?_) (fun w hSw => ?_) (fun _ => ?_)
      rotate_left
      · ((try dsimp only at hSw); go_simp; (try with_reducible rfl))
      simp only [Act.put, List.setIfInBounds_toArray, List.set_cons_zero, List.set_cons_succ]
      refine held_take 3 rfl (by kernel_rfl) (by kernel_rfl) (by kernel_rfl) (fun _ _ _ h => h) (by rfl) hHeld (v := ?_) (fun w hSw => ?_) (fun _ => ?_)
      rotate_left
      · ((try dsimp only at hSw); go_simp; (try with_reducible rfl))
      simp only [Act.put, List.setIfInBounds_toArray, List.set_cons_zero, List.set_cons_succ]
      refine held_take 4 rfl (by kernel_rfl) (by kernel_rfl) (by kernel_rfl) (fun _ _ _ h => h) (by rfl) hHeld (v := ?_) (fun w hSw => ?_) (fun _ => ?_)
      rotate_left
      · ((try dsimp only at hSw); go_simp; (try with_reducible rfl))
      simp only [Act.put, List.setIfInBounds_toArray, List.set_cons_zero, List.set_cons_succ]
      refine held_two 5 9 (by kernel_rfl) rfl rfl (by rfl) (by rfl) (fun K hK => ?_) (fun K hK => ?_)
      · go_simp
        refine (CG1.out _ HD.out).mono ?_
        rintro e w2 ⟨rfl, hb2⟩
        have HD2 := Lib.hid (HD.out.trans hb2)
        clear hb2
        dsimp only
        refine hK.out _ _ (HS.out _ HD2.out) (fun hHeld => ?_)
        clear hK K
        refine held_take 6 rfl (by kernel_rfl) (by kernel_rfl) (by kernel_rfl) (fun _ _ _ h => h) (by rfl) hHeld (v := ?_) (fun w hSw => ?_) (fun _ => ?_)
        rotate_left
        · ((try dsimp only at hSw); go_simp; (try with_reducible rfl))
        simp only [Act.put, List.setIfInBounds_toArray, List.set_cons_zero, List.set_cons_succ]
        refine held_take 7 rfl (by kernel_rfl) (by kernel_rfl) (by kernel_rfl) (fun _ _ _ h => h) (by rfl) hHeld (v := ?_) (fun w hSw => ?_) (fun _ => ?_)
        rotate_left
        · ((try dsimp only at hSw); go_simp; (try with_reducible rfl))
        simp only [Act.put, List.setIfInBounds_toArray, List.set_cons_zero, List.set_cons_succ]
        refine held_take 8 rfl (by kernel_rfl) (by kernel_rfl) (by kernel_rfl) (fun _ _ _ h => h) (by rfl) hHeld (v := ?_) (fun w hSw => ?_) (fun _ => ?_)
        rotate_left
        · ((try dsimp only at hSw); go_simp; (try with_reducible rfl))
        simp only [Act.put, List.setIfInBounds_toArray, List.set_cons_zero, List.set_cons_succ]
        refine held_call 9 (by kernel_rfl) rfl (by rfl) (fun K hK => ?_)
        go_simp
        refine hK.out _ _ (HS.out _ (HD2.out.alloc HD2.out.size _)) (fun hHeld => ?_)
        clear hK K
        refine held_call 10 (by kernel_rfl) rfl (by rfl) (fun K hK => ?_)
        go_simp
        have H10 := Lib.hid (HD2.out.alloc HD2.out.size (.cells #[.string xn, .slice xpa xpl xpc, .slice xka xkl xkc] 27))
        refine hK.out _ _ (HS.out _ H10.out) (fun hHeld => ?_)
        clear hK K
        refine held_take 11 rfl (by kernel_rfl) (by kernel_rfl) (by kernel_rfl) (fun _ _ _ h => h) (by rfl) hHeld (v := ?_) (fun w hSw => ?_) (fun _ => ?_)
        rotate_left
        · ((try dsimp only at hSw); go_simp; (try with_reducible rfl))
        simp only [Act.put, List.setIfInBounds_toArray, List.set_cons_zero, List.set_cons_succ]
        refine wpAnyH_done (by kernel_rfl) ?_ _
        clear hHeld
        obtain ⟨W, hWe⟩ : ∃ W, W = w2.alloc (.cells #[.string xn, .slice xpa xpl xpc, .slice xka xkl xkc] 27) := ⟨_, rfl⟩
        obtain ⟨gb, hgb⟩ : ∃ gb, gb = w2.heap.size := ⟨_, rfl⟩
        have hkW : W.heap[gb]? = some (.cells #[.string xn, .slice xpa xpl xpc, .slice xka xkl xkc] 27 (0, 0)) := by rw [hWe, hgb]; exact heap_alloc_new w2 _
        have hbW : Below wr.heap.size wr W := by rw [hWe]; exact H10.out
        rw [← hWe, ← hgb]
        clear hWe hgb H10 HD2
        have c0 : W.cell? ⟨gb, 0, none⟩ = some (.string xn) := by rw [Lib.cell_of_heap hkW]; rfl
        have c1 : W.cell? ⟨gb, 1, none⟩ = some (.slice xpa xpl xpc) := by rw [Lib.cell_of_heap hkW]; rfl
        have c2 : W.cell? ⟨gb, 2, none⟩ = some (.slice xka xkl xkc) := by rw [Lib.cell_of_heap hkW]; rfl
        have HC3 := Lib.hid (HONE.out W (HBW.out.trans (hbW.mono HBW.out.size)))
        have HBW2 := Lib.hid hbW
        clear hkW hbW
        go_wp2_with fail
        refine HC3.out.mono ?_
        rintro e w3 ⟨rfl, hb3⟩
        have HB3 := Lib.hid (HBW2.out.trans (hb3.mono HBW2.out.size))
        have HB4 := Lib.hid (HBX.out.trans (HB3.out.mono HBS.out))
        have HBZ := Lib.hid (HBW.out.trans (HB3.out.mono HBW.out.size))
        obtain ⟨d0, d1, d2, d3, d4, dk⟩ := HS.out _ HB3.out
        have HO3 := Lib.hid (own_on HO.out HB3.out)
        have HT3 := Lib.hid (HT.out.mono fun v r hv => hv.below (HB3.out.mono HBS.out))
        clear hb3 c0 c1 c2
        by_cases her : er = 0
        · subst her
          cases fl
          · have HN3 : Hid (refsFrom R acc (PS.drop (k + 1)) = RS) := Lib.hid (by
              have h1 := HSR.out
              rw [HST.out] at h1
              simpa using h1)
            clear d0 d1 d2 d3 d4 dk
            go_wp2
            go_roundw
            case rel => exact ⟨k + 1, acc, vs, by omega, by go_num, HO3.out, HT3.out, HN3.out, by omega, HB4.out⟩
            case measure => simp [intOf]; omega
          · by_cases h00 : hv = 0
            · have HN3 : Hid (RS = ([], 11)) := Lib.hid (by
                have h1 := HSR.out
                rw [HST.out] at h1
                simpa [h00] using h1)
              have k1 : (hv == 0) = true := by rw [beq_iff_eq]; exact h00
              clear d0 d1 d2 d3 d4 dk h00
              go_wp2
              go_ret2
              exact ⟨⟨none, 0, 0, by (rw [HN3.out] <;> rfl), by rw [HN3.out]; exact RefShow.nil _ _ _, Nat.le_refl _, by omega⟩, HBZ.out⟩
            · have k1 : (hv == 0) = false := by rw [beq_eq_false_iff_ne]; exact h00
              by_cases h01 : hv = 4294967295
              · have HN3 : Hid (RS = ([], 11)) := Lib.hid (by
                  have h1 := HSR.out
                  rw [HST.out] at h1
                  simpa [h01] using h1)
                have k2 : (hv == 4294967295) = true := by rw [beq_iff_eq]; exact h01
                clear d0 d1 d2 d3 d4 dk h00 h01
                go_wp2
                go_ret2
                exact ⟨⟨none, 0, 0, by (rw [HN3.out] <;> rfl), by rw [HN3.out]; exact RefShow.nil _ _ _, Nat.le_refl _, by omega⟩, HBZ.out⟩
              · have k2 : (hv == 4294967295) = false := by rw [beq_eq_false_iff_ne]; exact h01
                have HSH : Hid (RefShow w3 w3.heap.size Ao acc.length acc) := Lib.hid (by
                  obtain ⟨A', c', e, h2, _⟩ := owned_cel2 HO3.out
                  simp only [Value.slice.injEq, true_and] at e
                  obtain ⟨rfl, rfl⟩ := e
                  exact ⟨vs, h2, HT3.out.mono fun v r hv => hv.more HB4.out.size⟩)
                have HST2 : Hid (refStep R acc P = if acc.any (fun y => decide (y.1 = hv)) = true then ([], 9) else (acc ++ [(hv, P)], 0)) := Lib.hid (by
                  rw [HST.out]
                  simp [h00, h01])
                obtain ⟨M, hM⟩ : ∃ M, acc.length = M := ⟨_, rfl⟩
                have HM := Lib.hid hM
                rw [hM] at HO3 HSH hco1 hal
                rw [hM]
                clear h00 h01 hM hcel hob hvl
                go_wp2_with fail
                go_loop [49] (fun i => ∃ j : Nat, j ≤ M ∧ i = .int .i64 j ∧ ∀ y ∈ acc.take j, y.1 ≠ hv) (fun i => M - (intOf i).toNat)
                case atStart => exact ⟨0, Nat.zero_le _, rfl, by simp⟩
                case round =>
                  obtain ⟨j, hj, rfl, hall⟩ := hrel
                  have HALL := Lib.hid hall
                  clear hall
                  by_cases hjl : j < M
                  · have hja : j < acc.length := by rw [HM.out]; exact hjl
                    obtain ⟨b', o', A2, c2, e, _, q1, q2⟩ := HSH.out.at_ hja
                    clear q2
                    obtain rfl : Ao = _ := e
                    obtain ⟨hy, hhy⟩ : ∃ hy, acc[j].1 = hy := ⟨_, rfl⟩
                    rw [hhy] at q1
                    by_cases heq : hy = hv
                    · have HN3 : Hid (RS = ([], 9)) := Lib.hid (by
                        have h1 := HSR.out
                        rw [HST2.out, if_pos (List.any_eq_true.2 ⟨acc[j], List.getElem_mem hja, decide_eq_true (hhy.trans heq)⟩)] at h1
                        simpa using h1)
                      have k3 : (hy == hv) = true := by rw [beq_iff_eq]; exact heq
                      clear d0 d1 d2 d3 d4 dk heq hhy hja
                      go_wp2
                      go_ret2
                      exact ⟨⟨none, 0, 0, by (rw [HN3.out] <;> rfl), by rw [HN3.out]; exact RefShow.nil _ _ _, Nat.le_refl _, by omega⟩, HBZ.out⟩
                    · have k3 : (hy == hv) = false := by rw [beq_eq_false_iff_ne]; exact heq
                      have HAL2 : Hid (∀ y ∈ acc.take (j + 1), y.1 ≠ hv) := Lib.hid (fun y hy2 => by
                        rw [List.take_add_one, List.getElem?_eq_getElem hja] at hy2
                        rcases List.mem_append.1 hy2 with h | h
                        · exact HALL.out y h
                        · simp only [Option.toList_some, List.mem_singleton] at h
                          rw [h, hhy]; exact heq)
                      clear heq hhy hja
                      go_wp2
                      go_round
                      case rel => exact ⟨j + 1, by omega, by go_num, HAL2.out⟩
                      case measure => simp [intOf]; omega
                  · obtain rfl : j = M := by omega
                    have HN3 : Hid (refsFrom R (acc ++ [(hv, P)]) (PS.drop (k + 1)) = RS) := Lib.hid (by
                      have h1 := HSR.out
                      have hany : acc.any (fun y => decide (y.1 = hv)) = false := by
                        rw [List.any_eq_false]
                        intro y hy
                        have h2 := HALL.out y (by rw [List.take_of_length_le (by rw [HM.out]; exact Nat.le_refl _)]; exact hy)
                        simpa using h2
                      rw [HST2.out, hany] at h1
                      simpa using h1)
                    obtain ⟨i0, hi, hz, hs1, hby⟩ := info_any info_ref
                    obtain ⟨A', c', w5, r5, o5, b5, _, _⟩ := app_pair Tryz.underlying35 hi hz hs1 hby rfl HO3.out (.int .u32 hv, .slice Bk pl m) rfl rfl (by omega) (by omega) HB4.out.size 35
                    have HO5 : Hid (w5.ownsRow w1.heap.size 41 2 (.slice A' (j + 1) c') (acc ++ [(hv, P)]).length (flat2 (vs ++ [(Value.int .u32 hv, Value.slice Bk pl m)]))) := Lib.hid (by rw [List.length_append, HM.out]; exact o5)
                    have HT5 : Hid (Two (RefV w5 w1.heap.size) (vs ++ [(Value.int .u32 hv, Value.slice Bk pl m)]) (acc ++ [(hv, P)])) := Lib.hid ((HT3.out.mono fun v r hv => hv.below b5).app (.cons ⟨rfl, Bk, m, by rw [HPL.out], by rw [HPL.out]; exact (HP1.out.below (HB3.out.mono HBS.out)).below b5, by rw [HPL.out]; exact HPM.out.1, HPM.out.2⟩ .nil))
                    have HB5 := Lib.hid (HB4.out.trans b5)
                    clear o5 b5 hi hz hs1 hby
                    go_wp2_with (at_builtin; refine Lib.wpList_append_run_sl _ rfl _ _ _ rfl _ _ rfl rfl r5 ?_)
                    go_roundw
                    case rel => exact ⟨k + 1, acc ++ [(hv, P)], vs ++ [(Value.int .u32 hv, Value.slice Bk pl m)], by omega, by go_num, HO5.out, HT5.out, HN3.out, by rw [List.length_append, HM.out]; simp; omega, HB5.out⟩
                    case measure => simp [intOf]; omega
        · have k1 : (er != 0) = true := by rw [bne_iff_ne]; exact her
          have HN3 : Hid (RS = ([], er)) := Lib.hid (by
            have h1 := HSR.out
            rw [HST.out] at h1
            simpa [her] using h1)
          clear d0 d1 d2 d3 d4 dk her
          go_wp2
          go_ret2
          exact ⟨⟨none, 0, 0, by (rw [HN3.out] <;> rfl), by rw [HN3.out]; exact RefShow.nil _ _ _, Nat.le_refl _, by omega⟩, HBZ.out⟩
      · go_simp
        have HZ1 := Lib.hid ((Below.refl wr.heap.size wr).alloc (Nat.le_refl _) (.cells #[.string ⟨#[]⟩, .slice none 0 0, .slice none 0 0] 27)).drew
        refine hK.out _ _ (HS.out _ HZ1.out) (fun hHeld => ?_)
        clear hK K
        refine held_call 5 (by kernel_rfl) rfl (by rfl) (fun K hK => ?_)
        go_simp
        refine (CG1.out _ HZ1.out).mono ?_
        rintro e w2 ⟨rfl, hb2⟩
        have HD2 := Lib.hid (HZ1.out.trans (hb2.mono (by simp)))
        have hz2 : w2.heap[wr.heap.size]? = some (.cells #[.string ⟨#[]⟩, .slice none 0 0, .slice none 0 0] 27 (0, 0)) := (hb2.block wr.heap.size (by simp)).trans (heap_alloc_new wr _)
        clear hb2
        dsimp only
        refine hK.out _ _ (HS.out _ HD2.out) (fun hHeld => ?_)
        clear hK K
        refine held_take 6 rfl (by kernel_rfl) (by kernel_rfl) (by kernel_rfl) (fun _ _ _ h => h) (by rfl) hHeld (v := ?_) (fun w hSw => ?_) (fun _ => ?_)
        rotate_left
        · ((try dsimp only at hSw); go_simp; (try with_reducible rfl))
        simp only [Act.put, List.setIfInBounds_toArray, List.set_cons_zero, List.set_cons_succ]
        refine held_take 7 rfl (by kernel_rfl) (by kernel_rfl) (by kernel_rfl) (fun _ _ _ h => h) (by rfl) hHeld (v := ?_) (fun w hSw => ?_) (fun _ => ?_)
        rotate_left
        · ((try dsimp only at hSw); go_simp; (try with_reducible rfl))
        simp only [Act.put, List.setIfInBounds_toArray, List.set_cons_zero, List.set_cons_succ]
        refine held_take 8 rfl (by kernel_rfl) (by kernel_rfl) (by kernel_rfl) (fun _ _ _ h => h) (by rfl) hHeld (v := ?_) (fun w hSw => ?_) (fun _ => ?_)
        rotate_left
        · ((try dsimp only at hSw); go_simp; (try with_reducible rfl))
        simp only [Act.put, List.setIfInBounds_toArray, List.set_cons_zero, List.set_cons_succ]
        have y0 : w2.cell? ⟨wr.heap.size, 0, none⟩ = some (.string ⟨#[]⟩) := by rw [Lib.cell_of_heap hz2]; rfl
        have y1 : w2.cell? ⟨wr.heap.size, 1, none⟩ = some (.slice none 0 0) := by rw [Lib.cell_of_heap hz2]; rfl
        have y2 : w2.cell? ⟨wr.heap.size, 2, none⟩ = some (.slice none 0 0) := by rw [Lib.cell_of_heap hz2]; rfl
        have e0 := Lib.frozen_of_heap hz2 0
        have e1 := Lib.frozen_of_heap hz2 1
        have e2 := Lib.frozen_of_heap hz2 2
        refine held_call 10 (by kernel_rfl) rfl (by rfl) (fun K hK => ?_)
        go_simp
        have H10 : Hid (Below wr.heap.size wr (((w2.setCell ⟨wr.heap.size, 0, none⟩ (.string xn)).setCell ⟨wr.heap.size, 1, none⟩ (.slice xpa xpl xpc)).setCell ⟨wr.heap.size, 2, none⟩ (.slice xka xkl xkc))) := Lib.hid (below_sets HD2.out 0 _ (Nat.le_refl _) _ _ _)
        refine hK.out _ _ (HS.out _ H10.out) (fun hHeld => ?_)
        clear hK K
        refine held_take 11 rfl (by kernel_rfl) (by kernel_rfl) (by kernel_rfl) (fun _ _ _ h => h) (by rfl) hHeld (v := ?_) (fun w hSw => ?_) (fun _ => ?_)
        rotate_left
        · ((try dsimp only at hSw); go_simp; (try with_reducible rfl))
        simp only [Act.put, List.setIfInBounds_toArray, List.set_cons_zero, List.set_cons_succ]
        refine wpAnyH_done (by kernel_rfl) ?_ _
        clear hHeld
        obtain ⟨W, hWe⟩ : ∃ W, W = (((w2.setCell ⟨wr.heap.size, 0, none⟩ (.string xn)).setCell ⟨wr.heap.size, 1, none⟩ (.slice xpa xpl xpc)).setCell ⟨wr.heap.size, 2, none⟩ (.slice xka xkl xkc)) := ⟨_, rfl⟩
        obtain ⟨gb, hgb⟩ : ∃ gb, gb = wr.heap.size := ⟨_, rfl⟩
        have hkW : W.heap[gb]? = some (.cells #[.string xn, .slice xpa xpl xpc, .slice xka xkl xkc] 27 (0, 0)) := by rw [hWe, hgb]; exact heap_set3 0 _ hz2 _ _ _
        have hbW : Below wr.heap.size wr W := by rw [hWe]; exact H10.out
        rw [← hWe, ← hgb]
        clear hWe hgb H10 HD2 hz2 y0 y1 y2 e0 e1 e2
        have c0 : W.cell? ⟨gb, 0, none⟩ = some (.string xn) := by rw [Lib.cell_of_heap hkW]; rfl
        have c1 : W.cell? ⟨gb, 1, none⟩ = some (.slice xpa xpl xpc) := by rw [Lib.cell_of_heap hkW]; rfl
        have c2 : W.cell? ⟨gb, 2, none⟩ = some (.slice xka xkl xkc) := by rw [Lib.cell_of_heap hkW]; rfl
        have HC3 := Lib.hid (HONE.out W (HBW.out.trans (hbW.mono HBW.out.size)))
        have HBW2 := Lib.hid hbW
        clear hkW hbW
        go_wp2_with fail
        refine HC3.out.mono ?_
        rintro e w3 ⟨rfl, hb3⟩
        have HB3 := Lib.hid (HBW2.out.trans (hb3.mono HBW2.out.size))
        have HB4 := Lib.hid (HBX.out.trans (HB3.out.mono HBS.out))
        have HBZ := Lib.hid (HBW.out.trans (HB3.out.mono HBW.out.size))
        obtain ⟨d0, d1, d2, d3, d4, dk⟩ := HS.out _ HB3.out
        have HO3 := Lib.hid (own_on HO.out HB3.out)
        have HT3 := Lib.hid (HT.out.mono fun v r hv => hv.below (HB3.out.mono HBS.out))
        clear hb3 c0 c1 c2
        by_cases her : er = 0
        · subst her
          cases fl
          · have HN3 : Hid (refsFrom R acc (PS.drop (k + 1)) = RS) := Lib.hid (by
              have h1 := HSR.out
              rw [HST.out] at h1
              simpa using h1)
            clear d0 d1 d2 d3 d4 dk
            go_wp2
            go_roundw
            case rel => exact ⟨k + 1, acc, vs, by omega, by go_num, HO3.out, HT3.out, HN3.out, by omega, HB4.out⟩
            case measure => simp [intOf]; omega
          · by_cases h00 : hv = 0
            · have HN3 : Hid (RS = ([], 11)) := Lib.hid (by
                have h1 := HSR.out
                rw [HST.out] at h1
                simpa [h00] using h1)
              have k1 : (hv == 0) = true := by rw [beq_iff_eq]; exact h00
              clear d0 d1 d2 d3 d4 dk h00
              go_wp2
              go_ret2
              exact ⟨⟨none, 0, 0, by (rw [HN3.out] <;> rfl), by rw [HN3.out]; exact RefShow.nil _ _ _, Nat.le_refl _, by omega⟩, HBZ.out⟩
            · have k1 : (hv == 0) = false := by rw [beq_eq_false_iff_ne]; exact h00
              by_cases h01 : hv = 4294967295
              · have HN3 : Hid (RS = ([], 11)) := Lib.hid (by
                  have h1 := HSR.out
                  rw [HST.out] at h1
                  simpa [h01] using h1)
                have k2 : (hv == 4294967295) = true := by rw [beq_iff_eq]; exact h01
                clear d0 d1 d2 d3 d4 dk h00 h01
                go_wp2
                go_ret2
                exact ⟨⟨none, 0, 0, by (rw [HN3.out] <;> rfl), by rw [HN3.out]; exact RefShow.nil _ _ _, Nat.le_refl _, by omega⟩, HBZ.out⟩
              · have k2 : (hv == 4294967295) = false := by rw [beq_eq_false_iff_ne]; exact h01
                have HSH : Hid (RefShow w3 w3.heap.size Ao acc.length acc) := Lib.hid (by
                  obtain ⟨A', c', e, h2, _⟩ := owned_cel2 HO3.out
                  simp only [Value.slice.injEq, true_and] at e
                  obtain ⟨rfl, rfl⟩ := e
                  exact ⟨vs, h2, HT3.out.mono fun v r hv => hv.more HB4.out.size⟩)
                have HST2 : Hid (refStep R acc P = if acc.any (fun y => decide (y.1 = hv)) = true then ([], 9) else (acc ++ [(hv, P)], 0)) := Lib.hid (by
                  rw [HST.out]
                  simp [h00, h01])
                obtain ⟨M, hM⟩ : ∃ M, acc.length = M := ⟨_, rfl⟩
                have HM := Lib.hid hM
                rw [hM] at HO3 HSH hco1 hal
                rw [hM]
                clear h00 h01 hM hcel hob hvl
                go_wp2_with fail
                go_loop [49] (fun i => ∃ j : Nat, j ≤ M ∧ i = .int .i64 j ∧ ∀ y ∈ acc.take j, y.1 ≠ hv) (fun i => M - (intOf i).toNat)
                case atStart => exact ⟨0, Nat.zero_le _, rfl, by simp⟩
                case round =>
                  obtain ⟨j, hj, rfl, hall⟩ := hrel
                  have HALL := Lib.hid hall
                  clear hall
                  by_cases hjl : j < M
                  · have hja : j < acc.length := by rw [HM.out]; exact hjl
                    obtain ⟨b', o', A2, c2, e, _, q1, q2⟩ := HSH.out.at_ hja
                    clear q2
                    obtain rfl : Ao = _ := e
                    obtain ⟨hy, hhy⟩ : ∃ hy, acc[j].1 = hy := ⟨_, rfl⟩
                    rw [hhy] at q1
                    by_cases heq : hy = hv
                    · have HN3 : Hid (RS = ([], 9)) := Lib.hid (by
                        have h1 := HSR.out
                        rw [HST2.out, if_pos (List.any_eq_true.2 ⟨acc[j], List.getElem_mem hja, decide_eq_true (hhy.trans heq)⟩)] at h1
                        simpa using h1)
                      have k3 : (hy == hv) = true := by rw [beq_iff_eq]; exact heq
                      clear d0 d1 d2 d3 d4 dk heq hhy hja
                      go_wp2
                      go_ret2
                      exact ⟨⟨none, 0, 0, by (rw [HN3.out] <;> rfl), by rw [HN3.out]; exact RefShow.nil _ _ _, Nat.le_refl _, by omega⟩, HBZ.out⟩
                    · have k3 : (hy == hv) = false := by rw [beq_eq_false_iff_ne]; exact heq
                      have HAL2 : Hid (∀ y ∈ acc.take (j + 1), y.1 ≠ hv) := Lib.hid (fun y hy2 => by
                        rw [List.take_add_one, List.getElem?_eq_getElem hja] at hy2
                        rcases List.mem_append.1 hy2 with h | h
                        · exact HALL.out y h
                        · simp only [Option.toList_some, List.mem_singleton] at h
                          rw [h, hhy]; exact heq)
                      clear heq hhy hja
                      go_wp2
                      go_round
                      case rel => exact ⟨j + 1, by omega, by go_num, HAL2.out⟩
                      case measure => simp [intOf]; omega
                  · obtain rfl : j = M := by omega
                    have HN3 : Hid (refsFrom R (acc ++ [(hv, P)]) (PS.drop (k + 1)) = RS) := Lib.hid (by
                      have h1 := HSR.out
                      have hany : acc.any (fun y => decide (y.1 = hv)) = false := by
                        rw [List.any_eq_false]
                        intro y hy
                        have h2 := HALL.out y (by rw [List.take_of_length_le (by rw [HM.out]; exact Nat.le_refl _)]; exact hy)
                        simpa using h2
                      rw [HST2.out, hany] at h1
                      simpa using h1)
                    obtain ⟨i0, hi, hz, hs1, hby⟩ := info_any info_ref
                    obtain ⟨A', c', w5, r5, o5, b5, _, _⟩ := app_pair Tryz.underlying35 hi hz hs1 hby rfl HO3.out (.int .u32 hv, .slice Bk pl m) rfl rfl (by omega) (by omega) HB4.out.size 35
                    have HO5 : Hid (w5.ownsRow w1.heap.size 41 2 (.slice A' (j + 1) c') (acc ++ [(hv, P)]).length (flat2 (vs ++ [(Value.int .u32 hv, Value.slice Bk pl m)]))) := Lib.hid (by rw [List.length_append, HM.out]; exact o5)
                    have HT5 : Hid (Two (RefV w5 w1.heap.size) (vs ++ [(Value.int .u32 hv, Value.slice Bk pl m)]) (acc ++ [(hv, P)])) := Lib.hid ((HT3.out.mono fun v r hv => hv.below b5).app (.cons ⟨rfl, Bk, m, by rw [HPL.out], by rw [HPL.out]; exact (HP1.out.below (HB3.out.mono HBS.out)).below b5, by rw [HPL.out]; exact HPM.out.1, HPM.out.2⟩ .nil))
                    have HB5 := Lib.hid (HB4.out.trans b5)
                    clear o5 b5 hi hz hs1 hby
                    go_wp2_with (at_builtin; refine Lib.wpList_append_run_sl _ rfl _ _ _ rfl _ _ rfl rfl r5 ?_)
                    go_roundw
                    case rel => exact ⟨k + 1, acc ++ [(hv, P)], vs ++ [(Value.int .u32 hv, Value.slice Bk pl m)], by omega, by go_num, HO5.out, HT5.out, HN3.out, by rw [List.length_append, HM.out]; simp; omega, HB5.out⟩
                    case measure => simp [intOf]; omega
        · have k1 : (er != 0) = true := by rw [bne_iff_ne]; exact her
          have HN3 : Hid (RS = ([], er)) := Lib.hid (by
            have h1 := HSR.out
            rw [HST.out] at h1
            simpa [her] using h1)
          clear d0 d1 d2 d3 d4 dk her
          go_wp2
          go_ret2
          exact ⟨⟨none, 0, 0, by (rw [HN3.out] <;> rfl), by rw [HN3.out]; exact RefShow.nil _ _ _, Nat.le_refl _, by omega⟩, HBZ.out⟩
    · obtain rfl : k = N := by omega
      have HE : Hid (RS = (acc, 0)) := Lib.hid (by
        rw [List.drop_of_length_le (by rw [HN.out]; exact Nat.le_refl _), refsFrom] at hsum
        exact hsum.symm)
      have HF : Hid (RefShow wr wr.heap.size Ao acc.length acc) := Lib.hid (by
        exact ⟨vs, hcel, htwo.mono fun v r hv => hv.more HBS.out⟩)
      have HBZ := Lib.hid (HB1.out.trans (hb.mono HB1.out.size))
      clear hown htwo hsum hb hcel hob hvl
      go_wp2
      go_ret2
      exact ⟨⟨Ao, acc.length, co, by (rw [HE.out] <;> rfl), by rw [HE.out]; exact HF.out, by omega, hco2⟩, HBZ.out⟩
end Go.Proofs.YtihlpcbebpnmkaaGreatDoor

/-! Layer 4: words.Text and words.Pad at slices of any length; bytes.Clone. -/
namespace Go.Proofs.YtihlpcbebpnmkaaGreatDoor
open Go.RowKit
set_option linter.unusedVariables false
set_option linter.unusedSimpArgs false

theorem byte_eq_zero (z : Int) (h : 0 ≤ z ∧ z < 256) : UInt8.ofNat z.toNat = (0 : Int).toNat.toUInt8 ↔ z = 0 := by
  constructor
  · intro e
    have e2 := congrArg UInt8.toNat e
    simp at e2
    omega
  · rintro rfl; rfl

theorem index_none (zs : List Int) (a n : Nat) (hz : ∀ z ∈ zs, 0 ≤ z ∧ z < 256) (hl : zs.length = n) (h : NoHit zs a n) : Lib.indexByte (Lib.bytesOf (zs.drop a)) (0 : Int).toNat.toUInt8 = -1 := by
  have hge := Lib.indexByte_ge (Lib.bytesOf (zs.drop a)) (0 : Int).toNat.toUInt8
  by_cases hn : Lib.indexByte (Lib.bytesOf (zs.drop a)) (0 : Int).toNat.toUInt8 = -1
  · exact hn
  · obtain ⟨o, ho⟩ : ∃ o : Nat, Lib.indexByte (Lib.bytesOf (zs.drop a)) (0 : Int).toNat.toUInt8 = o := ⟨_, (Int.toNat_of_nonneg (by omega)).symm⟩
    have h1 := (Lib.indexByte_some ho).1
    rw [Lib.bytesOf, List.getElem?_map, List.getElem?_drop] at h1
    obtain ⟨z, h2, h3⟩ := Option.map_eq_some_iff.1 h1
    have hlt : a + o < n := by
      rcases Nat.lt_or_ge (a + o) zs.length with h | h
      · omega
      · rw [List.getElem?_eq_none h] at h2; cases h2
    exact absurd ((byte_eq_zero z (hz z (List.mem_of_getElem? h2))).1 h3) (by have := h (a + o) (by omega) hlt; simpa [List.getD, h2] using this)

theorem index_some (zs : List Int) (a n i : Nat) (hz : ∀ z ∈ zs, 0 ≤ z ∧ z < 256) (hl : zs.length = n) (h : HitAt zs a n i) : Lib.indexByte (Lib.bytesOf (zs.drop a)) (0 : Int).toNat.toUInt8 = ((i - a : Nat) : Int) := by
  obtain ⟨h1, h2, h3, h4⟩ := h
  have hge := Lib.indexByte_ge (Lib.bytesOf (zs.drop a)) (0 : Int).toNat.toUInt8
  have hi : (Lib.bytesOf (zs.drop a))[i - a]? = some (0 : Int).toNat.toUInt8 := by
    have e : zs[i]? = some zs[i] := List.getElem?_eq_getElem (by omega)
    rw [Lib.bytesOf, List.getElem?_map, List.getElem?_drop, show a + (i - a) = i from by omega, e]
    have e2 : zs[i] = 0 := by simpa [List.getD, e] using h3
    rw [e2]; rfl
  by_cases hn : Lib.indexByte (Lib.bytesOf (zs.drop a)) (0 : Int).toNat.toUInt8 = -1
  · exact absurd hi (Lib.indexByte_none hn _)
  · obtain ⟨o, ho⟩ : ∃ o : Nat, Lib.indexByte (Lib.bytesOf (zs.drop a)) (0 : Int).toNat.toUInt8 = o := ⟨_, (Int.toNat_of_nonneg (by omega)).symm⟩
    obtain ⟨k1, k2⟩ := Lib.indexByte_some ho
    rw [ho]
    congr 1
    rcases Nat.lt_trichotomy o (i - a) with h5 | h5 | h5
    · rw [Lib.bytesOf, List.getElem?_map, List.getElem?_drop] at k1
      obtain ⟨z, g2, g3⟩ := Option.map_eq_some_iff.1 k1
      exact absurd ((byte_eq_zero z (hz z (List.mem_of_getElem? g2))).1 g3) (by have := h4 (a + o) (by omega) (by omega); simpa [List.getD, g2] using this)
    · exact h5
    · exact absurd hi (k2 _ h5)

/-- bytes.IndexByte over bytes that are shown, from a on; the slice may be empty. -/
theorem indexb_any (A : Option Addr) (n c : Nat) (zs : List Int) (w : World) (B : Nat) (hs : Shows w B A n zs) (h0 : 0 < n) :
    Calls Tryz.prog 94 #[.slice A n c, .int .u8 0] w fun e w' => e = .returned (.int .i64 (Lib.indexByte (Lib.bytesOf zs) (0 : Int).toNat.toUInt8)) ∧ w = w' := by
  obtain ⟨b, o, rfl, _, hc⟩ := hs.at_ h0
  exact (Go.Proofs.Tryz.bytes_IndexByte b o n c zs 0 w hs.1 hc).mono fun e w' ⟨h1, h2⟩ => ⟨h1, h2.symm⟩

set_option maxHeartbeats 400000 in
theorem text_off (A : Option Addr) (n c : Nat) (at_ : Int) (w : World) (hn : n ≤ 134217728) (h : at_ < 0 ∨ (n : Int) ≤ at_) :
    Calls Tryz.prog 68 #[.slice A n c, .int .i64 at_] w fun e w' => e = .returned (.tuple #[.string ByteArray.empty, .bool false]) ∧ w = w' := by
  by_cases h0 : at_ < 0
  · go_enter Tryz.func68, Tryz.ntmps68
    go_wp2
    go_ret2
    exact ⟨rfl, rfl⟩
  · have h1 : (n : Int) ≤ at_ := by omega
    go_enter Tryz.func68, Tryz.ntmps68
    go_wp2
    go_ret2
    exact ⟨rfl, rfl⟩

set_option maxHeartbeats 400000 in
theorem text_no (A : Option Addr) (n c a : Nat) (zs : List Int) (w : World) (B : Nat) (hs : Shows w B A n zs) (hn : n ≤ 134217728) (hnc : n ≤ c) (ha : a < n) (h : NoHit zs a n) :
    Calls Tryz.prog 68 #[.slice A n c, .int .i64 a] w fun e w' => e = .returned (.tuple #[.string ByteArray.empty, .bool false]) ∧ w = w' := by
  have hi := index_none zs a n hs.2.1 hs.1 h
  have C := Lib.hid (indexb_any (cutAt A c a) (n - a) (c - a) (zs.drop a) w B (hs.from_ (Nat.le_of_lt ha) hnc) (by omega))
  rw [hi] at C
  have r1 := run_from (P := Tryz.prog) Tryz.underlying59 size_u8 A n c (a : Int) a rfl (Nat.le_of_lt ha)
  have h0 : ¬ ((a : Int) < 0) := by omega
  have h1 : (a : Int) < (n : Int) := by omega
  clear hs h hi hnc ha
  go_enter Tryz.func68, Tryz.ntmps68
  go_wp2_with fail
  refine C.out.mono ?_
  rintro e w' ⟨rfl, rfl⟩
  go_wp2
  go_ret2
  exact ⟨rfl, rfl⟩

set_option maxRecDepth 20000 in
set_option maxHeartbeats 1000000 in
theorem text_yes (A : Option Addr) (n c a i : Nat) (zs : List Int) (w : World) (B : Nat) (hs : Shows w B A n zs) (hn : n ≤ 134217728) (hnc : n ≤ c) (h : HitAt zs a n i) :
    Calls Tryz.prog 68 #[.slice A n c, .int .i64 a] w fun e w' => e = .returned (.tuple #[.string (strOfNums ((zs.drop a).take (i - a))), .bool true]) ∧ w = w' := by
  have hi := index_some zs a n i hs.2.1 hs.1 h
  have h2 := h.1
  have h3 := h.2.1
  have C := Lib.hid (indexb_any (cutAt A c a) (n - a) (c - a) (zs.drop a) w B (hs.from_ (by omega) hnc) (by omega))
  rw [hi] at C
  have r1 := run_from (P := Tryz.prog) Tryz.underlying59 size_u8 A n c (a : Int) a rfl (by omega)
  obtain ⟨m, rfl⟩ : ∃ m, i = a + m := ⟨i - a, by omega⟩
  simp only [Nat.add_sub_cancel_left] at C ⊢
  have ei : IntKind.i64.wrap ((a : Int) + (m : Int)) = (a : Int) + (m : Int) := IntWalk.i64_in _ (by omega)
  have r2 := run_cut (P := Tryz.prog) Tryz.underlying59 size_u8 A n c (a : Int) ((a : Int) + (m : Int)) a (a + m) rfl (by omega) (by omega) (by omega)
  simp only [Nat.add_sub_cancel_left] at r2
  have hcv := run_string (hs.cut (l := a) (h := a + m) (by omega) (by omega) hnc) (c - a)
  simp only [Nat.add_sub_cancel_left] at hcv
  have h0 : ¬ ((a : Int) < 0) := by omega
  have h1 : (a : Int) < (n : Int) := by omega
  clear hs h hi hnc h2
  go_enter Tryz.func68, Tryz.ntmps68
  go_wp2_with fail
  refine C.out.mono ?_
  rintro e w' ⟨rfl, rfl⟩
  go_wp2
  go_ret2
  exact ⟨rfl, rfl⟩

theorem and_three (n : Int) (h0 : 0 ≤ n) (h1 : n ≤ 9223372036854775807) : bits .and .i64 (-n) 3 = (-n) % 4 := by
  show IntKind.i64.wrap ((BitVec.ofInt 64 (-n) &&& BitVec.ofInt 64 3).toNat : Int) = _
  rw [BitVec.toNat_and, show (BitVec.ofInt 64 3).toNat = 3 from rfl, nat_mask2, BitVec.toNat_ofInt, IntWalk.i64_in _ (by omega)]
  omega

theorem takeWhile_at : ∀ (l : List Int) (k : Nat), k < l.length → l.getD k 0 = 0 → (∀ j, j < k → l.getD j 0 ≠ 0) → 0 ∈ l ∧ (l.takeWhile fun z => decide (z ≠ 0)) = l.take k
  | x :: l, 0, _, h0, _ => by
    have hx : x = 0 := by simpa using h0
    subst hx
    simp [List.takeWhile_cons]
  | x :: l, k + 1, hk, h0, h1 => by
    have hx : x ≠ 0 := by simpa using h1 0 (by omega)
    obtain ⟨e1, e2⟩ := takeWhile_at l k (by simpa using hk) (by simpa using h0) (fun j hj => by simpa using h1 (j + 1) (by omega))
    refine ⟨List.mem_cons_of_mem _ e1, ?_⟩
    rw [List.takeWhile_cons, if_pos (by simpa using hx), e2, List.take_succ_cons]
theorem getD_drop (zs : List Int) (a k : Nat) : (zs.drop a).getD k 0 = zs.getD (a + k) 0 := by simp [List.getD, List.getElem?_drop]
theorem textFrom_hit {zs : List Int} {a i : Nat} (h : HitAt zs a zs.length i) : textFrom zs a = some ((zs.drop a).take (i - a)) := by
  obtain ⟨h1, h2, h3, h4⟩ := h
  obtain ⟨e1, e2⟩ := takeWhile_at (zs.drop a) (i - a) (by rw [List.length_drop]; omega) (by rw [getD_drop, show a + (i - a) = i by omega]; exact h3) (fun j hj => by rw [getD_drop]; exact h4 _ (by omega) (by omega))
  rw [textFrom, if_pos e1, e2]
theorem textFrom_nohit {zs : List Int} {a : Nat} (h : NoHit zs a zs.length) : textFrom zs a = none := by
  rw [textFrom, if_neg]
  intro h0
  obtain ⟨k, hk, e⟩ := List.getElem_of_mem h0
  rw [List.length_drop] at hk
  refine h (a + k) (by omega) (by omega) ?_
  rw [← getD_drop]
  simp [List.getD, List.getElem?_eq_getElem (show k < (zs.drop a).length by rw [List.length_drop]; omega), e]

def txtOf : Option (List Int) → ByteArray
  | none => ByteArray.empty
  | some s => strOfNums s
/-- words.Text from a place on. -/
theorem text_any (A : Option Addr) (n c a : Nat) (q : Int) (hq : q = (a : Int)) (zs : List Int) (w : World) (B : Nat) (hs : Shows w B A n zs) (hn : n ≤ 134217728) (hnc : n ≤ c) (r : Option (List Int)) (hr : textFrom zs a = r) :
    Calls Tryz.prog 68 #[.slice A n c, .int .i64 q] w fun e w' => e = .returned (.tuple #[.string (txtOf r), .bool r.isSome]) ∧ w = w' := by
  subst hq
  have hl := hs.1
  rcases Nat.lt_or_ge a n with ha | ha
  · rcases hit_or_not zs a (n - a) with h | ⟨i, h⟩
    · rw [show a + (n - a) = n by omega] at h
      rw [← hl] at h
      rw [textFrom_nohit h] at hr
      subst hr
      exact text_no A n c a zs w B hs hn hnc ha (by rw [← hl]; exact h)
    · rw [show a + (n - a) = n by omega] at h
      have h' := h
      rw [← hl] at h'
      rw [textFrom_hit h'] at hr
      subst hr
      exact text_yes A n c a i zs w B hs hn hnc h
  · have h : NoHit zs a zs.length := fun j h1 h2 => by omega
    rw [textFrom_nohit h] at hr
    subst hr
    exact text_off A n c a w hn (.inr (by omega))
theorem text_any_byte {zs s : List Int} {a : Nat} (hz : ∀ z ∈ zs, 0 ≤ z ∧ z < 256) (h : textFrom zs a = some s) : ∀ z ∈ s, 0 ≤ z ∧ z < 256 := by
  unfold textFrom at h
  split at h
  · simp only [Option.some.injEq] at h
    subst h
    exact fun z hz' => hz z (List.mem_of_mem_drop ((List.takeWhile_sublist _).subset hz'))
  · cases h

set_option maxHeartbeats 1000000 in
theorem bclone_any (A : Option Addr) (n c : Nat) (zs : List Int) (w : World) (hs : Shows w w.heap.size A n zs) (hn : n ≤ 140737488351232) :
    Calls Tryz.prog 42 #[.slice A n c] w fun e w' => ∃ v', e = .returned v' ∧ w'.ownsRow w.heap.size 5 1 v' n (u8s zs) ∧ Below w.heap.size w w' := by
  obtain ⟨i0, hi0, hz0, hz1, hz2⟩ := info_parts info_u8
  have HS := Lib.hid hs
  clear hs
  have q : ∀ (w : World) (a : Option Addr) (n c n' c' : Nat), (binOp .eql 59 (.slice a n c) (.slice none n' c')).run Tryz.prog w = .ok (.bool a.isNone) w := fun w a n c n' c' => Lib.run_eql_slice_nil w _ _ a n c n' c' Tryz.underlying59
  have u22 : ∀ w, Sem.run Tryz.prog (underlying 59) w = .ok (TypeDesc.slice 5) w := run_underlying Tryz.underlying59
  rcases A with _ | ad
  · have hn0 : n = 0 := by
      rcases Nat.eq_zero_or_pos n with h | h
      · exact h
      · obtain ⟨b, o, e, _⟩ := HS.out.at_ h
        cases e
    have hz0' : zs = [] := List.eq_nil_of_length_eq_zero (HS.out.1.trans hn0)
    subst hn0 hz0'
    go_enter Tryz.func42, Tryz.ntmps42
    go_wp2
    go_ret
    exact ⟨_, rfl, World.ownsRow_nil _ _ _ _, Below.refl _ _⟩
  · have HB0 := Lib.hid ((Below.refl w.heap.size w).alloc (Nat.le_refl _) (.cells #[] 5))
    obtain ⟨v', w', hrun, hown, hgr, _⟩ := run_append_shown (w.alloc (.cells #[] 5)) i0 hi0 hz0 hz1 hz2 w.heap.size (.slice (some ⟨w.heap.size, 0, none⟩) 0 0) 0 [] (World.ownsRow_made w #[] 0 (Nat.le_refl _) (Nat.zero_le _) rfl) w.heap.size (some ad) n c zs (HS.out.below HB0.out) (by omega) (by simp) 59
    have HO := Lib.hid hown
    have HG := Lib.hid hgr
    have HR := Lib.hid hrun
    clear hown hgr hrun hi0 hz0 hz1 hz2
    go_enter Tryz.func42, Tryz.ntmps42
    go_wp2_with (at_builtin; refine Lib.wpList_append_run_sl _ rfl _ _ 59 rfl _ _ rfl rfl HR.out ?_)
    go_ret
    refine ⟨_, rfl, ?_, HB0.out.grown HG.out (by simp) ?_⟩
    · have := HO.out
      rw [Nat.zero_add] at this
      simpa using this
    · intro k hk
      simp [Value.ownBlock] at hk
      omega
end Go.Proofs.YtihlpcbebpnmkaaGreatDoor

/-! Layer 3: the value of a node's property (tree.Find), over bytes.Clone at slices of any length. -/
namespace Go.Proofs.YtihlpcbebpnmkaaGreatDoor
open Go.RowKit
set_option linter.unusedVariables false
set_option linter.unusedSimpArgs false

set_option maxHeartbeats 1000000 in
theorem findc_any (n : Nd) (s : ByteArray) (w : World) (hin : n.In w w.heap.size) (r : Int) (hr : r = idxOf (n.props.map PV.name) s) :
    Calls Tryz.prog 47 #[n.val, .string s] w fun e w' => ∃ A c zs, e = .returned (.tuple #[.slice A zs.length c, .bool (decide (0 ≤ r))]) ∧ (Shows w' w'.heap.size A zs.length zs ∧ zs.length ≤ c ∧ c ≤ 9223372036854775807) ∧
      (r < 0 ∧ zs = [] ∨ ∃ k, ∃ hk : k < n.props.length, r = k ∧ zs = n.props[k].zs) ∧ Below w.heap.size w w' := by
  obtain ⟨nm, pa, pc, ps, ka, kc, ks⟩ := n
  have HI := Lib.hid hin
  have HR := Lib.hid hr
  obtain ⟨hl, hm⟩ : ps.length ≤ pc ∧ pc ≤ 9223372036854775807 := hin.plen
  have HM := Lib.hid (show (ps.map PV.name).length = ps.length from List.length_map _)
  clear hin hr
  show Calls _ _ #[.agg #[.string nm, .slice pa ps.length pc, .slice ka ks.length kc], .string s] _ _
  go_enter Tryz.func47, Tryz.ntmps47
  go_wp2_with fail
  go_loopw [11] (fun i wr => ∃ k : Nat, k ≤ ps.length ∧ i = .int .i64 k ∧ Missed (ps.map PV.name) s k ∧ Below w.heap.size w wr) (fun i _ => ps.length - (intOf i).toNat)
  case atStart => exact ⟨0, Nat.zero_le _, rfl, Missed.zero _ _, (Below.refl _ _).alloc (Nat.le_refl _) _⟩
  case round =>
    obtain ⟨k, hk, rfl, hmiss, hb⟩ := hrel
    have HA := Lib.hid hmiss
    have HB := Lib.hid hb
    clear hmiss hb
    by_cases hlt : k < ps.length
    · obtain ⟨b, o, e, hb, c0, c1⟩ := (HI.out.under HB.out).pcell (i := k) hlt
      obtain rfl : pa = _ := e
      replace c0 : _ = some (Value.string ps[k].name) := c0
      replace c1 : _ = some (Value.slice ps[k].addr ps[k].zs.length ps[k].cap) := c1
      have hxm : Hid ((ps.map PV.name)[k]'(by rw [HM.out]; exact hlt) = ps[k].name) := List.getElem_map _
      by_cases hxs : ps[k].name = s
      · have heq : (ps[k].name.toList == s.toList) = true := by rw [hxs]; simp
        have HX := Lib.hid hxs
        clear hxs
        obtain rfl : r = k := by rw [HR.out]; exact HA.out.hit _ (hxm.out.trans HX.out)
        have HV := Lib.hid (HI.out.prop (List.getElem_mem hlt))
        have HB2 := Lib.hid (HB.out.alloc HB.out.size (.cells #[Value.string ps[k].name, Value.slice ps[k].addr ps[k].zs.length ps[k].cap] 61))
        go_wp2_with fail
        refine (bclone_any ps[k].addr ps[k].zs.length ps[k].cap ps[k].zs _ ((HV.out.2.1.below HB2.out).more HB2.out.size) HV.out.1.2).mono ?_
        rintro e w' ⟨v', rfl, hown, hb'⟩
        obtain ⟨A, c, rfl, hsh, hc1, hc2⟩ := owned_shows hown HV.out.2.1.2.1
        have HS := Lib.hid (And.intro hsh (And.intro hc1 hc2))
        have HB3 := Lib.hid (HB2.out.trans (hb'.mono HB2.out.size))
        clear hown hsh hb' hc1 hc2
        go_wp2
        go_ret2
        refine ⟨A, c, ps[k].zs, ?_, HS.out, .inr ⟨k, hlt, rfl, rfl⟩, HB3.out⟩
        congr 3
      · have hne := str_ne hxs
        have HF := Lib.hid (HA.out.succ (by rw [HM.out]; exact hlt) (by rw [hxm.out]; exact hxs))
        clear hxs
        go_wp2
        go_roundw
        case rel => exact ⟨k + 1, by omega, by go_num, HF, HB.out.alloc HB.out.size _⟩
        case measure => simp [intOf]; omega
    · obtain rfl : r = -1 := by rw [HR.out]; exact HA.out.all (by rw [HM.out]; exact hlt)
      go_wp2
      go_ret2
      exact ⟨none, 0, [], rfl, ⟨Shows.nil _ _, Nat.le_refl _, by omega⟩, .inl ⟨by omega, rfl⟩, HB.out⟩

theorem find_off (n : Nd) (s : ByteArray) (w : World) (hin : n.In w w.heap.size) (h : idxOf (n.props.map PV.name) s < 0) :
    Calls Tryz.prog 47 #[n.val, .string s] w fun e w' => (∃ A c, e = .returned (.tuple #[.slice A 0 c, .bool false]) ∧ c ≤ 9223372036854775807) ∧ Below w.heap.size w w' :=
  (findc_any n s w hin _ rfl).mono fun e w' ⟨A, c, zs, he, hs, hw, hb⟩ => by
    rcases hw with ⟨_, rfl⟩ | ⟨k, _, e, _⟩
    · exact ⟨⟨A, c, by rw [he, decide_eq_false (by omega)]; rfl, hs.2.2⟩, hb⟩
    · omega
theorem find_on (n : Nd) (s : ByteArray) (w : World) (hin : n.In w w.heap.size) (k : Nat) (hk : k < n.props.length) (h : idxOf (n.props.map PV.name) s = (k : Int)) (zs : List Int) (hz : n.props[k].zs = zs) :
    Calls Tryz.prog 47 #[n.val, .string s] w fun e w' => (∃ A c, e = .returned (.tuple #[.slice A zs.length c, .bool true]) ∧ Shows w' w'.heap.size A zs.length zs ∧ zs.length ≤ c ∧ c ≤ 9223372036854775807) ∧ Below w.heap.size w w' :=
  (findc_any n s w hin _ rfl).mono fun e w' ⟨A, c, zs', he, hs, hw, hb⟩ => by
    rcases hw with ⟨h0, _⟩ | ⟨j, hj, e, h1⟩
    · omega
    · obtain rfl : j = k := by omega
      obtain rfl : zs' = zs := h1.trans hz
      exact ⟨⟨A, c, by rw [he, decide_eq_true (by omega)], hs⟩, hb⟩
end Go.Proofs.YtihlpcbebpnmkaaGreatDoor

/-! Layer 7: the program's One. -/
namespace Go.Proofs.YtihlpcbebpnmkaaGreatDoor
open Go.RowKit
set_option linter.unusedVariables false
set_option linter.unusedSimpArgs false

set_option maxRecDepth 20000 in
set_option maxHeartbeats 4000000 in
theorem oneOK : OneOK := by
  intro n s w hin hs
  have HB := Lib.hid ((Below.refl w.heap.size w).alloc (Nat.le_refl _) (.cells #[Value.string n.name, n.pv, n.kv] 27))
  have HI := Lib.hid (fun o => Nd.In.more ((Below.refl w.heap.size w).alloc (Nat.le_refl _) o).size (hin.under ((Below.refl w.heap.size w).alloc (Nat.le_refl _) o)))
  rcases idx_or (n.props.map PV.name) s with h | ⟨k, h1, h2, _⟩
  · have CF := Lib.hid (fun o => find_off n s (w.alloc o) (HI.out o) (by omega))
    have HO : Hid (oneV n s = (0, false, 0)) := Lib.hid (by rw [oneV, find_none h])
    clear hin h HI
    obtain ⟨nm, pa, pc, ps, ka, kc, ks⟩ := n
    rw [HO.out]
    simp only [Nd.val, Nd.pv, Nd.kv, Nd.name, Nd.pa, Nd.pc, Nd.props, Nd.ka, Nd.kc, Nd.kids] at CF HB ⊢
    go_enter Tryz.func45, Tryz.ntmps45
    go_wp2_with fail
    refine (CF.out _).mono ?_
    rintro e w1 ⟨⟨A1, c1, rfl, _⟩, hb⟩
    have HB1 := Lib.hid (HB.out.trans (hb.mono HB.out.size))
    clear hb
    go_wp2
    go_ret3
    exact ⟨rfl, HB1.out⟩
  · rw [List.length_map] at h1
    obtain ⟨zs, hzs⟩ : ∃ zs, n.props[k].zs = zs := ⟨_, rfl⟩
    have CF := fun o => find_on n s (w.alloc o) (HI.out o) k h1 h2 zs hzs
    have HO : Hid (oneV n s = if zs.length = 4 then (numTo zs 0 4, true, 0) else (0, false, 4)) := Lib.hid (by rw [oneV, find_at h1 h2, ← hzs])
    have hN : zs.length ≤ 140737488351232 := by rw [← hzs]; exact (hin.prop (List.getElem_mem h1)).1.2
    have HC := Lib.hid (fun A c W (hW : Shows W W.heap.size A zs.length zs) h1 h2 => cells_any A zs.length c zs W hW (by omega) h1 h2)
    obtain ⟨O, hO⟩ : ∃ O, oneV n s = O := ⟨_, rfl⟩
    rw [hO] at HO ⊢
    obtain ⟨N, hNe⟩ : ∃ N, zs.length = N := ⟨_, rfl⟩
    rw [hNe] at HO HC CF hN
    have HCF := Lib.hid CF
    have HNN := Lib.hid hNe
    clear hin HI hO hNe CF hzs h1 h2
    obtain ⟨nm, pa, pc, ps, ka, kc, ks⟩ := n
    simp only [Nd.val, Nd.pv, Nd.kv, Nd.name, Nd.pa, Nd.pc, Nd.props, Nd.ka, Nd.kc, Nd.kids] at HCF HB ⊢
    go_enter Tryz.func45, Tryz.ntmps45
    go_wp2_with fail
    refine (HCF.out _).mono ?_
    rintro e w1 ⟨⟨A1, c1, rfl, hsh, hl1, hl2⟩, hb⟩
    have HB1 := Lib.hid (HB.out.trans (hb.mono HB.out.size))
    have CC := HC.out A1 c1 w1 hsh hl1 hl2
    by_cases h4 : N % 4 = 0
    · have hE : cellsE zs = 0 := by rw [cellsE, if_pos (by rw [HNN.out]; exact h4)]
      obtain ⟨hUL, hU⟩ := u32s_cells (zs := zs) (by rw [HNN.out]; exact h4) rfl
      rw [HNN.out] at hUL hU
      obtain ⟨M, hM⟩ : ∃ M, N / 4 = M := ⟨_, rfl⟩
      rw [hM] at hUL hU
      unfold RowOut at CC
      rw [hE, hUL] at CC
      have HU := Lib.hid hU
      generalize u32s (cellsL zs) = U at CC HU
      have HCC := Lib.hid CC
      clear hb hsh CC hE hUL hU
      go_wp2_with fail
      refine HCC.out.mono ?_
      rintro e w2 ⟨⟨A, c, rfl, hcel, hl3, hl4⟩, hb⟩
      have HB2 := Lib.hid (HB1.out.trans (hb.mono HB1.out.size))
      clear hb
      by_cases h1 : M = 1
      · subst h1
        obtain ⟨bc, oc, rfl, _, hc0⟩ := hcel.2 (by omega)
        have d0 := hc0 0 (by omega)
        rw [Nat.add_zero, HU.out 0 (by omega)] at d0
        obtain ⟨v, hv⟩ : ∃ v, numTo zs 0 4 = v := ⟨_, rfl⟩
        have HO2 : Hid (O = (v, true, 0)) := Lib.hid (by rw [HO.out, if_pos (by omega), hv])
        rw [Nat.mul_zero, hv] at d0
        clear hcel hc0 hv hM h4 HCC HO
        go_wp2
        go_ret3
        exact ⟨by rw [HO2.out]; rfl, HB2.out⟩
      · have k1 : ((M : Int) != 1) = true := by rw [bne_iff_ne]; omega
        have HO2 : Hid (O = (0, false, 4)) := Lib.hid (by rw [HO.out, if_neg (by omega)])
        clear hcel hM h4 h1 HCC HO
        go_wp2
        go_ret3
        exact ⟨by rw [HO2.out]; rfl, HB2.out⟩
    · have hE : cellsE zs = 4 := by rw [cellsE, if_neg (by rw [HNN.out]; exact h4)]
      have hUL : u32s (cellsL zs) = [] := by rw [cellsL, if_neg (by rw [HNN.out]; exact h4)]; rfl
      unfold RowOut at CC
      rw [hE, hUL] at CC
      have HCC : Hid (Calls Tryz.prog 66 #[.slice A1 N c1] w1 fun e w' => (∃ A c, e = .returned (.tuple #[.slice A 0 c, .int .i64 4]) ∧ Cel w' w'.heap.size A 0 [] ∧ 0 ≤ c ∧ c ≤ 9223372036854775807) ∧ Below w1.heap.size w1 w') := Lib.hid CC
      have HO2 : Hid (O = (0, false, 4)) := Lib.hid (by rw [HO.out, if_neg (by omega)])
      clear hb hsh CC hE hUL h4 HO
      go_wp2_with fail
      refine HCC.out.mono ?_
      rintro e w2 ⟨⟨A, c, rfl, hcel, hl3, hl4⟩, hb⟩
      have HB2 := Lib.hid (HB1.out.trans (hb.mono HB1.out.size))
      clear hb hcel
      go_wp2
      go_ret3
      exact ⟨by rw [HO2.out]; rfl, HB2.out⟩
end Go.Proofs.YtihlpcbebpnmkaaGreatDoor

/-! Whom a handle means, and the greatest one: the document's answer. -/
namespace Go.Proofs.YtihlpcbebpnmkaaGreatDoor
open Go.RowKit
set_option linter.unusedVariables false
set_option linter.unusedSimpArgs false

theorem find_first : ∀ (l : List (Int × List Nat)) (h : Int) (j : Nat) (hj : j < l.length), (∀ y ∈ l.take j, y.1 ≠ h) → l[j].1 = h → l.find? (fun x => decide (x.1 = h)) = some l[j]
  | x :: l, h, 0, _, _, e => by rw [List.find?_cons_of_pos (by simpa using e)]; rfl
  | x :: l, h, j + 1, hj, ha, e => by
    rw [List.find?_cons_of_neg (by simpa using ha x (by simp))]
    exact find_first l h j (by simpa using hj) (fun y hy => ha y (by simp [hy])) (by simpa using e)
theorem find_never {l : List (Int × List Nat)} {h : Int} (ha : ∀ y ∈ l, y.1 ≠ h) : l.find? (fun x => decide (x.1 = h)) = none := by
  rw [List.find?_eq_none]
  intro x hx
  simpa using ha x hx
/-- What Handle answers. -/
def HandleV (w : World) (e : Ending) : Option (List Nat) → Prop
  | none => e = .returned (.tuple #[.slice none 0 0, .bool false])
  | some p => ∃ A c, e = .returned (.tuple #[.slice A p.length c, .bool true]) ∧ Cel w w.heap.size A p.length (ints p) ∧ p.length ≤ c ∧ c ≤ 9223372036854775807

end Go.Proofs.YtihlpcbebpnmkaaGreatDoor

/-! Layer 8, HandleIndex, HandleFinds, HandleEach: out of what the program's Index, Most and Find answer. -/
namespace Go.Proofs.YtihlpcbebpnmkaaGreatDoor
open Go.RowKit
set_option linter.unusedVariables false
set_option linter.unusedSimpArgs false

/-- What the program's Most answers. -/
def MostOK : Prop := ∀ (t : Tr) (w : World), t.In w w.heap.size → heftN t.root ≤ 134217728 → Calls Tryz.prog 22 #[t.val] w fun e w' => e = .returned (.tuple #[.int .u32 (mostOf t.root), .int .i64 (refsOf t.root).2]) ∧ Below w.heap.size w w'
/-- What Find answers: the place, or nobody; of a tree whose handles aren't right, its error. -/
def FindV (w : World) (e : Ending) (er : Int) (o : Option (List Nat)) : Prop :=
  if er ≠ 0 then ∃ A c, e = .returned (.tuple #[.slice A 0 c, .int .i64 er]) ∧ c ≤ 9223372036854775807
  else match o with
  | none => ∃ A c, e = .returned (.tuple #[.slice A 0 c, .int .i64 11]) ∧ c ≤ 9223372036854775807
  | some p => ∃ A c, e = .returned (.tuple #[.slice A p.length c, .int .i64 0]) ∧ Cel w w.heap.size A p.length (ints p) ∧ p.length ≤ c ∧ c ≤ 9223372036854775807
def HFindOK : Prop := ∀ (t : Tr) (h : Int) (w : World), t.In w w.heap.size → heftN t.root ≤ 134217728 → 0 ≤ h → h ≤ 4294967295 → Calls Tryz.prog 46 #[t.val, .int .u32 h] w fun e w' => FindV w' e (refsOf t.root).2 (handleOf t.root h) ∧ Below w.heap.size w w'
/-- In a list in which no handle is twice each one is found. -/
theorem find_nodup : ∀ (l : List (Int × List Nat)) (j : Nat) (hj : j < l.length), (l.map Prod.fst).Nodup → l.find? (fun x => decide (x.1 = l[j].1)) = some l[j]
  | x :: l, 0, _, _ => by rw [List.find?_cons_of_pos (by simp)]; rfl
  | x :: l, j + 1, hj, h => by
    rw [List.map_cons, List.nodup_cons] at h
    have hjl : j < l.length := by simpa using hj
    rw [List.find?_cons_of_neg (by
      have : x.1 ≠ l[j].1 := fun e => h.1 (by rw [e]; exact List.mem_map.2 ⟨l[j], List.getElem_mem hjl, rfl⟩)
      simpa using this)]
    exact find_nodup l j hjl h.2


end Go.Proofs.YtihlpcbebpnmkaaGreatDoor

/-! The document's path of a place. -/
namespace Go.Proofs.YtihlpcbebpnmkaaGreatDoor
open Go.RowKit
set_option linter.unusedVariables false
set_option linter.unusedSimpArgs false

theorem ba_eq {a b : ByteArray} (h : a.data.toList = b.data.toList) : a = b := WideShapes.bytes_inj h
/-- The names of the way to a place. -/
def wayB (n : Nd) (p : List Nat) : ByteArray := ⟨(pathB (namesAt n p)).toArray⟩
theorem wayB_nil (n : Nd) : wayB n [] = ⟨#[]⟩ := by simp [wayB, namesAt, pathB]
theorem wayB_next {n x : Nd} {p : List Nat} {i : Nat} (h : nodeAt n p = some x) (hi : i < x.kids.length) : wayB n (p ++ [i]) = (wayB n p ++ ⟨#[47]⟩) ++ x.kids[i].name := by
  apply ba_eq
  rw [wayB, namesAt_next p h hi, pathB_append]
  simp [wayB, pathB, ByteArray.toList_data_append]

theorem namesAt_take : ∀ (p : List Nat) (n x : Nd) (k : Nat), nodeAt n p = some x → namesAt n (p.take k) = (namesAt n p).take k
  | [], n, x, k, h => by simp [namesAt]
  | i :: p, n, x, 0, h => by simp [namesAt]
  | i :: p, n, x, k + 1, h => by
    obtain ⟨hi, h2⟩ := nodeAt_some h
    rw [List.take_succ_cons, namesAt_cons hi, namesAt_cons hi, List.take_succ_cons, namesAt_take p _ x k h2]
theorem nodeB_size {s : ByteArray} (h : nodeB s = true) : s.size ≤ 63 := by
  have hm : ∀ {l : List UInt8}, baseB l = true → l.length ≤ 31 := fun {l} h => by
    unfold baseB madeB at h
    simp only [Bool.and_eq_true, decide_eq_true_eq] at h
    exact h.1.1.2
  rcases cut_or_not s with hc | ⟨i, hc⟩
  · rw [nodeB_none hc] at h
    have := hm h
    rw [size_len] at this
    omega
  · rw [nodeB_some hc, Bool.and_eq_true] at h
    have h1 := hm h.1
    have h2 : (s.extract (i + 1) s.size).data.toList.length ≤ 31 := by
      have h3 := h.2
      unfold madeB at h3
      simp only [Bool.and_eq_true, decide_eq_true_eq] at h3
      exact h3.1.2
    have hi := hc.1
    have e1 : (s.extract 0 i).data.toList.length = i := by rw [size_len, ByteArray.size_extract]; omega
    have e2 : (s.extract (i + 1) s.size).data.toList.length = s.size - (i + 1) := by rw [size_len, ByteArray.size_extract]; omega
    omega
theorem pathB_size : ∀ (l : List ByteArray), (∀ s ∈ l, s.size ≤ 63) → (pathB l).length ≤ 64 * l.length
  | [], _ => by simp [pathB]
  | s :: l, h => by
    have h1 := pathB_size l (fun x hx => h x (by simp [hx]))
    have h2 : s.data.toList.length ≤ 63 := by
      have := h s (by simp)
      simpa using this
    have e : pathB (s :: l) = 47 :: s.data.toList ++ pathB l := by simp [pathB]
    rw [e, List.length_append, List.length_cons, List.length_cons]
    omega
theorem wayB_size {n x : Nd} {p : List Nat} (h : nodeAt n p = some x) (hn : ∀ s ∈ namesAt n p, s.size ≤ 63) (k : Nat) : (wayB n (p.take k)).size ≤ 64 * k := by
  have h1 := pathB_size ((namesAt n p).take k) (fun s hs => hn s (List.mem_of_mem_take hs))
  have h2 : (wayB n (p.take k)).size = (pathB (namesAt n (p.take k))).length := by simp [wayB, ByteArray.size]
  rw [h2, namesAt_take p n x k h]
  have h3 : ((namesAt n p).take k).length ≤ k := by rw [List.length_take]; omega
  omega
theorem wayB_full {n x : Nd} {p : List Nat} (h : nodeAt n p = some x) (h0 : p ≠ []) : wayB n p = pathOf n p ∧ wayB n p ≠ ⟨#[]⟩ := by
  refine ⟨by rw [wayB, pathOf, if_neg h0], fun e => ?_⟩
  have hl := namesAt_length p h
  have e2 := congrArg (fun b : ByteArray => b.data.toList) e
  have e3 : pathB (namesAt n p) = [] := by simpa [wayB] using e2
  rcases hc : namesAt n p with _ | ⟨s, l⟩
  · rw [hc] at hl
    exact h0 (List.eq_nil_of_length_eq_zero hl.symm)
  · rw [hc] at e3
    simp [pathB] at e3

set_option maxRecDepth 20000 in
set_option maxHeartbeats 8000000 in
theorem refpath_any (t : Tr) (p : List Nat) (nd : Nd) (A : Option Addr) (n c : Nat) (w : World) (hin : t.In w w.heap.size) (hat : nodeAt t.root p = some nd) (hnm : ∀ s ∈ namesAt t.root p, s.size ≤ 63) (hp15 : p.length ≤ 15) (hp : Cel w w.heap.size A n (ints p)) (hnc : n ≤ c) (hc : c ≤ 9223372036854775807) :
    Calls Tryz.prog 8 #[t.val, .slice A n c] w fun e w' => e = .returned (.string (pathOf t.root p)) ∧ Below w.heap.size w w' := by
  have HI := Lib.hid hin.root
  have HP := Lib.hid hp
  have HPL : Hid (p.length = n) := Lib.hid (by have := hp.1; rwa [List.length_map] at this)
  have HAT := Lib.hid hat
  have HNM := Lib.hid hnm
  have hn15 : n ≤ 15 := by rw [← HPL.out]; exact hp15
  clear hin hp hat hnm
  obtain ⟨boot, ra, rc, rs, ⟨nm, pa, pc, ps, ka, kc, ks⟩⟩ := t
  replace HI : Hid ((Nd.mk nm pa pc ps ka kc ks).In w w.heap.size) := HI
  replace HAT : Hid (nodeAt (Nd.mk nm pa pc ps ka kc ks) p = some nd) := HAT
  replace HNM : Hid (∀ s ∈ namesAt (Nd.mk nm pa pc ps ka kc ks) p, s.size ≤ 63) := HNM
  show Calls _ _ #[.agg #[.int .u32 boot, .slice ra rs.length rc, .string nm, .slice pa ps.length pc, .slice ka ks.length kc], .slice A n c] w (fun e w' => e = .returned (.string (pathOf (Nd.mk nm pa pc ps ka kc ks) p)) ∧ Below w.heap.size w w')
  obtain ⟨R, hR⟩ : ∃ R, Nd.mk nm pa pc ps ka kc ks = R := ⟨_, rfl⟩
  have HRE := Lib.hid hR
  rw [hR] at HI HAT HNM ⊢
  clear hR
  obtain ⟨b0, b1, b2, b3, b4⟩ := box6_cells w (.int .u32 boot) (.slice ra rs.length rc) (.string nm) (.slice pa ps.length pc) (.slice ka ks.length kc) _ (Below.refl _ _)
  go_enter Tryz.func8, Tryz.ntmps8
  go_wp2_with fail
  clear b0 b1 b2 b3 b4
  obtain ⟨g, hg⟩ : ∃ g, g = w.heap.size := ⟨_, rfl⟩
  have HG := Lib.hid hg
  have W0 : Hid (((w.alloc (.cells #[.int .u32 boot, .slice ra rs.length rc, .string nm, .slice pa ps.length pc, .slice ka ks.length kc] 29)).alloc (.cells #[.string nm, .slice pa ps.length pc, .slice ka ks.length kc] 27)).heap[g + 1]? = some (.cells #[.string nm, .slice pa ps.length pc, .slice ka ks.length kc] 27 (0, 0)) ∧ Below g w ((w.alloc (.cells #[.int .u32 boot, .slice ra rs.length rc, .string nm, .slice pa ps.length pc, .slice ka ks.length kc] 29)).alloc (.cells #[.string nm, .slice pa ps.length pc, .slice ka ks.length kc] 27))) := Lib.hid ⟨by rw [hg]; exact heap_alloc2_new _ _ _, by
      have hl : g ≤ w.heap.size := by rw [hg]; exact Nat.le_refl _
      exact ((Below.refl g w).alloc hl _).alloc (by simp; omega) _⟩
  rw [← hg] at HI HP ⊢
  clear hg
  go_loopw [5, 12] (fun s i wr => ∃ (k : Nat) (x : Nd), k ≤ n ∧ i = .int .i64 k ∧ s = .string (wayB R (p.take k)) ∧ nodeAt R (p.take k) = some x ∧ wr.heap[g + 1]? = some (.cells #[.string x.name, x.pv, x.kv] 27 (0, 0)) ∧ Below g w wr) (fun _ i _ => n - (intOf i).toNat)
  case atStart =>
    obtain ⟨a1, a2⟩ := W0.out
    exact ⟨0, R, Nat.zero_le _, rfl, by rw [List.take_zero, wayB_nil], rfl, by rw [← HRE.out]; exact a1, a2⟩
  case round =>
    obtain ⟨k, x, hk, rfl, rfl, hx, hbk, hb⟩ := hrel
    have HX := Lib.hid hx
    have HBK := Lib.hid hbk
    have HB := Lib.hid hb
    have f0 := Lib.frozen_of_heap hbk 0
    have f1 := Lib.frozen_of_heap hbk 1
    have f2 := Lib.frozen_of_heap hbk 2
    have hxin := (nodeAt_in _ HI.out hx).under hb
    by_cases hlt : k < n
    · obtain ⟨pb, po, rfl, _, hcell⟩ := (HP.out.below hb).2 (by omega)
      have ck := hcell k hlt
      have hkp : k < p.length := by rw [HPL.out]; exact hlt
      rw [List.getElem?_map, List.getElem?_eq_getElem hkp] at ck
      have hpt : p.take (k + 1) = p.take k ++ [p[k]] := by rw [List.take_add_one, List.getElem?_eq_getElem hkp]; rfl
      have hq : p[k] < x.kids.length := by
        have e : p = p.take k ++ (p[k] :: p.drop (k + 1)) := by rw [List.getElem_cons_drop, List.take_append_drop]
        have h := HAT.out
        rw [e, nodeAt_append, hx] at h
        exact (nodeAt_some h).1
      have HNX := Lib.hid (nodeAt_next hx hq)
      have HWX := Lib.hid (wayB_next hx hq)
      rw [← hpt] at HNX HWX
      replace ck : wr.cell? ⟨pb, po + k, none⟩ = some (.int .i64 (p[k] : Nat)) := ck
      have hkl := hxin.klen
      have HKC := Lib.hid (fun i (hi : i < x.kids.length) => hxin.kcell hi)
      have HSZ : Hid ((wayB R (p.take k)).size ≤ 64 * k ∧ x.kids[p[k]].name.size ≤ 63) := by
        refine ⟨wayB_size HAT.out HNM.out k, HNM.out _ ?_⟩
        have e : x.kids[p[k]].name ∈ namesAt R (p.take (k + 1)) := by rw [hpt, namesAt_next _ hx hq]; simp
        rw [namesAt_take p R nd (k + 1) HAT.out] at e
        exact List.mem_of_mem_take e
      generalize p[k] = q at *
      generalize wayB R (p.take k) = sk at *
      clear hcell hkp hb hx hpt hxin
      obtain ⟨xn, xpa, xpc, xps, xka, xkc, xks⟩ := x
      replace hkl : xks.length ≤ xkc ∧ xkc ≤ 9223372036854775807 := hkl
      replace hq : q < xks.length := hq
      replace hbk : wr.heap[g + 1]? = some (.cells #[.string xn, .slice xpa xps.length xpc, .slice xka xks.length xkc] 27 (0, 0)) := hbk
      have c0 : wr.cell? ⟨g + 1, 0, none⟩ = some (.string xn) := by rw [Lib.cell_of_heap hbk]; rfl
      have c1 : wr.cell? ⟨g + 1, 1, none⟩ = some (.slice xpa xps.length xpc) := by rw [Lib.cell_of_heap hbk]; rfl
      have c2 : wr.cell? ⟨g + 1, 2, none⟩ = some (.slice xka xks.length xkc) := by rw [Lib.cell_of_heap hbk]; rfl
      clear hbk
      obtain ⟨kb, ko, ek, _, d0, d1, d2⟩ := HKC.out _ hq
      obtain rfl : xka = _ := ek
      replace d0 : wr.cell? ⟨kb, ko + q * 3, none⟩ = some (.string xks[q].name) := d0
      replace d1 : wr.cell? ⟨kb, ko + q * 3 + 1, none⟩ = some xks[q].pv := d1
      replace d2 : wr.cell? ⟨kb, ko + q * 3 + 2, none⟩ = some xks[q].kv := d2
      replace HNX : Hid (nodeAt R (p.take (k + 1)) = some xks[q]) := HNX
      replace HWX : Hid (wayB R (p.take (k + 1)) = sk ++ ⟨#[47]⟩ ++ xks[q].name) := HWX
      replace HSZ : Hid (sk.size ≤ 64 * k ∧ xks[q].name.size ≤ 63) := HSZ
      obtain ⟨y, hy⟩ : ∃ y, xks[q] = y := ⟨_, rfl⟩
      rw [hy] at HNX HWX HSZ d0 d1 d2
      clear hy HKC HX
      obtain ⟨yn, ypa, ypc, yps, yka, ykc, yks⟩ := y
      replace d0 : wr.cell? ⟨kb, ko + q * 3, none⟩ = some (.string yn) := d0
      replace d1 : wr.cell? ⟨kb, ko + q * 3 + 1, none⟩ = some (.slice ypa yps.length ypc) := d1
      replace d2 : wr.cell? ⟨kb, ko + q * 3 + 2, none⟩ = some (.slice yka yks.length ykc) := d2
      have hsz : sk.size ≤ 64 * k ∧ yn.size ≤ 63 := HSZ.out
      have hq1 : (0 : Int) ≤ (q : Int) ∧ (q : Int) < (xks.length : Int) := ⟨by omega, by omega⟩
      generalize xks.length = xkl at *
      go_wp2_with fail
      go_region
      go_wp2
      go_roundw
      case rel => exact ⟨k + 1, Nd.mk yn ypa ypc yps yka ykc yks, by omega, by go_num, by rw [HWX.out]; rfl, HNX.out, heap_set3 _ _ HBK.out _ _ _, below_sets HB.out _ _ (by omega) _ _ _⟩
      case measure => simp [intOf]; omega
    · obtain rfl : k = n := by omega
      have hpk : p.take k = p := List.take_of_length_le (by rw [HPL.out]; exact Nat.le_refl _)
      rw [hpk]
      have HBW : Hid (Below w.heap.size w wr) := HG.out ▸ HB.out
      clear hxin hx hpk hb hbk HX HBK f0 f1 f2
      by_cases h0 : p = []
      · have e0 : wayB R p = ⟨#[]⟩ := by rw [h0, wayB_nil]
        rw [e0]
        have HP0 := Lib.hid h0
        clear h0 e0
        go_wp2
        go_ret
        exact ⟨by rw [HP0.out]; rfl, HBW.out⟩
      · obtain ⟨e1, e2⟩ := wayB_full HAT.out h0
        have HE1 := Lib.hid e1
        generalize wayB R p = sk at *
        have e3 : ¬ (sk = ⟨#[]⟩) := e2
        have e4 := str_ne e3
        have e5 : sk.toList.isEmpty = false := by
          rcases hc : sk.toList with _ | ⟨x, r⟩
          · rw [hc] at e4
            simp at e4
          · rfl
        clear e4
        clear h0 e1 e2
        go_wp2
        go_ret
        exact ⟨by rw [← HE1.out]; rfl, HBW.out⟩
end Go.Proofs.YtihlpcbebpnmkaaGreatDoor

/-! What stands between the strokes of a text: the document's answer. -/
namespace Go.Proofs.YtihlpcbebpnmkaaGreatDoor
open Go.RowKit
set_option linter.unusedVariables false
set_option linter.unusedSimpArgs false

/-- The pieces between strokes; the last one is being read. -/
def partsL : List UInt8 → List UInt8 → List (List UInt8)
  | cur, [] => [cur]
  | cur, c :: r => if c = 47 then cur :: partsL [] r else partsL (cur ++ [c]) r
/-- The pieces that are whole, and the last one, when l has been read. -/
def partsS : List (List UInt8) × List UInt8 → List UInt8 → List (List UInt8) × List UInt8
  | s, [] => s
  | s, c :: r => partsS (if c = 47 then (s.1 ++ [s.2], []) else (s.1, s.2 ++ [c])) r
theorem partsS_snoc : ∀ (l : List UInt8) (s : List (List UInt8) × List UInt8) (c : UInt8), partsS s (l ++ [c]) = if c = 47 then ((partsS s l).1 ++ [(partsS s l).2], []) else ((partsS s l).1, (partsS s l).2 ++ [c])
  | [], s, c => rfl
  | x :: l, s, c => by rw [List.cons_append, partsS, partsS, partsS_snoc l]
theorem partsS_L : ∀ (l cur : List UInt8) (d : List (List UInt8)), (partsS (d, cur) l).1 ++ [(partsS (d, cur) l).2] = d ++ partsL cur l
  | [], cur, d => rfl
  | c :: l, cur, d => by
    rw [partsS, partsL]
    by_cases hc : c = 47
    · rw [if_pos hc, if_pos hc, partsS_L l [] (d ++ [cur])]
      simp
    · rw [if_neg hc, if_neg hc, partsS_L l (cur ++ [c]) d]
theorem partsS_sum : ∀ (l : List UInt8) (s : List (List UInt8) × List UInt8), (partsS s l).1.length + (partsS s l).2.length ≤ s.1.length + s.2.length + l.length
  | [], s => by simp [partsS]
  | c :: l, s => by
    rw [partsS]
    have h := partsS_sum l (if c = 47 then (s.1 ++ [s.2], []) else (s.1, s.2 ++ [c]))
    split at h
    · rename_i hc; rw [if_pos hc]; simp at h ⊢; omega
    · rename_i hc; rw [if_neg hc]; simp at h ⊢; omega
theorem partsL_name : ∀ (s : List UInt8) (cur r : List UInt8), (47 : UInt8) ∉ s → partsL cur (s ++ r) = partsL (cur ++ s) r
  | [], cur, r, _ => by simp
  | c :: s, cur, r, h => by
    have hc : ¬ c = 47 := fun e => h (by simp [e])
    rw [List.cons_append, partsL, if_neg hc, partsL_name s (cur ++ [c]) r (fun e => h (by simp [e]))]
    simp
theorem partsL_path : ∀ (l : List ByteArray) (cur : List UInt8), (∀ s ∈ l, (47 : UInt8) ∉ s.data.toList) → partsL cur (pathB l) = cur :: l.map fun s => s.data.toList
  | [], cur, _ => rfl
  | s :: l, cur, h => by
    have e : pathB (s :: l) = 47 :: (s.data.toList ++ pathB l) := by simp [pathB]
    rw [e, partsL, if_pos rfl, partsL_name _ _ _ (h s (by simp)), List.nil_append, partsL_path l _ (fun x hx => h x (by simp [hx]))]
    rfl
/-- Bytes as a text. -/
def txt (l : List UInt8) : ByteArray := ⟨l.toArray⟩
def strsU (l : List (List UInt8)) : List Value := l.map fun x => .string (txt x)
theorem strsU_len (l : List (List UInt8)) : (strsU l).length = l.length := List.length_map _
theorem strsU_app (a b : List (List UInt8)) : strsU (a ++ b) = strsU a ++ strsU b := List.map_append
theorem info_string : (Tryz.prog.info? 9).map (fun i => (i.zero, i.size, i.bytes)) = some (some (.string ⟨#[]⟩), 1, 16) := by kernel_rfl
theorem cel_own {w : World} {B n c : Nat} {e : TypeId} {A : Option Addr} {xs : List Value} (h : w.ownsRow B e 1 (.slice A n c) n xs) : Cel w w.heap.size A n xs ∧ n ≤ c ∧ c ≤ 9223372036854775807 := by
  have hl : xs.length = n := by have := h.1; omega
  rcases h.2 with ⟨e1, e2⟩ | ⟨g, cap, cur, e1, hb, hg, h1, h2, _⟩
  · simp only [Value.slice.injEq] at e1
    obtain ⟨rfl, _, rfl⟩ := e1
    exact ⟨⟨hl, fun h0 => absurd h0 (by omega)⟩, by omega, by omega⟩
  · simp only [Value.slice.injEq, true_and] at e1
    obtain ⟨rfl, rfl⟩ := e1
    refine ⟨⟨hl, fun h0 => ⟨g, 0, rfl, (Array.getElem?_eq_some_iff.1 hg).1, fun i hi => ?_⟩⟩, h1, h2⟩
    have := h.cells (g := g) rfl i (xs[i]'(by omega)) (by rw [List.getElem?_eq_getElem (by omega)])
    rw [addr_add, Nat.zero_add] at this
    rw [Nat.zero_add, this, List.getElem?_eq_getElem (by omega)]
theorem own_block1 {w : World} {B n c sz : Nat} {e : TypeId} {A : Option Addr} {xs : List Value} (h : w.ownsRow B e sz (.slice A n c) n xs) (h0 : 0 < n) : ∃ g, A = some ⟨g, 0, none⟩ ∧ B ≤ g ∧ g < w.heap.size ∧ n ≤ c := by
  rcases h.2 with ⟨e1, e2⟩ | ⟨g, cap, cur, e1, hb, hg, h1, h2, _⟩
  · omega
  · simp only [Value.slice.injEq, true_and] at e1
    obtain ⟨rfl, rfl⟩ := e1
    exact ⟨g, rfl, hb, (Array.getElem?_eq_some_iff.1 hg).1, h1⟩
theorem byte_one {s : ByteArray} {k : Nat} (hk : k < s.size) : s.extract k (k + 1) = ⟨#[s[k]]⟩ := by
  apply ba_eq
  have h : k < s.data.toList.length := by simpa using hk
  have e : (s.extract k (k + 1)).data.toList = (s.data.toList.drop k).take 1 := by simp [ByteArray.data_extract]
  rw [e, List.drop_eq_getElem_cons h]
  rfl
theorem take_byte {s : ByteArray} {k : Nat} (hk : k < s.size) : s.data.toList.take (k + 1) = s.data.toList.take k ++ [s[k]] := by
  have h : k < s.data.toList.length := by simpa using hk
  rw [List.take_add_one, List.getElem?_eq_getElem h]
  rfl

set_option maxRecDepth 20000 in
set_option maxHeartbeats 8000000 in
theorem refparts_any (s : ByteArray) (w : World) (hs : s.size ≤ 1048576) :
    Calls Tryz.prog 19 #[.string s] w fun e w' => (∃ A n c, e = .returned (.slice A n c) ∧ Cel w' w'.heap.size A n (strsU (partsL [] s.data.toList)) ∧ n ≤ c ∧ c ≤ 9223372036854775807) ∧ Below w.heap.size w w' := by
  obtain ⟨i0, hi0, hz0, hz1, hz2⟩ := info_any info_string
  have HIN := Lib.hid (And.intro hi0 (And.intro hz0 (And.intro hz1 hz2)))
  clear hi0 hz0 hz1 hz2
  go_enter Tryz.func19, Tryz.ntmps19
  go_wp2_with fail
  go_loopw [3, 8] (fun v i wr => ∃ (k m : Nat) (A : Option Addr) (c : Nat), k ≤ s.size ∧ i = .int .i64 k ∧ v = .slice A (m + 1) c ∧ (partsS ([], []) (s.data.toList.take k)).1.length = m ∧ wr.ownsRow w.heap.size 9 1 v (m + 1) (strsU ((partsS ([], []) (s.data.toList.take k)).1 ++ [(partsS ([], []) (s.data.toList.take k)).2])) ∧ Below w.heap.size w wr) (fun _ i _ => s.size - (intOf i).toNat)
  case atStart =>
    exact ⟨0, 0, _, 1, Nat.zero_le _, rfl, rfl, rfl, ⟨rfl, .inr ⟨w.heap.size, 1, _, rfl, Nat.le_refl _, heap_alloc_new w _, Nat.le_refl _, by unfold maxLen; omega, rfl, rfl⟩⟩, (Below.refl _ _).alloc (Nat.le_refl _) _⟩
  case round =>
    obtain ⟨k, m, A, c, hk, rfl, rfl, hm, hown, hb⟩ := hrel
    have HM := Lib.hid hm
    have HO := Lib.hid hown
    have HB := Lib.hid hb
    have hcap := (cel_own hown).2
    clear hm hown hb
    by_cases hlt : k < s.size
    · have hmk : m ≤ 1048576 := by
        have h1 := partsS_sum (s.data.toList.take k) ([], [])
        have h2 : (s.data.toList.take k).length ≤ k := by rw [List.length_take]; omega
        have h3 := HM.out
        simp at h1
        omega
      have HTK := Lib.hid (take_byte hlt)
      have HSN := Lib.hid (partsS_snoc (s.data.toList.take k) ([], []) s[k])
      by_cases hc : s[k] = 47
      · have heq : ((s[k].toNat : Int) == 47) = true := by rw [hc]; rfl
        obtain ⟨A', c', w2, hrun, hown2, hb2⟩ := app_lit Tryz.underlying57 HIN.out.1 HIN.out.2.1 HIN.out.2.2.1 HIN.out.2.2.2 rfl HO.out (.string ⟨#[]⟩) rfl (by omega) (by omega) HB.out.size 57
        have HR := Lib.hid hrun
        have HO2 := Lib.hid hown2
        have HB2 := Lib.hid hb2
        rw [if_pos hc, ← HTK.out] at HSN
        clear hrun hown2 hb2 hc
        go_wp2_with (first | (at_builtin; refine Lib.wpList_append_run_sl _ rfl _ _ 57 rfl _ _ rfl rfl HR.out ?_) | fail)
        go_roundw
        case rel =>
          refine ⟨k + 1, m + 1, A', c', by omega, by go_num, rfl, ?_, ?_, HB.out.trans HB2.out⟩
          · rw [HSN.out]
            show (_ ++ [_]).length = _
            rw [List.length_append, HM.out]; rfl
          · rw [HSN.out]
            have h := HO2.out
            show World.ownsRow _ _ _ _ _ _ (strsU ((_ ++ [_]) ++ [[]]))
            rw [strsU_app]
            exact h
        case measure => simp [intOf]; omega
      · have hne : ((s[k].toNat : Int) == 47) = false := byte_ne s[k] 47 hc
        rw [if_neg hc, ← HTK.out] at HSN
        have hlast : (strsU ((partsS ([], []) (s.data.toList.take k)).1 ++ [(partsS ([], []) (s.data.toList.take k)).2]))[m]? = some (.string (txt (partsS ([], []) (s.data.toList.take k)).2)) := by
          rw [strsU_app, List.getElem?_append_right (by rw [strsU_len, HM.out]; exact Nat.le_refl _), strsU_len, HM.out, Nat.sub_self]
          rfl
        have hset : ∀ x : List UInt8, (strsU ((partsS ([], []) (s.data.toList.take k)).1 ++ [(partsS ([], []) (s.data.toList.take k)).2])).set m (.string (txt x)) = strsU ((partsS ([], []) (s.data.toList.take k)).1 ++ [x]) := fun x => by
          rw [strsU_app, strsU_app, List.set_append_right _ _ (by rw [strsU_len, HM.out]; exact Nat.le_refl _), strsU_len, HM.out, Nat.sub_self]
          rfl
        have HSET := Lib.hid (hset ((partsS ([], []) (s.data.toList.take k)).2 ++ [s[k]]))
        have HTX : Hid (txt ((partsS ([], []) (s.data.toList.take k)).2 ++ [s[k]]) = txt (partsS ([], []) (s.data.toList.take k)).2 ++ s.extract k (k + 1)) := Lib.hid (by
          rw [byte_one hlt]
          apply ba_eq
          simp [txt, ByteArray.toList_data_append])
        have hlen2 : (txt (partsS ([], []) (s.data.toList.take k)).2).size ≤ 1048576 := by
          have h1 := partsS_sum (s.data.toList.take k) ([], [])
          have h2 : (s.data.toList.take k).length ≤ k := by rw [List.length_take]; omega
          simp at h1
          have h4 : (txt (partsS ([], []) (s.data.toList.take k)).2).size = (partsS ([], []) (s.data.toList.take k)).2.length := by simp [txt, ByteArray.size]
          omega
        obtain ⟨g, eA, hg, hgW, _⟩ := own_block1 HO.out (Nat.succ_pos m)
        subst eA
        have hfz : wr.frozen? ⟨g, m, none⟩ = false := World.ownsRow.frozenAt HO.out m
        have hcl := HO.out.cells (g := g) rfl m _ hlast
        rw [addr_add, Nat.zero_add] at hcl
        have HST := Lib.hid (HO.out.stored m (.string (txt ((partsS ([], []) (s.data.toList.take k)).2 ++ [s[k]]))))
        rw [HSET.out, HTX.out] at HST
        generalize txt (partsS ([], []) (s.data.toList.take k)).2 = sk at hcl hlen2 HST
        have hm1 : ((m + 1 : Nat) : Int) - 1 = (m : Int) := by omega
        have hi1 : (0 : Int) ≤ (m : Int) ∧ (m : Int) < ((m + 1 : Nat) : Int) := ⟨by omega, by omega⟩
        clear hlast hset hc
        go_wp2_with fail
        go_region
        go_wp2
        go_roundw
        case rel =>
          refine ⟨k + 1, m, some ⟨g, 0, none⟩, c, by omega, by go_num, rfl, ?_, ?_, (HB.out.setCell (p := ⟨g, m, none⟩) hg _).drew⟩
          · rw [HSN.out]; exact HM.out
          · rw [HSN.out]; exact HST.out.1
        case measure => simp [intOf]; omega
    · obtain rfl : k = s.size := by omega
      have HC := Lib.hid (cel_own HO.out)
      have HTA : Hid (strsU ((partsS ([], []) (s.data.toList.take s.size)).1 ++ [(partsS ([], []) (s.data.toList.take s.size)).2]) = strsU (partsL [] s.data.toList)) := Lib.hid (by
        have e : s.data.toList.take s.size = s.data.toList := List.take_of_length_le (by simp)
        rw [e, partsS_L]
        rfl)
      go_wp2
      go_ret
      refine ⟨⟨A, m + 1, c, rfl, ?_, HC.out.2.1, HC.out.2.2⟩, HB.out⟩
      rw [← HTA.out]
      exact HC.out.1
end Go.Proofs.YtihlpcbebpnmkaaGreatDoor
