/-
  Layer 14: the program's addTo, owners.
-/
import Derived.Test.YtapfcbcojnplaaaILine
namespace Go.Proofs.Ytapfcbcojnplaaa
open Go.RowKit
set_option linter.unusedVariables false
set_option linter.unusedSimpArgs false


theorem heft_eq (x : Nd) : heftN x = 16 + x.name.size + (x.props.map heftP).sum + heftL x.kids := by cases x; rw [heftN]; rfl

set_option maxRecDepth 20000 in
set_option maxHeartbeats 4000000 in
theorem addTo_any (R : Nd) (D : Nat → Prop) (B g : Nat) (hBg : B ≤ g) (hD : ∀ k, B ≤ k → D k) : ∀ (x : Nd) (b : Nat) (z : List Nat) (n : Nat) (w : World), Spot w R D b z x → MZ w R D g n → R.In w B → B ≤ w.heap.size → n + heftN x ≤ 1073741824 →
    Calls Try.prog 46 #[.pointer (some ⟨b, 0, none⟩), .map (some g)] w fun e w' => e = .returned (.tuple #[]) ∧ MZ w' R D g (n + heftN x) ∧ w.grownBy w' (some g) ∧ Sp w w' := by
  refine Nd.ind ?_
  intro x ih b z n w hs hm hin hB hn
  have HIH := Lib.hid ih
  have HD := Lib.hid hD
  have HS := Lib.hid hs
  have HM := Lib.hid hm
  have HI := Lib.hid hin
  have hxin := hs.inn (hin.more hB)
  have C1 := Lib.hid (oneOK x phName w hxin (by decide))
  have hrg := oneV_range hxin phName
  have hkl := hxin.name_le.2.2
  have hkm := hxin.klen
  have heft := heft_eq x
  obtain ⟨pa, pi, hbk⟩ := hs.heap
  obtain ⟨s0, s1, s2, s3, s4⟩ := spot_cells hbk
  have HSC : Hid (∀ W, Sp w W → W.cell? ⟨b, 2, none⟩ = some x.kv) := Lib.hid (fun W h => by
    obtain ⟨pa, pi, hbk⟩ := (hs.sp h).heap
    exact (spot_cells hbk).2.2.1)
  have hGB : ∀ W, w.grownBy W (some g) → R.In W B := fun W h => hin.under ((Below.refl _ _).grown h hB (fun k e => by cases e; exact hBg))
  have HGB := Lib.hid hGB
  generalize oneV x phName = O at *
  obtain ⟨v, ok, er⟩ := O
  simp only [oneVal, phName] at C1 hrg
  obtain ⟨KL, hKL⟩ : ∃ KL, x.kids.length = KL := ⟨_, rfl⟩
  have HKL := Lib.hid hKL
  have HHE := Lib.hid heft
  have HHN := Lib.hid hn
  have HBW := Lib.hid hB
  simp only [Nd.val, Nd.pv, Nd.kv, hKL] at s0 s1 s2 hkl hkm HSC C1
  clear ih hs hm hin hxin hbk hGB heft hn hB s3 s4 hKL
  go_enter Try.func46, Try.ntmps46
  go_wp2_with fail
  refine C1.out.mono ?_
  rintro e w1 ⟨rfl, hb1⟩
  have hg1 : w.grownBy w1 (some g) := ⟨hb1.os, hb1.tape, hb1.output, hb1.size, fun k hk _ => hb1.block k hk⟩
  have HG1 := Lib.hid hg1
  have HS1 := Lib.hid (Sp.of_below hb1)
  have hm1 := HM.out.on hb1
  have HM1 := Lib.hid hm1
  have hgood : GoodS w1 R D (.pointer (some ⟨b, 0, none⟩)) := ⟨b, z, x, rfl, HS.out.on hb1⟩
  clear s0 s1 s2 hb1 hg1
  cases ok
  · have HLW := Lib.hid (And.intro (hm1.more (Nat.le_succ n)) (And.intro HG1.out HS1.out))
    have c2 := HSC.out w1 HS1.out
    clear hm1 hgood
    go_wp2_with fail
    clear c2
    go_loopw [27] (fun i wr => ∃ k : Nat, k ≤ KL ∧ i = .int .i64 k ∧ MZ wr R D g (n + 1 + heftL (x.kids.take k)) ∧ w.grownBy wr (some g) ∧ Sp w wr) (fun i _ => KL - (intOf i).toNat)
    case atStart => exact ⟨0, Nat.zero_le _, rfl, by rw [List.take_zero, heftL]; exact HLW.out.1, HLW.out.2.1, HLW.out.2.2⟩
    case round =>
      obtain ⟨k, hk, rfl, hmr, hgr, hsr⟩ := hrel
      have HMR := Lib.hid hmr
      have HGR := Lib.hid hgr
      have HSR := Lib.hid hsr
      clear hmr hgr hsr
      by_cases hlt : k < KL
      · have hkl : k < x.kids.length := by rw [HKL.out]; exact hlt
        have CB := Lib.hid (sbelow_any R D b z x k wr (HS.out.sp HSR.out) (HD.out _ (Nat.le_trans HBW.out HGR.out.size)) ((HGB.out wr HGR.out).more (Nat.le_trans HBW.out HGR.out.size)) hkl)
        go_wp2_with fail
        refine CB.out.mono ?_
        rintro e w4 ⟨rfl, hs4, hb4⟩
        have hg4 : wr.grownBy w4 (some g) := ⟨hb4.os, hb4.tape, hb4.output, hb4.size, fun k hk _ => hb4.block k hk⟩
        have HG4 := Lib.hid (HGR.out.trans hg4)
        have HS4 := Lib.hid (HSR.out.trans (Sp.of_below hb4))
        have CA := Lib.hid (HIH.out _ (List.getElem_mem hkl) _ _ (n + 1 + heftL (x.kids.take k)) w4 hs4 (HMR.out.on hb4) (HGB.out w4 HG4.out) (Nat.le_trans HBW.out HG4.out.size) (by
          have h1 := heftL_next x.kids k hkl
          have h2 := heftL_take x.kids (k + 1)
          have h3 := HHE.out
          have h4 := HHN.out
          omega))
        rw [Nat.add_assoc (n + 1), ← heftL_next x.kids k hkl] at CA
        clear hs4 hb4 hg4 CB
        go_wp2_with fail
        refine CA.out.mono ?_
        rintro e w5 ⟨rfl, hm5, hg5, hs5⟩
        have HM5 := Lib.hid hm5
        have HG5 := Lib.hid (HG4.out.trans hg5)
        have HS5 := Lib.hid (HS4.out.trans hs5)
        clear hm5 hg5 hs5 CA
        go_wp2
        go_roundw
        case rel => exact ⟨k + 1, by omega, by go_num, HM5.out, HG5.out, HS5.out⟩
        case measure => simp [intOf]; omega
      · have HFIN := Lib.hid (HMR.out.more (n' := n + heftN x) (by
          have h2 := heftL_take x.kids k
          have h3 := HHE.out
          omega))
        go_wp2
        go_end0
        exact ⟨rfl, HFIN.out, HGR.out, HSR.out⟩
  · obtain ⟨w2, r2, hm2, hg2, hsp2⟩ := hm1.store hgood hrg (by have := HHN.out; unfold maxLen; omega)
    have HLW := Lib.hid (And.intro hm2 (And.intro (HG1.out.trans hg2) (HS1.out.trans hsp2)))
    have c2 := HSC.out w2 (HS1.out.trans hsp2)
    clear hm1 hgood hm2 hg2 hsp2
    go_wp2_with fail
    clear c2
    go_loopw [27] (fun i wr => ∃ k : Nat, k ≤ KL ∧ i = .int .i64 k ∧ MZ wr R D g (n + 1 + heftL (x.kids.take k)) ∧ w.grownBy wr (some g) ∧ Sp w wr) (fun i _ => KL - (intOf i).toNat)
    case atStart => exact ⟨0, Nat.zero_le _, rfl, by rw [List.take_zero, heftL]; exact HLW.out.1, HLW.out.2.1, HLW.out.2.2⟩
    case round =>
      obtain ⟨k, hk, rfl, hmr, hgr, hsr⟩ := hrel
      have HMR := Lib.hid hmr
      have HGR := Lib.hid hgr
      have HSR := Lib.hid hsr
      clear hmr hgr hsr
      by_cases hlt : k < KL
      · have hkl : k < x.kids.length := by rw [HKL.out]; exact hlt
        have CB := Lib.hid (sbelow_any R D b z x k wr (HS.out.sp HSR.out) (HD.out _ (Nat.le_trans HBW.out HGR.out.size)) ((HGB.out wr HGR.out).more (Nat.le_trans HBW.out HGR.out.size)) hkl)
        go_wp2_with fail
        refine CB.out.mono ?_
        rintro e w4 ⟨rfl, hs4, hb4⟩
        have hg4 : wr.grownBy w4 (some g) := ⟨hb4.os, hb4.tape, hb4.output, hb4.size, fun k hk _ => hb4.block k hk⟩
        have HG4 := Lib.hid (HGR.out.trans hg4)
        have HS4 := Lib.hid (HSR.out.trans (Sp.of_below hb4))
        have CA := Lib.hid (HIH.out _ (List.getElem_mem hkl) _ _ (n + 1 + heftL (x.kids.take k)) w4 hs4 (HMR.out.on hb4) (HGB.out w4 HG4.out) (Nat.le_trans HBW.out HG4.out.size) (by
          have h1 := heftL_next x.kids k hkl
          have h2 := heftL_take x.kids (k + 1)
          have h3 := HHE.out
          have h4 := HHN.out
          omega))
        rw [Nat.add_assoc (n + 1), ← heftL_next x.kids k hkl] at CA
        clear hs4 hb4 hg4 CB
        go_wp2_with fail
        refine CA.out.mono ?_
        rintro e w5 ⟨rfl, hm5, hg5, hs5⟩
        have HM5 := Lib.hid hm5
        have HG5 := Lib.hid (HG4.out.trans hg5)
        have HS5 := Lib.hid (HS4.out.trans hs5)
        clear hm5 hg5 hs5 CA
        go_wp2
        go_roundw
        case rel => exact ⟨k + 1, by omega, by go_num, HM5.out, HG5.out, HS5.out⟩
        case measure => simp [intOf]; omega
      · have HFIN := Lib.hid (HMR.out.more (n' := n + heftN x) (by
          have h2 := heftL_take x.kids k
          have h3 := HHE.out
          omega))
        go_wp2
        go_end0
        exact ⟨rfl, HFIN.out, HGR.out, HSR.out⟩

set_option maxRecDepth 20000 in
set_option maxHeartbeats 4000000 in
/-- The map of a tree's handles. -/
theorem owners_any (t : Tr) (w : World) (hin : t.In w w.heap.size) (hh : heftN t.root ≤ 134217728) :
    Calls Try.prog 38 #[t.val] w fun e w' => ∃ g, e = .returned (.map (some g)) ∧ w.heap.size ≤ g ∧ MZ w' t.root (fun k => w.heap.size ≤ k) g (heftN t.root) ∧ Below w.heap.size w w' := by
  obtain ⟨g, hg⟩ : ∃ g, w.heap.size = g := ⟨_, rfl⟩
  have HI := Lib.hid hin.root
  have HH := Lib.hid hh
  have hr := makeMapZ
  obtain ⟨boot, ra, rc, rs, ⟨nm, pa, pc, ps, ka, kc, ks⟩⟩ := t
  replace HI : Hid ((Nd.mk nm pa pc ps ka kc ks).In w w.heap.size) := HI
  simp only [Tr.val, Tr.rv, Nd.val, Nd.pv, Nd.kv, Nd.name, Nd.pa, Nd.pc, Nd.props, Nd.ka, Nd.kc, Nd.kids] at HH ⊢
  obtain ⟨RR, hRR⟩ : ∃ RR, Nd.mk nm pa pc ps ka kc ks = RR := ⟨_, rfl⟩
  have HRV : Hid (RR.name = nm ∧ RR.pv = .slice pa ps.length pc ∧ RR.kv = .slice ka ks.length kc) := Lib.hid (by rw [← hRR]; exact ⟨rfl, rfl, rfl⟩)
  rw [hRR] at HI HH ⊢
  clear hRR hin hh
  have HF : Hid (∀ W3, (((w.alloc (.cells #[.int .u32 boot, .slice ra rs.length rc, .string nm, .slice pa ps.length pc, .slice ka ks.length kc] 29)).alloc (.map #[] 0)).alloc (.cells #[.string nm, .slice pa ps.length pc, .slice ka ks.length kc, .pointer none, .int .i64 0] 74)) = W3 → MZ W3 RR (fun k => g ≤ k) (g + 1) 0 ∧ Spot W3 RR (fun k => g ≤ k) (g + 1 + 1) [] RR ∧ Below g w W3 ∧ g ≤ W3.heap.size) := Lib.hid (by
    rintro W3 rfl
    have e1 : (w.alloc (.cells #[.int .u32 boot, .slice ra rs.length rc, .string nm, .slice pa ps.length pc, .slice ka ks.length kc] 29)).heap.size = g + 1 := by simp [hg]
    have e2 : ((w.alloc (.cells #[.int .u32 boot, .slice ra rs.length rc, .string nm, .slice pa ps.length pc, .slice ka ks.length kc] 29)).alloc (.map #[] 0)).heap.size = g + 1 + 1 := by simp [hg]
    refine ⟨MZ.new ?_, .root (by show g ≤ g + 1 + 1; omega) ?_, ?_, by simp [hg]; omega⟩
    · rw [Below.heap_alloc _ _ _ (by omega), ← e1]; exact World.alloc_heap_new _ _
    · obtain ⟨q1, q2, q3⟩ := HRV.out
      rw [q1, q2, q3, ← e2]
      exact heap_alloc_new _ _
    · exact (((Below.refl g w).alloc (by omega) _).alloc (by omega) _).alloc (by omega) _)
  have CA := Lib.hid (fun W h1 h2 h3 h4 => addTo_any RR (fun k => g ≤ k) g (g + 1) (by omega) (fun k h => h) RR (g + 1 + 1) [] 0 W h1 h2 h3 h4 (by have := HH.out; omega))
  rw [hg] at HI ⊢
  go_enter Try.func38, Try.ntmps38
  go_wp2_with fail
  generalize hW3 : (((w.alloc (.cells #[.int .u32 boot, .slice ra rs.length rc, .string nm, .slice pa ps.length pc, .slice ka ks.length kc] 29)).alloc (.map #[] 0)).alloc (.cells #[.string nm, .slice pa ps.length pc, .slice ka ks.length kc, .pointer none, .int .i64 0] 74)) = W3
  obtain ⟨f1, f2, f3, f4⟩ := HF.out W3 hW3
  refine (CA.out W3 f2 f1 (HI.out.under f3) f4).mono ?_
  rintro e w4 ⟨rfl, hm, hg4, _⟩
  have HM := Lib.hid hm
  have HB : Hid (Below g w w4) := Lib.hid (f3.grown hg4 f4 (fun k e => by cases e; omega))
  clear f1 f2 f3 f4 hm hg4 hW3 hr
  go_wp2
  go_ret
  exact ⟨g + 1, rfl, by omega, by rw [Nat.zero_add] at HM; exact HM.out, HB.out⟩
end Go.Proofs.Ytapfcbcojnplaaa
