/-
  Base, part 5: what the proofs of this claim lean on.
-/
import Derived.Test.YtbblgkidgecdpaaBase3
import Derived.Test.YtbblgkidgecdpaaBase4
import Derived.Test.YtbblgkidgecdpaaBase1
import Derived.Test.YtbblgkidgecdpaaBase2
import Derived.Lib.IndexLaws

/-! A node's ranges: the document's answer. -/
namespace Go.Proofs.Ytbblgkidgecdpaa
open Go.RowKit
set_option linter.unusedVariables false
set_option linter.unusedSimpArgs false

/-- The three numbers of a range's bytes. -/
def rng (xs : List Int) (c p : Nat) : Int × Int × Int := (numTo (xs.take c) 0 c, numTo ((xs.drop c).take p) 0 p, numTo (xs.drop (c + p)) 0 (xs.length - (c + p)))
/-- The first m ranges, in steps of st bytes. -/
def rngs (zs : List Int) (c p st m : Nat) : List (Int × Int × Int) := (List.range m).map fun j => rng ((zs.drop (j * st)).take st) c p
theorem rngs_next (zs : List Int) (c p st m : Nat) : rngs zs c p st (m + 1) = rngs zs c p st m ++ [rng ((zs.drop (m * st)).take st) c p] := by simp [rngs, List.range_succ]
def rngV (x : Int × Int × Int) : Value × Value × Value := (.int .u64 x.1, .int .u64 x.2.1, .int .u64 x.2.2)
def rangesName : ByteArray := ⟨#[114, 97, 110, 103, 101, 115]⟩
/-- A node's ranges: whether it has them, whether they may be, and they. -/
def rangesV (parent n : Nd) : Bool × Bool × List (Int × Int × Int) :=
  match n.props.find? fun x => decide (x.name = rangesName) with
  | none => (false, true, [])
  | some x => (if cntV n nmAddr 2 ≤ 0 ∨ cntV n nmSize 1 < 0 ∨ cntV parent nmAddr 2 ≤ 0 ∨ cntV parent nmSize 1 < 0 ∨ x.zs.length % (4 * ((cntV n nmAddr 2).toNat + (cntV parent nmAddr 2).toNat + (cntV n nmSize 1).toNat)) ≠ 0 then (false, false, []) else if x.zs.length = 0 then (true, true, [(0, 0, 18446744073709551615)]) else (true, true, rngs x.zs (4 * (cntV n nmAddr 2).toNat) (4 * (cntV parent nmAddr 2).toNat) (4 * ((cntV n nmAddr 2).toNat + (cntV parent nmAddr 2).toNat + (cntV n nmSize 1).toNat)) (x.zs.length / (4 * ((cntV n nmAddr 2).toNat + (cntV parent nmAddr 2).toNat + (cntV n nmSize 1).toNat)))))
theorem info_rng : (Try.prog.info? 41).map (fun i => (i.zero, i.size, i.bytes)) = some (some (.agg #[.int .u64 0, .int .u64 0, .int .u64 0]), 3, 24) := by kernel_rfl


set_option maxRecDepth 20000 in
set_option maxHeartbeats 8000000 in
theorem refranges_any (parent n : Nd) (w : World) (hpn : parent.In w w.heap.size) (hin : n.In w w.heap.size) (hz1 : heftN parent ≤ 1073741824) (hz2 : heftN n ≤ 1073741824) :
    Calls Try.prog 10 #[parent.val, n.val] w fun e w' => (∃ A m c, e = .returned (.tuple #[.slice A m c, .bool (rangesV parent n).1, .bool (rangesV parent n).2.1]) ∧ Cel3 w' w'.heap.size A m ((rangesV parent n).2.2.map rngV) ∧ m ≤ c ∧ c ≤ 9223372036854775807) ∧ Below w.heap.size w w' := by
  obtain ⟨r, hr⟩ : ∃ r, r = idxOf (n.props.map PV.name) rangesName := ⟨_, rfl⟩
  have CF := Lib.hid (fun W hW => reffind_any n rangesName W hW r hr)
  have HI := Lib.hid hin
  have HZ := Lib.hid (fun k (h : k < n.props.length) => Nat.le_trans (prop_heft h) hz2)
  have CC := Lib.hid (fun W (hW : Below w.heap.size w W) => refcounts_any parent W (Nd.In.more hW.size (hpn.under hW)) hz1)
  have CN := Lib.hid (fun W (hW : Below w.heap.size w W) => refcounts_any n W (Nd.In.more hW.size (hin.under hW)) hz2)
  have hpa' := cntV_le hpn nmAddr 2 (by omega)
  have hca := cntV_le hin nmAddr 2 (by omega)
  have hcs := cntV_le hin nmSize 1 (by omega)
  have HF : Hid ((r < 0 ∧ rangesV parent n = (false, true, [])) ∨ ∃ k : Nat, ∃ h : k < n.props.length, r = (k : Int) ∧ rangesV parent n = (if cntV n nmAddr 2 ≤ 0 ∨ cntV n nmSize 1 < 0 ∨ cntV parent nmAddr 2 ≤ 0 ∨ cntV parent nmSize 1 < 0 ∨ n.props[k].zs.length % (4 * ((cntV n nmAddr 2).toNat + (cntV parent nmAddr 2).toNat + (cntV n nmSize 1).toNat)) ≠ 0 then (false, false, []) else if n.props[k].zs.length = 0 then (true, true, [(0, 0, 18446744073709551615)]) else (true, true, rngs n.props[k].zs (4 * (cntV n nmAddr 2).toNat) (4 * (cntV parent nmAddr 2).toNat) (4 * ((cntV n nmAddr 2).toNat + (cntV parent nmAddr 2).toNat + (cntV n nmSize 1).toNat)) (n.props[k].zs.length / (4 * ((cntV n nmAddr 2).toNat + (cntV parent nmAddr 2).toNat + (cntV n nmSize 1).toNat)))))) := Lib.hid (by
    rcases idx_or (n.props.map PV.name) rangesName with h | ⟨k, h1, h2, _⟩
    · exact .inl ⟨by omega, by rw [rangesV, find_none h]⟩
    · rw [List.length_map] at h1
      exact .inr ⟨k, h1, hr.trans h2, by rw [rangesV, find_at h1 h2]⟩)
  obtain ⟨O, hO⟩ : ∃ O, rangesV parent n = O := ⟨_, rfl⟩
  rw [hO] at HF ⊢
  generalize cntV parent nmAddr 2 = vp at *
  generalize cntV parent nmSize 1 = vq at *
  generalize cntV n nmAddr 2 = vc at *
  generalize cntV n nmSize 1 = vs at *
  have HVP := Lib.hid hpa'
  have HVC := Lib.hid hca
  have HVS := Lib.hid hcs
  clear hr hin hpn hz1 hz2 hO hpa' hca hcs
  obtain ⟨nm, pa, pc, ps, ka, kc, ks⟩ := parent
  obtain ⟨nm2, pa2, pc2, ps2, ka2, kc2, ks2⟩ := n
  simp only [Nd.val, Nd.pv, Nd.kv, Nd.name, Nd.pa, Nd.pc, Nd.props, Nd.ka, Nd.kc, Nd.kids] at CF CC CN HF HZ ⊢
  have HB := Lib.hid (((Below.refl w.heap.size w).alloc (Nat.le_refl _) (.cells #[Value.string nm, .slice pa ps.length pc, .slice ka ks.length kc] 25)).alloc (by simp) (.cells #[Value.string nm2, .slice pa2 ps2.length pc2, .slice ka2 ks2.length kc2] 25))
  have BX : Hid (∀ W, Below (w.heap.size + 2) ((w.alloc (.cells #[Value.string nm, .slice pa ps.length pc, .slice ka ks.length kc] 25)).alloc (.cells #[Value.string nm2, .slice pa2 ps2.length pc2, .slice ka2 ks2.length kc2] 25)) W → W.cell? ⟨w.heap.size, 0, none⟩ = some (.string nm) ∧ W.cell? ⟨w.heap.size, 1, none⟩ = some (.slice pa ps.length pc) ∧ W.cell? ⟨w.heap.size, 2, none⟩ = some (.slice ka ks.length kc) ∧ W.cell? ⟨w.heap.size + 1, 0, none⟩ = some (.string nm2) ∧ W.cell? ⟨w.heap.size + 1, 1, none⟩ = some (.slice pa2 ps2.length pc2) ∧ W.cell? ⟨w.heap.size + 1, 2, none⟩ = some (.slice ka2 ks2.length kc2)) := Lib.hid (fun W h => by
    have e1 : (w.alloc (.cells #[Value.string nm, .slice pa ps.length pc, .slice ka ks.length kc] 25)).heap.size = w.heap.size + 1 := by simp
    have y : ∀ k, W.cell? ⟨w.heap.size, k, none⟩ = (w.alloc (.cells #[Value.string nm, .slice pa ps.length pc, .slice ka ks.length kc] 25)).cell? ⟨w.heap.size, k, none⟩ := fun k => (h.cell (p := ⟨w.heap.size, k, none⟩) (by show w.heap.size < _; omega)).trans (World.cell?_alloc_lt _ _ _ (by rw [e1]; exact Nat.lt_succ_self _))
    have z : ∀ k, W.cell? ⟨w.heap.size + 1, k, none⟩ = #[Value.string nm2, .slice pa2 ps2.length pc2, .slice ka2 ks2.length kc2][k]? := fun k => by
      refine (h.cell (p := ⟨w.heap.size + 1, k, none⟩) (by show w.heap.size + 1 < _; omega)).trans ?_
      rw [← e1]
      exact World.cell?_alloc_new _ _ _ _
    exact ⟨(y 0).trans (World.cell?_alloc_new _ _ _ _), (y 1).trans (World.cell?_alloc_new _ _ _ _), (y 2).trans (World.cell?_alloc_new _ _ _ _), z 0, z 1, z 2⟩)
  go_enter Try.func10, Try.ntmps10
  go_wp2_with fail
  refine (CF.out _ (Nd.In.more HB.out.size (HI.out.under HB.out))).mono ?_
  rintro e w1 ⟨rfl, hb⟩
  have HB1 := Lib.hid (HB.out.trans (hb.mono HB.out.size))
  have HX1 := Lib.hid (hb.mono (B' := w.heap.size + 2) (by simp))
  clear hb
  obtain ⟨x0, x1, x2, y0, y1, y2⟩ := BX.out _ HX1.out
  rcases HF.out with ⟨hr0, hv⟩ | ⟨k, hk, hrk, hv⟩
  · subst hv
    clear HF x0 x1 x2 y0 y1 y2
    go_wp2
    go_ret3
    exact ⟨⟨none, 0, 0, rfl, Cel3.nil _ _ _, Nat.le_refl _, by omega⟩, HB1.out⟩
  · subst hrk
    obtain ⟨b, o, e, _, _, c1⟩ := (HI.out.under HB1.out).pcell (i := k) hk
    obtain rfl : pa2 = _ := e
    replace c1 : _ = some (Value.slice ps2[k].addr ps2[k].zs.length ps2[k].cap) := c1
    have hp := (HI.out).prop (p := ps2[k]) (List.getElem_mem hk)
    have hz := HZ.out k hk
    have hpl : ps2.length ≤ pc2 ∧ pc2 ≤ 9223372036854775807 := HI.out.plen
    obtain ⟨hpl1, hpl2⟩ := hpl
    obtain ⟨P, hP⟩ : ∃ P, ps2[k] = P := ⟨_, rfl⟩
    replace hv : O = (if vc ≤ 0 ∨ vs < 0 ∨ vp ≤ 0 ∨ vq < 0 ∨ P.zs.length % (4 * (vc.toNat + vp.toNat + vs.toNat)) ≠ 0 then (false, false, []) else if P.zs.length = 0 then (true, true, [(0, 0, 18446744073709551615)]) else (true, true, rngs P.zs (4 * vc.toNat) (4 * vp.toNat) (4 * (vc.toNat + vp.toNat + vs.toNat)) (P.zs.length / (4 * (vc.toNat + vp.toNat + vs.toNat))))) := by rw [← hP]; exact hv
    rw [hP] at c1 hp hz
    obtain ⟨N, hN⟩ : ∃ N, P.zs.length = N := ⟨_, rfl⟩
    rw [hN] at c1 hz hv
    have HSH := Lib.hid (show Shows w w.heap.size P.addr N P.zs from hN ▸ hp.2.1)
    have hcap : N ≤ P.cap ∧ P.cap ≤ 9223372036854775807 := hN ▸ hp.2.2
    generalize P.addr = QA at *
    generalize P.cap = QC at *
    generalize P.zs = zs at *
    obtain ⟨hc1, hc2⟩ := hcap
    have HV := Lib.hid hv
    clear HF hv hp hP hN
    go_wp2_with fail
    refine (CN.out _ HB1.out).mono ?_
    rintro e w2 ⟨rfl, hb⟩
    have HB2 := Lib.hid (HB1.out.trans (hb.mono HB1.out.size))
    have HX2 := Lib.hid (HX1.out.trans (hb.mono (by have := HX1.out.size; simp at this; omega)))
    clear hb c1 x0 x1 x2 y0 y1 y2
    obtain ⟨x0, x1, x2, y0, y1, y2⟩ := BX.out _ HX2.out
    go_wp2_with fail
    refine (CC.out _ HB2.out).mono ?_
    rintro e w3 ⟨rfl, hb⟩
    have HB3 := Lib.hid (HB2.out.trans (hb.mono HB2.out.size))
    clear hb x0 x1 x2 y0 y1 y2
    by_cases hok : 0 ≤ vc ∧ 0 ≤ vs
    · obtain ⟨c, rfl⟩ : ∃ c : Nat, vc = (c : Int) := ⟨vc.toNat, by omega⟩
      obtain ⟨s, rfl⟩ : ∃ s : Nat, vs = (s : Int) := ⟨vs.toNat, by omega⟩
      have k1 : (decide ((0 : Int) ≤ (c : Int)) && decide ((0 : Int) ≤ (s : Int))) = true := by simp
      rw [k1]
      clear k1 hok
      by_cases hok2 : 0 ≤ vp ∧ 0 ≤ vq
      · obtain ⟨p, rfl⟩ : ∃ p : Nat, vp = (p : Int) := ⟨vp.toNat, by omega⟩
        have k1 : (decide ((0 : Int) ≤ (p : Int)) && decide ((0 : Int) ≤ vq)) = true := by simp [hok2.2]
        rw [k1]
        have hq0 : 0 ≤ vq := hok2.2
        have HQ0 := Lib.hid hq0
        clear k1 hok2 hq0
        by_cases hc0 : c = 0
        · subst hc0
          have HO : Hid (O = (false, false, [])) := Lib.hid (by rw [HV.out, if_pos (.inl (by omega))])
          go_wp2
          go_ret3
          exact ⟨⟨none, 0, 0, by (rw [HO.out] <;> rfl), by rw [HO.out]; exact Cel3.nil _ _ _, Nat.le_refl _, by omega⟩, HB3.out⟩
        · by_cases hp0 : p = 0
          · subst hp0
            have k2 : ((c : Int) == 0) = false := by rw [beq_eq_false_iff_ne]; omega
            have HO : Hid (O = (false, false, [])) := Lib.hid (by rw [HV.out, if_pos (.inr (.inr (.inl (by omega))))])
            go_wp2
            go_ret3
            exact ⟨⟨none, 0, 0, by (rw [HO.out] <;> rfl), by rw [HO.out]; exact Cel3.nil _ _ _, Nat.le_refl _, by omega⟩, HB3.out⟩
          · have k2 : ((c : Int) == 0) = false := by rw [beq_eq_false_iff_ne]; omega
            have k3 : ((p : Int) == 0) = false := by rw [beq_eq_false_iff_ne]; omega
            obtain ⟨st, hst⟩ : ∃ st : Nat, 4 * (c + p + s) = st := ⟨_, rfl⟩
            obtain ⟨c4, hc4⟩ : ∃ x : Nat, 4 * c = x := ⟨_, rfl⟩
            obtain ⟨p4, hp4⟩ : ∃ x : Nat, 4 * p = x := ⟨_, rfl⟩
            have hsti : (4 : Int) * ((c : Int) + (p : Int) + (s : Int)) = (st : Int) := by omega
            have hc4i : (4 : Int) * (c : Int) = (c4 : Int) := by omega
            have hp4i : (4 : Int) * (p : Int) = (p4 : Int) := by omega
            have hc8 : c4 ≤ 8 := by have := HVC.out; omega
            have hp8 : p4 ≤ 8 := by have := HVP.out; omega
            have hs8 : st - (c4 + p4) ≤ 8 := by have := HVS.out; omega
            have hst1 : c4 + p4 ≤ st := by omega
            have hst2 : st ≤ 24 := by omega
            have hst0 : 0 < st := by omega
            simp only [Int.toNat_natCast, hst, hc4, hp4] at HV
            have hcc : c ≤ 2 := by have := HVC.out; omega
            have hpp : p ≤ 2 := by have := HVP.out; omega
            have hss : s ≤ 2 := by have := HVS.out; omega
            clear hst hc4 hp4
            by_cases hrem : N % st = 0
            · have k4 : ((N : Int) % (st : Int) != 0) = false := by
                rw [bne_eq_false_iff_eq]
                have : ((N % st : Nat) : Int) = 0 := by rw [hrem]; rfl
                rw [Int.natCast_emod] at this
                exact this
              by_cases hN0 : N = 0
              · subst hN0
                have HO : Hid (O = (true, true, [(0, 0, 18446744073709551615)])) := Lib.hid (by rw [HV.out, if_neg (by have := HQ0.out; rintro (h | h | h | h | h) <;> omega), if_pos rfl])
                have RT := row_triple w3 w3.heap.size (Nat.le_refl _) 41 (.int .u64 0, .int .u64 0, .int .u64 18446744073709551615)
                obtain ⟨A', c', e', hcel, hl1, hl2, _⟩ := owned_cel3 RT
                simp only [Value.slice.injEq, true_and] at e'
                obtain ⟨rfl, rfl⟩ := e'
                have HCEL := Lib.hid hcel
                have HBZ := Lib.hid (HB3.out.alloc HB3.out.size (.cells #[.int .u64 0, .int .u64 0, .int .u64 18446744073709551615] 41))
                clear RT hcel hrem HV
                go_wp2
                go_ret3
                exact ⟨⟨_, 1, _, by (rw [HO.out] <;> rfl), by rw [HO.out]; exact HCEL.out, hl1, hl2⟩, HBZ.out⟩
              · have k5 : ((N : Int) == 0) = false := by rw [beq_eq_false_iff_ne]; omega
                obtain ⟨m, hm⟩ : ∃ m, N / st = m := ⟨_, rfl⟩
                have hN : N = m * st := by
                  have h1 := Nat.div_add_mod N st
                  rw [hrem, hm, Nat.mul_comm] at h1
                  omega
                have HO : Hid (O = (true, true, rngs zs c4 p4 st m)) := Lib.hid (by rw [HV.out, if_neg (by have := HQ0.out; rintro (h | h | h | h | h) <;> omega), if_neg hN0, hm])
                have HN := Lib.hid hN
                have hmN : m ≤ N := by rw [hN]; exact Nat.le_mul_of_pos_right m hst0
                obtain ⟨g2, hg2⟩ : ∃ g2, g2 = w3.heap.size := ⟨_, rfl⟩
                have HG2 := Lib.hid hg2
                clear hrem hm hN HV hg2
                go_wp2_with fail
                go_loopw [15, 16] (fun out i wr => ∃ j at_ : Nat, j ≤ m ∧ at_ = j * st ∧ i = .int .i64 at_ ∧ wr.ownsRow g2 41 3 out j (flatT ((rngs zs c4 p4 st j).map rngV)) ∧ Below g2 w3 wr) (fun _ i _ => N - (intOf i).toNat)
                case atStart => exact ⟨0, 0, Nat.zero_le _, by omega, rfl, World.ownsRow_nil _ _ _ _, Below.refl _ _⟩
                case round =>
                  obtain ⟨j, at_, hj, hat, rfl, hown, hb⟩ := hrel
                  have HBX := Lib.hid hb
                  have HBW := Lib.hid (HB3.out.trans (hb.mono (by rw [HG2.out]; exact HB3.out.size)))
                  obtain ⟨Ao, co, rfl, hcel, hco1, hco2, _⟩ := owned_cel3 hown
                  have HCEL := Lib.hid hcel
                  by_cases hlt : j < m
                  · have hle : at_ + st ≤ N := by
                      rw [HN.out, hat, ← Nat.succ_mul]
                      exact Nat.mul_le_mul_right _ hlt
                    have hNX := rngs_next zs c4 p4 st j
                    rw [← hat] at hNX
                    have HNX := Lib.hid hNX
                    have HAT2 : Hid (at_ + st = (j + 1) * st) := Lib.hid (by rw [hat, Nat.succ_mul])
                    have hs0 := (HSH.out.below HBW.out).cut (l := at_) (h := at_ + st) (by omega) (by omega) hc1
                    rw [show at_ + st - at_ = st by omega] at hs0
                    have R0 : ∀ W : World, (Instr.slice 65 (.slice QA N QC) (some (.int .i64 (at_ : Int))) (some (.int .i64 ((at_ : Int) + (st : Int)))) none).run Try.prog W = .ok (.slice (cutAt QA QC at_) st (QC - at_)) W := fun W => by
                      have h := run_cut Try.underlying65 size_u8x QA N QC (at_ : Int) ((at_ : Int) + (st : Int)) at_ (at_ + st) rfl (by omega) (by omega) (by omega) W
                      rwa [show at_ + st - at_ = st by omega] at h
                    generalize cutAt QA QC at_ = XA at *
                    obtain ⟨XC, hXC⟩ : ∃ XC, QC - at_ = XC := ⟨_, rfl⟩
                    have hXC1 : st ≤ XC := by omega
                    have hXC2 : XC ≤ 9223372036854775807 := by omega
                    rw [hXC] at R0
                    have hs1 := hs0.upto (h := c4) (by omega)
                    have hs2 := hs0.cut (l := c4) (h := c4 + p4) (by omega) (by omega) hXC1
                    have hs3 := hs0.from_ (l := c4 + p4) (by omega) hXC1
                    rw [show c4 + p4 - c4 = p4 by omega] at hs2
                    have hxl : ((zs.drop at_).take st).length = st := hs0.1
                    have R1 : ∀ W : World, (Instr.slice 65 (.slice XA st XC) none (some (.int .i64 (c4 : Int))) none).run Try.prog W = .ok (.slice XA c4 XC) W := fun W => run_upto Try.underlying65 size_u8x XA st XC _ c4 rfl (by omega) W
                    have R2 : ∀ W : World, (Instr.slice 65 (.slice XA st XC) (some (.int .i64 (c4 : Int))) (some (.int .i64 ((c4 : Int) + (p4 : Int)))) none).run Try.prog W = .ok (.slice (cutAt XA XC c4) p4 (XC - c4)) W := fun W => by
                      have h := run_cut Try.underlying65 size_u8x XA st XC (c4 : Int) ((c4 : Int) + (p4 : Int)) c4 (c4 + p4) rfl (by omega) (by omega) (by omega) W
                      rwa [show c4 + p4 - c4 = p4 by omega] at h
                    have R3 : ∀ W : World, (Instr.slice 65 (.slice XA st XC) (some (.int .i64 ((c4 : Int) + (p4 : Int)))) none none).run Try.prog W = .ok (.slice (cutAt XA XC (c4 + p4)) (st - (c4 + p4)) (XC - (c4 + p4))) W := fun W => run_from Try.underlying65 size_u8x XA st XC _ (c4 + p4) (by omega) (by omega) W
                    have hrg : rng ((zs.drop at_).take st) c4 p4 = (numTo (((zs.drop at_).take st).take c4) 0 c4, numTo ((((zs.drop at_).take st).drop c4).take p4) 0 p4, numTo (((zs.drop at_).take st).drop (c4 + p4)) 0 (st - (c4 + p4))) := by rw [rng, hxl]
                    have CW1 := Lib.hid (refwide_any _ c4 XC _ wr.drew _ hs1 hc8 (by omega) hXC2)
                    have CW2 := Lib.hid (refwide_any _ p4 (XC - c4) _ wr.drew _ hs2 hp8 (by omega) (by omega))
                    have CW3 := Lib.hid (refwide_any _ (st - (c4 + p4)) (XC - (c4 + p4)) _ wr.drew _ hs3 hs8 (by omega) (by omega))
                    rw [hrg] at HNX
                    clear hrg hs0 hs1 hs2 hs3 hxl
                    generalize numTo (((zs.drop at_).take st).take c4) 0 c4 = n1 at *
                    generalize numTo ((((zs.drop at_).take st).drop c4).take p4) 0 p4 = n2 at *
                    generalize numTo (((zs.drop at_).take st).drop (c4 + p4)) 0 (st - (c4 + p4)) = n3 at *
                    obtain ⟨i0, hi, hz, hs1, hby⟩ := info_any info_rng
                    obtain ⟨A', c', w5, r5, o5, b5, _, _⟩ := app_triple Try.underlying36 hi hz hs1 hby rfl (w := wr.drew) hown.drew (.int .u64 n1, .int .u64 n2, .int .u64 n3) rfl rfl rfl (by omega) (by omega) (by have := hb.size; have := HG2.out; show g2 ≤ wr.heap.size; omega) 36
                    have HO5 : Hid (w5.ownsRow g2 41 3 (.slice A' (j + 1) c') (j + 1) (flatT ((rngs zs c4 p4 st j).map rngV ++ [(.int .u64 n1, .int .u64 n2, .int .u64 n3)]))) := Lib.hid o5
                    have HB5 := Lib.hid ((Below.refl g2 wr).drew.trans b5)
                    have W1 : IntKind.i64.wrap (c4 : Int) = (c4 : Int) := IntWalk.i64_in _ (by omega)
                    have W2 : IntKind.i64.wrap (p4 : Int) = (p4 : Int) := IntWalk.i64_in _ (by omega)
                    have W3 : IntKind.i64.wrap ((c4 : Int) + (p4 : Int)) = (c4 : Int) + (p4 : Int) := IntWalk.i64_in _ (by omega)
                    clear hown hb hcel hat hNX hi hz hs1 hby o5 b5 hXC
                    go_wp2_with fail
                    refine wp_region_held_drew (S := fun _ => True) (by kernel_rfl) trivial (fun hHeld => ?_)
                    refine held_take 0 rfl (by kernel_rfl) (by kernel_rfl) (by kernel_rfl) (fun _ _ _ h => h) (by rfl) hHeld (v := ?_) (fun w hSw => ?_) (fun _ => ?_)
                    rotate_left
                    · ((try dsimp only at hSw); go_simp; (try with_reducible rfl))
                    simp only [Act.put, List.setIfInBounds_toArray, List.set_cons_zero, List.set_cons_succ]
                    refine held_take 1 rfl (by kernel_rfl) (by kernel_rfl) (by kernel_rfl) (fun _ _ _ h => h) (by rfl) hHeld (v := ?_) (fun w hSw => ?_) (fun _ => ?_)
                    rotate_left
                    · ((try dsimp only at hSw); go_simp; (try with_reducible rfl))
                    simp only [Act.put, List.setIfInBounds_toArray, List.set_cons_zero, List.set_cons_succ]
                    refine held_take 2 rfl (by kernel_rfl) (by kernel_rfl) (by kernel_rfl) (fun _ _ _ h => h) (by rfl) hHeld (v := ?_) (fun w hSw => ?_) (fun _ => ?_)
                    rotate_left
                    · ((try dsimp only at hSw); go_simp; (try with_reducible rfl))
                    simp only [Act.put, List.setIfInBounds_toArray, List.set_cons_zero, List.set_cons_succ]
                    refine held_take 3 rfl (by kernel_rfl) (by kernel_rfl) (by kernel_rfl) (fun _ _ _ h => h) (by rfl) hHeld (v := ?_) (fun w hSw => ?_) (fun _ => ?_)
                    rotate_left
                    · ((try dsimp only at hSw); go_simp; (try with_reducible rfl))
                    simp only [Act.put, List.setIfInBounds_toArray, List.set_cons_zero, List.set_cons_succ]
                    refine held_take 4 rfl (by kernel_rfl) (by kernel_rfl) (by kernel_rfl) (fun _ _ _ h => h) (by rfl) hHeld (v := ?_) (fun w hSw => ?_) (fun _ => ?_)
                    rotate_left
                    · ((try dsimp only at hSw); go_simp; (try with_reducible rfl))
                    simp only [Act.put, List.setIfInBounds_toArray, List.set_cons_zero, List.set_cons_succ]
                    refine held_take 6 rfl (by kernel_rfl) (by kernel_rfl) (by kernel_rfl) (fun _ _ _ h => h) (by rfl) hHeld (v := ?_) (fun w hSw => ?_) (fun _ => ?_)
                    rotate_left
                    · ((try dsimp only at hSw); go_simp; (try with_reducible rfl))
                    simp only [Act.put, List.setIfInBounds_toArray, List.set_cons_zero, List.set_cons_succ]
                    refine held_take 7 rfl (by kernel_rfl) (by kernel_rfl) (by kernel_rfl) (fun _ _ _ h => h) (by rfl) hHeld (v := ?_) (fun w hSw => ?_) (fun _ => ?_)
                    rotate_left
                    · ((try dsimp only at hSw); go_simp; (try with_reducible rfl))
                    simp only [Act.put, List.setIfInBounds_toArray, List.set_cons_zero, List.set_cons_succ]
                    refine held_take 8 rfl (by kernel_rfl) (by kernel_rfl) (by kernel_rfl) (fun _ _ _ h => h) (by rfl) hHeld (v := ?_) (fun w hSw => ?_) (fun _ => ?_)
                    rotate_left
                    · ((try dsimp only at hSw); go_simp; (try with_reducible rfl))
                    simp only [Act.put, List.setIfInBounds_toArray, List.set_cons_zero, List.set_cons_succ]
                    refine held_take 9 rfl (by kernel_rfl) (by kernel_rfl) (by kernel_rfl) (fun _ _ _ h => h) (by rfl) hHeld (v := ?_) (fun w hSw => ?_) (fun _ => ?_)
                    rotate_left
                    · ((try dsimp only at hSw); go_simp; (try with_reducible rfl))
                    simp only [Act.put, List.setIfInBounds_toArray, List.set_cons_zero, List.set_cons_succ]
                    refine held_take 10 rfl (by kernel_rfl) (by kernel_rfl) (by kernel_rfl) (fun _ _ _ h => h) (by rfl) hHeld (v := ?_) (fun w hSw => ?_) (fun _ => ?_)
                    rotate_left
                    · ((try dsimp only at hSw); go_simp; (try with_reducible rfl))
                    simp only [Act.put, List.setIfInBounds_toArray, List.set_cons_zero, List.set_cons_succ]
                    refine held_take 11 rfl (by kernel_rfl) (by kernel_rfl) (by kernel_rfl) (fun _ _ _ h => h) (by rfl) hHeld (v := ?_) (fun w hSw => ?_) (fun _ => ?_)
                    rotate_left
                    · ((try dsimp only at hSw); go_simp; (try with_reducible rfl))
                    simp only [Act.put, List.setIfInBounds_toArray, List.set_cons_zero, List.set_cons_succ]
                    refine held_take 12 rfl (by kernel_rfl) (by kernel_rfl) (by kernel_rfl) (fun _ _ _ h => h) (by rfl) hHeld (v := ?_) (fun w hSw => ?_) (fun _ => ?_)
                    rotate_left
                    · ((try dsimp only at hSw); go_simp; (try with_reducible rfl))
                    simp only [Act.put, List.setIfInBounds_toArray, List.set_cons_zero, List.set_cons_succ]
                    refine held_take 13 rfl (by kernel_rfl) (by kernel_rfl) (by kernel_rfl) (fun _ _ _ h => h) (by rfl) hHeld (v := ?_) (fun w hSw => ?_) (fun _ => ?_)
                    rotate_left
                    · ((try dsimp only at hSw); go_simp; (try with_reducible rfl))
                    simp only [Act.put, List.setIfInBounds_toArray, List.set_cons_zero, List.set_cons_succ]
                    refine held_take 14 rfl (by kernel_rfl) (by kernel_rfl) (by kernel_rfl) (fun _ _ _ h => h) (by rfl) hHeld (v := ?_) (fun w hSw => ?_) (fun _ => ?_)
                    rotate_left
                    · ((try dsimp only at hSw); go_simp; (try with_reducible rfl))
                    simp only [Act.put, List.setIfInBounds_toArray, List.set_cons_zero, List.set_cons_succ]
                    refine held_take 16 rfl (by kernel_rfl) (by kernel_rfl) (by kernel_rfl) (fun _ _ _ h => h) (by rfl) hHeld (v := ?_) (fun w hSw => ?_) (fun _ => ?_)
                    rotate_left
                    · ((try dsimp only at hSw); go_simp; (try with_reducible rfl))
                    simp only [Act.put, List.setIfInBounds_toArray, List.set_cons_zero, List.set_cons_succ]
                    refine held_take 17 rfl (by kernel_rfl) (by kernel_rfl) (by kernel_rfl) (fun _ _ _ h => h) (by rfl) hHeld (v := ?_) (fun w hSw => ?_) (fun _ => ?_)
                    rotate_left
                    · ((try dsimp only at hSw); go_simp; (try with_reducible rfl))
                    simp only [Act.put, List.setIfInBounds_toArray, List.set_cons_zero, List.set_cons_succ]
                    refine held_take 18 rfl (by kernel_rfl) (by kernel_rfl) (by kernel_rfl) (fun _ _ _ h => h) (by rfl) hHeld (v := ?_) (fun w hSw => ?_) (fun _ => ?_)
                    rotate_left
                    · ((try dsimp only at hSw); go_simp; (try with_reducible rfl))
                    simp only [Act.put, List.setIfInBounds_toArray, List.set_cons_zero, List.set_cons_succ]
                    refine held_take 19 rfl (by kernel_rfl) (by kernel_rfl) (by kernel_rfl) (fun _ _ _ h => h) (by rfl) hHeld (v := ?_) (fun w hSw => ?_) (fun _ => ?_)
                    rotate_left
                    · ((try dsimp only at hSw); go_simp; (try with_reducible rfl))
                    simp only [Act.put, List.setIfInBounds_toArray, List.set_cons_zero, List.set_cons_succ]
                    refine held_take 20 rfl (by kernel_rfl) (by kernel_rfl) (by kernel_rfl) (fun _ _ _ h => h) (by rfl) hHeld (v := ?_) (fun w hSw => ?_) (fun _ => ?_)
                    rotate_left
                    · ((try dsimp only at hSw); go_simp; (try with_reducible rfl))
                    simp only [Act.put, List.setIfInBounds_toArray, List.set_cons_zero, List.set_cons_succ]
                    refine held_take 21 rfl (by kernel_rfl) (by kernel_rfl) (by kernel_rfl) (fun _ _ _ h => h) (by rfl) hHeld (v := ?_) (fun w hSw => ?_) (fun _ => ?_)
                    rotate_left
                    · ((try dsimp only at hSw); go_simp; (try with_reducible rfl))
                    simp only [Act.put, List.setIfInBounds_toArray, List.set_cons_zero, List.set_cons_succ]
                    refine held_take 22 rfl (by kernel_rfl) (by kernel_rfl) (by kernel_rfl) (fun _ _ _ h => h) (by rfl) hHeld (v := ?_) (fun w hSw => ?_) (fun _ => ?_)
                    rotate_left
                    · ((try dsimp only at hSw); go_simp; (try with_reducible rfl))
                    simp only [Act.put, List.setIfInBounds_toArray, List.set_cons_zero, List.set_cons_succ]
                    refine held_call 5 (by kernel_rfl) rfl (by rfl) (fun K hK => ?_)
                    go_simp
                    refine CW1.out.mono ?_
                    rintro e w' ⟨rfl, rfl⟩
                    dsimp only
                    refine hK.out _ _ trivial (fun hHeld => ?_)
                    clear hK K
                    refine held_call 15 (by kernel_rfl) rfl (by rfl) (fun K hK => ?_)
                    go_simp
                    refine CW2.out.mono ?_
                    rintro e w' ⟨rfl, rfl⟩
                    dsimp only
                    refine hK.out _ _ trivial (fun hHeld => ?_)
                    clear hK K
                    refine held_call 23 (by kernel_rfl) rfl (by rfl) (fun K hK => ?_)
                    go_simp
                    refine CW3.out.mono ?_
                    rintro e w' ⟨rfl, rfl⟩
                    dsimp only
                    refine hK.out _ _ trivial (fun hHeld => ?_)
                    clear hK K
                    refine held_take 24 rfl (by kernel_rfl) (by kernel_rfl) (by kernel_rfl) (fun _ _ _ h => h) (by rfl) hHeld (v := ?_) (fun w hSw => ?_) (fun _ => ?_)
                    rotate_left
                    · ((try dsimp only at hSw); go_simp; (try with_reducible rfl))
                    simp only [Act.put, List.setIfInBounds_toArray, List.set_cons_zero, List.set_cons_succ]
                    refine held_call 25 (by kernel_rfl) rfl (by rfl) (fun K hK => ?_)
                    go_simp
                    refine hK.out _ _ trivial (fun hHeld => ?_)
                    clear hK K
                    refine held_call 26 (by kernel_rfl) rfl (by rfl) (fun K hK => ?_)
                    refine wp_app (.tmp 94) (.tmp 119) rfl _ _ rfl rfl r5 ?_
                    simp only [Act.put, List.setIfInBounds_toArray, List.set_cons_zero, List.set_cons_succ]
                    refine hK.out _ _ trivial (fun hHeld => ?_)
                    clear hK K
                    refine held_take 27 rfl (by kernel_rfl) (by kernel_rfl) (by kernel_rfl) (fun _ _ _ h => h) (by rfl) hHeld (v := ?_) (fun w hSw => ?_) (fun _ => ?_)
                    rotate_left
                    · ((try dsimp only at hSw); go_simp; (try with_reducible rfl))
                    simp only [Act.put, List.setIfInBounds_toArray, List.set_cons_zero, List.set_cons_succ]
                    refine wpAnyH_done (by kernel_rfl) ?_ _
                    clear hHeld
                    clear r5
                    go_wp2
                    go_roundw
                    case rel => exact ⟨j + 1, at_ + st, by omega, HAT2.out, by go_num, by rw [HNX.out, List.map_append]; exact HO5.out, HBX.out.trans HB5.out⟩
                    case measure => simp [intOf]; omega
                  · obtain rfl : j = m := by omega
                    have hge : ((at_ : Int) ≥ (N : Int)) := by rw [HN.out, hat]; exact Int.le_refl _
                    have hlt' : ¬ ((at_ : Int) < (N : Int)) := by omega
                    clear hown hb hcel hat
                    go_wp2
                    go_ret3
                    exact ⟨⟨Ao, j, co, by (rw [HO.out] <;> rfl), by rw [HO.out]; exact HCEL.out, hco1, hco2⟩, HBW.out⟩
            · have k4 : ((N : Int) % (st : Int) != 0) = true := by
                rw [bne_iff_ne]
                intro h
                have h1 : ((N % st : Nat) : Int) = 0 := by rw [Int.natCast_emod]; exact h
                omega
              have HO : Hid (O = (false, false, [])) := Lib.hid (by rw [HV.out, if_pos (.inr (.inr (.inr (.inr hrem))))])
              clear hrem HV
              go_wp2
              go_ret3
              exact ⟨⟨none, 0, 0, by (rw [HO.out] <;> rfl), by rw [HO.out]; exact Cel3.nil _ _ _, Nat.le_refl _, by omega⟩, HB3.out⟩
      · have k1 : (decide ((0 : Int) ≤ vp) && decide ((0 : Int) ≤ vq)) = false := by
          rw [Bool.and_eq_false_iff, decide_eq_false_iff_not, decide_eq_false_iff_not]
          omega
        rw [k1]
        have HO : Hid (O = (false, false, [])) := Lib.hid (by
          rw [HV.out, if_pos]
          by_cases h1 : vp ≤ 0
          · exact .inr (.inr (.inl h1))
          · exact .inr (.inr (.inr (.inl (by omega)))))
        clear hok2 k1
        go_wp2
        go_ret3
        exact ⟨⟨none, 0, 0, by (rw [HO.out] <;> rfl), by rw [HO.out]; exact Cel3.nil _ _ _, Nat.le_refl _, by omega⟩, HB3.out⟩
    · have k1 : (decide ((0 : Int) ≤ vc) && decide ((0 : Int) ≤ vs)) = false := by
        rw [Bool.and_eq_false_iff, decide_eq_false_iff_not, decide_eq_false_iff_not]
        omega
      rw [k1]
      have HO : Hid (O = (false, false, [])) := Lib.hid (by
        rw [HV.out, if_pos]
        by_cases h1 : vc ≤ 0
        · exact .inl h1
        · exact .inr (.inl (by omega)))
      clear hok k1
      generalize (decide ((0 : Int) ≤ vp) && decide ((0 : Int) ≤ vq)) = bb at *
      go_wp2
      go_ret3
      exact ⟨⟨none, 0, 0, by (rw [HO.out] <;> rfl), by rw [HO.out]; exact Cel3.nil _ _ _, Nat.le_refl _, by omega⟩, HB3.out⟩
end Go.Proofs.Ytbblgkidgecdpaa

/-! Layer 13: the program's rangeOf; the numbers of a chunk of cells. -/
namespace Go.Proofs.Ytbblgkidgecdpaa
open Go.RowKit
set_option linter.unusedVariables false
set_option linter.unusedSimpArgs false

theorem numTo_drop (zs : List Int) (d x : Nat) : ∀ k, numTo (zs.drop d) x k = numTo zs (d + x) k
  | 0 => rfl
  | k + 1 => by
    rw [numTo, numTo, numTo_drop zs d x k]
    simp [List.getD, List.getElem?_drop, Nat.add_assoc]
/-- The range of chunk j. -/
theorem chunk_rng (zs : List Int) (N j c p s : Nat) (hN : zs.length = 4 * N) (hj : j * (c + p + s) + (c + p + s) ≤ N) (hc : c ≤ 2) (hp : p ≤ 2) (hs : s ≤ 2) (cs : List Int) (hcs : cs = ((cellsL zs).drop (j * (c + p + s))).take (c + p + s)) :
    (wideV (cs.take c), wideV ((cs.drop c).take p), wideV (cs.drop (c + p))) = rng ((zs.drop (j * (4 * (c + p + s)))).take (4 * (c + p + s))) (4 * c) (4 * p) := by
  subst hcs
  have e : j * (4 * (c + p + s)) = 4 * (j * (c + p + s)) := Nat.mul_left_comm j 4 (c + p + s)
  rw [e, rng]
  generalize j * (c + p + s) = b at *
  have h1 : wideV ((((cellsL zs).drop b).take (c + p + s)).take c) = numTo ((List.take (4 * (c + p + s)) (List.drop (4 * b) zs)).take (4 * c)) 0 (4 * c) := by
    rw [List.take_take, Nat.min_eq_left (by omega), List.take_take, Nat.min_eq_left (by omega), cut_num _ _ _ _ (Nat.le_refl _)]
    exact chunk_num zs N b c hN (by omega) hc
  have h2 : wideV (((((cellsL zs).drop b).take (c + p + s)).drop c).take p) = numTo (((List.take (4 * (c + p + s)) (List.drop (4 * b) zs)).drop (4 * c)).take (4 * p)) 0 (4 * p) := by
    rw [List.drop_take, List.drop_drop, List.take_take, Nat.min_eq_left (by omega), List.drop_take, List.drop_drop, List.take_take, Nat.min_eq_left (by omega), cut_num _ _ _ _ (Nat.le_refl _), show 4 * b + 4 * c = 4 * (b + c) by omega]
    exact chunk_num zs N (b + c) p hN (by omega) hp
  have h3 : wideV ((((cellsL zs).drop b).take (c + p + s)).drop (c + p)) = numTo ((List.take (4 * (c + p + s)) (List.drop (4 * b) zs)).drop (4 * c + 4 * p)) 0 ((List.take (4 * (c + p + s)) (List.drop (4 * b) zs)).length - (4 * c + 4 * p)) := by
    have hl : (List.take (4 * (c + p + s)) (List.drop (4 * b) zs)).length = 4 * (c + p + s) := by
      rw [List.length_take, List.length_drop, hN]
      omega
    rw [hl, List.drop_take, List.drop_drop, List.drop_take, List.drop_drop, show c + p + s - (c + p) = s by omega, show 4 * (c + p + s) - (4 * c + 4 * p) = 4 * s by omega, cut_num _ _ _ _ (Nat.le_refl _), show 4 * b + (4 * c + 4 * p) = 4 * (b + (c + p)) by omega]
    exact chunk_num zs N (b + (c + p)) s hN (by omega) hs
  rw [h1, h2, h3]

set_option maxRecDepth 20000 in
set_option maxHeartbeats 4000000 in
theorem rangeOf_any (A : Option Addr) (k c0 c p : Nat) (cs : List Int) (w : World) (hl : cs.length = k) (hs : Cel w w.heap.size A k (u32s cs)) (hz : ∀ z ∈ cs, 0 ≤ z ∧ z ≤ 4294967295) (hck : c + p ≤ k) (hc2 : c ≤ 2) (hp2 : p ≤ 2) (hks : k - (c + p) ≤ 2) (hkc : k ≤ c0) (hc0 : c0 ≤ 9223372036854775807) :
    Calls Try.prog 23 #[.slice A k c0, .int .i64 c, .int .i64 p] w fun e w' => e = .returned (.agg #[.int .u64 (wideV (cs.take c)), .int .u64 (wideV ((cs.drop c).take p)), .int .u64 (wideV (cs.drop (c + p)))]) ∧ Below w.heap.size w w' := by
  obtain ⟨W0, hW0⟩ : ∃ W0, W0 = w.alloc (.cells #[.int .u64 0, .int .u64 0, .int .u64 0] 42) := ⟨_, rfl⟩
  have hb0 : Below w.heap.size w W0 := by rw [hW0]; exact (Below.refl w.heap.size w).alloc (Nat.le_refl _) _
  have hs0 : Cel W0 W0.heap.size A k (u32s cs) := hs.on hb0
  obtain ⟨x, hx⟩ : ∃ x, wideV (cs.take c) = x := ⟨_, rfl⟩
  obtain ⟨y, hy⟩ : ∃ y, wideV ((cs.drop c).take p) = y := ⟨_, rfl⟩
  obtain ⟨z, hzz⟩ : ∃ z, wideV (cs.drop (c + p)) = z := ⟨_, rfl⟩
  obtain ⟨q, hq⟩ : ∃ q, c + p = q := ⟨_, rfl⟩
  rw [hq] at hck hks hzz
  have hqp : q - c = p := by omega
  have C1 : Calls Try.prog 41 #[.slice A c c0] W0 fun e w' => e = .returned (.tuple #[.int .u64 x, .int .i64 0]) ∧ w' = W0 := by
    have h := wide_any A c c0 (cs.take c) W0 (by rw [List.length_take, hl]; omega) (by rw [u32s_take]; exact hs0.upto (by omega)) (fun z h => hz z (List.mem_of_mem_take h)) (by omega) (by omega) hc0
    rwa [if_pos hc2, if_pos hc2, hx] at h
  have C2 : Calls Try.prog 41 #[.slice (cutAt A c0 c) p (c0 - c)] W0 fun e w' => e = .returned (.tuple #[.int .u64 y, .int .i64 0]) ∧ w' = W0 := by
    have h := wide_any (cutAt A c0 c) p (c0 - c) ((cs.drop c).take p) W0 (by rw [List.length_take, List.length_drop, hl]; omega) (by rw [u32s_take, u32s_drop]; exact (hs0.from_ (by omega) hkc).upto (by omega)) (fun z h => hz z (List.mem_of_mem_drop (List.mem_of_mem_take h))) (by omega) (by omega) (by omega)
    rwa [if_pos hp2, if_pos hp2, hy] at h
  have C3 : Calls Try.prog 41 #[.slice (cutAt A c0 q) (k - q) (c0 - q)] W0 fun e w' => e = .returned (.tuple #[.int .u64 z, .int .i64 0]) ∧ w' = W0 := by
    have h := wide_any (cutAt A c0 q) (k - q) (c0 - q) (cs.drop q) W0 (by rw [List.length_drop, hl]) (by rw [u32s_drop]; exact hs0.from_ hck hkc) (fun z h => hz z (List.mem_of_mem_drop h)) (by omega) (by omega) (by omega)
    rwa [if_pos hks, if_pos hks, hzz] at h
  rw [hx, hy, hq, hzz]
  have R1 : ∀ W : World, (Instr.slice 70 (.slice A k c0) none (some (.int .i64 (c : Int))) none).run Try.prog W = .ok (.slice A c c0) W := fun W => run_upto Try.underlying70 size_u32w A k c0 _ c rfl (by omega) W
  have R2 : ∀ W : World, (Instr.slice 70 (.slice A k c0) (some (.int .i64 (c : Int))) (some (.int .i64 (q : Int))) none).run Try.prog W = .ok (.slice (cutAt A c0 c) p (c0 - c)) W := fun W => by
    have h := run_cut Try.underlying70 size_u32w A k c0 (c : Int) (q : Int) c q rfl rfl (by omega) (by omega) W
    rwa [hqp] at h
  have R3 : ∀ W : World, (Instr.slice 70 (.slice A k c0) (some (.int .i64 (q : Int))) none none).run Try.prog W = .ok (.slice (cutAt A c0 q) (k - q) (c0 - q)) W := fun W => run_from Try.underlying70 size_u32w A k c0 _ q rfl hck W
  have e1 : IntKind.i64.wrap ((c : Int) + (p : Int)) = (q : Int) := by rw [IntWalk.i64_in _ (by omega)]; omega
  rw [hW0] at C1 C2 C3
  have C1 := Lib.hid C1
  have C2 := Lib.hid C2
  have C3 := Lib.hid C3
  have HB : Hid (Below w.heap.size w (w.alloc (.cells #[.int .u64 x, .int .u64 y, .int .u64 z] 42))) := Lib.hid ((Below.refl w.heap.size w).alloc (Nat.le_refl _) _)
  clear hW0 hb0 hs0 hs hz hl hx hy hzz hq hqp
  go_enter Try.func23, Try.ntmps23
  go_wp2_with fail
  refine C1.out.mono ?_
  rintro e w1 ⟨rfl, rfl⟩
  clear C1 R1
  go_wp2_with fail
  refine C2.out.mono ?_
  rintro e w1 ⟨rfl, rfl⟩
  clear C2 R2
  go_wp2_with fail
  refine C3.out.mono ?_
  rintro e w1 ⟨rfl, rfl⟩
  clear C3 R3
  go_wp2_with fail
  have d0 : (w.alloc (.cells #[.int .u64 x, .int .u64 y, .int .u64 z] 42)).cell? ⟨w.heap.size, 0, none⟩ = some (.int .u64 x) := World.cell?_alloc_new _ _ _ _
  have d1 : (w.alloc (.cells #[.int .u64 x, .int .u64 y, .int .u64 z] 42)).cell? ⟨w.heap.size, 1, none⟩ = some (.int .u64 y) := World.cell?_alloc_new _ _ _ _
  have d2 : (w.alloc (.cells #[.int .u64 x, .int .u64 y, .int .u64 z] 42)).cell? ⟨w.heap.size, 2, none⟩ = some (.int .u64 z) := World.cell?_alloc_new _ _ _ _
  refine bodyPost_ret (v := .agg #[.int .u64 x, .int .u64 y, .int .u64 z]) (by simp [results, Try.results23, go_sem, d0, d1, d2]; try rfl) rfl ?_
  exact ⟨rfl, HB.out⟩
end Go.Proofs.Ytbblgkidgecdpaa

/-! Layer 7: rows that a call has made, of values of one cell; the program's Cells. -/
namespace Go.Proofs.Ytbblgkidgecdpaa
open Go.RowKit
set_option linter.unusedVariables false
set_option linter.unusedSimpArgs false

/-- Block g holds just these values, one cell each. -/
def VRow (w : World) (g : Nat) (t : TypeId) (vs : List Value) : Prop := w.heap[g]? = some (.cells vs.toArray t (0, 0))
section
variable {w w' : World} {g : Nat} {t : TypeId} {vs : List Value}
theorem VRow.lt (h : VRow w g t vs) : g < w.heap.size := (Array.getElem?_eq_some_iff.1 h).1
theorem VRow.cell (h : VRow w g t vs) (i : Nat) (hi : i < vs.length) : w.cell? ⟨g, i, none⟩ = some vs[i] := by
  rw [cell_of_row w g i _ _ (0, 0) h]
  simp [List.getElem?_eq_getElem hi]
theorem VRow.at_ (h : VRow w g t vs) {i : Nat} {z : Value} (hi : vs[i]? = some z) : w.cell? ⟨g, i, none⟩ = some z := by
  obtain ⟨h1, h2⟩ := List.getElem?_eq_some_iff.1 hi
  rw [h.cell i h1, h2]
theorem VRow.free (h : VRow w g t vs) (i : Nat) : w.frozen? ⟨g, i, none⟩ = false := by
  unfold VRow at h
  simp [World.frozen?, h]
theorem VRow.set (h : VRow w g t vs) (i : Nat) (v : Value) : VRow (w.setCell ⟨g, i, none⟩ v) g t (vs.set i v) := by
  unfold VRow at h ⊢
  simp [World.setCell, Array.getElem?_modify, h]
theorem VRow.on (h : VRow w g t vs) (hb : Below w.heap.size w w') : VRow w' g t vs := (hb.block g h.lt).trans h
theorem VRow.cel {n : Nat} (h : VRow w g t vs) (hn : vs.length = n) : Cel w w.heap.size (some ⟨g, 0, none⟩) n vs :=
  ⟨hn, fun _ => ⟨g, 0, rfl, h.lt, fun i hi => by rw [Nat.zero_add, h.cell i (by omega), List.getElem?_eq_getElem (by omega)]⟩⟩
end
theorem made_vrow (w : World) (z : Value) (k : Nat) (t : TypeId) : VRow (w.alloc (.cells (madeCells #[z] k) t)) w.heap.size t (List.replicate k z) := by
  unfold VRow
  rw [heap_alloc_new]
  congr 2
  apply Array.toList_inj.1
  rw [toList_madeCells_one]
/-- k of m values are laid. -/
def partV (l : List Value) (z : Value) (m k : Nat) : List Value := l.take k ++ List.replicate (m - k) z
theorem partV_length (l : List Value) (z : Value) (m k : Nat) (hk : k ≤ m) (hm : l.length = m) : (partV l z m k).length = m := by
  simp only [partV, List.length_append, List.length_take, List.length_replicate]; omega
theorem partV_set (l : List Value) (z : Value) (m k : Nat) (hk : k < m) (hm : l.length = m) (x : Value) (hx : l[k]? = some x) : (partV l z m k).set k x = partV l z m (k + 1) := by
  unfold partV
  have e : l.take (k + 1) = l.take k ++ [x] := by rw [List.take_add_one, hx]; rfl
  have hl : (l.take k).length = k := by rw [List.length_take]; omega
  rw [List.set_append, if_neg (by omega), hl, Nat.sub_self, e, List.append_assoc]
  congr 1
  obtain ⟨j, hj⟩ : ∃ j, m - k = j + 1 := ⟨m - k - 1, by omega⟩
  rw [hj, show m - (k + 1) = j by omega, List.replicate_succ]
  rfl
theorem partV_none (l : List Value) (z : Value) (m : Nat) : partV l z m 0 = List.replicate m z := by simp [partV]
theorem partV_all (l : List Value) (z : Value) (m : Nat) (hm : l.length = m) : partV l z m m = l := by simp [partV, ← hm]
theorem partV_at (l : List Value) (z : Value) (m k : Nat) (hk : k < m) (hm : l.length = m) : (partV l z m k)[k]? = some z := by
  unfold partV
  have hl : (l.take k).length = k := by rw [List.length_take]; omega
  rw [List.getElem?_append_right (by omega), hl, Nat.sub_self, List.getElem?_replicate]
  simp; omega

theorem rowOut_vrow {w : World} {g m c : Nat} {t : TypeId} {R : List Value} {e : Ending} (h : VRow w g t R) (hm : R.length = m) (hc : m ≤ c) (hc2 : c ≤ 9223372036854775807) (he : e = .returned (.tuple #[.slice (some ⟨g, 0, none⟩) m c, .int .i64 0])) : RowOut w R 0 e := by
  subst hm
  exact ⟨_, c, he, h.cel rfl, hc, hc2⟩

theorem make_u32 (k : Nat) (hk : k ≤ 70368744177664) (w : World) :
    (Instr.makeSlice 70 (.int .i64 (k : Int)) (.int .i64 (k : Int))).run Try.prog w = .ok (.slice (some ⟨w.heap.size, 0, none⟩) k k) (w.alloc (.cells (madeCells #[.int .u32 0] k) 28)) :=
  run_make_row' (P := Try.prog) 70 28 (.int .u32 0) 4 Try.underlying70 info_u32 rfl .i64 .i64 k (by omega) (by omega) w

theorem u32s_cells {zs : List Int} {m : Nat} (h4 : zs.length % 4 = 0) (hm : zs.length / 4 = m) : (u32s (cellsL zs)).length = m ∧ ∀ k, k < m → (u32s (cellsL zs))[k]? = some (.int .u32 (numTo zs (4 * k) 4)) := by
  rw [cellsL, if_pos h4, hm]
  refine ⟨by simp, fun k hk => ?_⟩
  simp [List.getElem?_range hk]

set_option maxRecDepth 20000 in
set_option maxHeartbeats 4000000 in
theorem cells_any (A : Option Addr) (n c : Nat) (zs : List Int) (w : World) (hs : Shows w w.heap.size A n zs) (hn : n ≤ 140737488351232) (hnc : n ≤ c) (hc : c ≤ 9223372036854775807) :
    Calls Try.prog 21 #[.slice A n c] w fun e w' => RowOut w' (u32s (cellsL zs)) (cellsE zs) e ∧ Below w.heap.size w w' := by
  have HS := Lib.hid hs
  have HC := Lib.hid (And.intro hnc hc)
  have HL := Lib.hid hs.1
  clear hs hnc hc
  by_cases h4 : n % 4 = 0
  · have q1 : (((n : Int) % 4) != 0) = false := by rw [bne_eq_false_iff_eq]; omega
    obtain ⟨m, hm⟩ : ∃ m, n / 4 = m := ⟨_, rfl⟩
    have q2 : (n : Int) / 4 = (m : Int) := by omega
    have hm4 : n = 4 * m := by omega
    have HU := Lib.hid (u32s_cells (zs := zs) (m := m) (by rw [HL.out]; exact h4) (by rw [HL.out]; exact hm))
    have HE : Hid (cellsE zs = 0) := Lib.hid (by rw [cellsE, if_pos (by rw [HL.out]; exact h4)])
    have HM := make_u32 m (by omega)
    have HN := Lib.hid (And.intro hm4 hn)
    have hm9 : m ≤ 35184372087808 := by omega
    clear h4 hm hm4 hn
    generalize hU : u32s (cellsL zs) = U at HU
    have HUU := Lib.hid hU
    clear hU
    go_enter Try.func21, Try.ntmps21
    go_wp2_with fail
    go_loopw [16] (fun i wr => ∃ k : Nat, k ≤ m ∧ i = .int .i64 k ∧ VRow wr w.heap.size 28 (partV U (.int .u32 0) m k) ∧ Below w.heap.size w wr) (fun i _ => m - (intOf i).toNat)
    case atStart => exact ⟨0, Nat.zero_le _, rfl, by rw [partV_none]; exact made_vrow _ _ _ _, (Below.refl _ _).alloc (Nat.le_refl _) _⟩
    case round =>
      obtain ⟨k, hk, rfl, hrow, hb⟩ := hrel
      have HB := Lib.hid hb
      have HR := Lib.hid hrow
      by_cases hlt : k < m
      · have hnum := numTo_u32 HS.out (4 * k)
        have CG := fun q hq => get_at A n c (4 * k) q hq zs wr w.heap.size (HS.out.below hb) (by have := HN.out.1; omega) (by have := HN.out.2; omega) HC.out.1 (by unfold maxLen; exact HC.out.2) _ rfl
        obtain ⟨x, hx⟩ : ∃ x, numTo zs (4 * k) 4 = x := ⟨_, rfl⟩
        have hat := HU.out.2 k hlt
        rw [hx] at CG hnum hat
        have HSET : Hid ((partV U (.int .u32 0) m k).set k (.int .u32 x) = partV U (.int .u32 0) m (k + 1)) := Lib.hid (partV_set U _ m k hlt HU.out.1 _ hat)
        have hcell := hrow.at_ (partV_at U (.int .u32 0) m k hlt HU.out.1)
        have hfree := hrow.free k
        have HR2 := Lib.hid (hrow.set k (.int .u32 x))
        have HB2 := Lib.hid (hb.setCell (p := ⟨w.heap.size, k, none⟩) (Nat.le_refl _) (.int .u32 x))
        have HCG := Lib.hid CG
        have hb4 := HN.out
        have hbd : 4 * (k : Int) ≤ 140737488351232 := by omega
        clear hx hat hrow hb CG hb4
        go_wp2_with fail
        refine (HCG.out _ (by omega)).mono ?_
        rintro e w1 ⟨rfl, rfl⟩
        go_wp2
        go_roundw
        case rel => exact ⟨k + 1, by omega, by go_num, by rw [← HSET.out]; exact HR2.out, HB2.out⟩
        case measure => simp [intOf]; omega
      · obtain rfl : k = m := by omega
        have HV : Hid (VRow wr w.heap.size 28 U) := Lib.hid (by have := HR.out; rw [partV_all _ _ _ HU.out.1] at this; exact this)
        clear hrow hb
        go_wp2
        go_ret2
        refine ⟨?_, HB.out⟩
        rw [HE.out]
        exact rowOut_vrow HV.out HU.out.1 (Nat.le_refl _) (by omega) rfl
  · have q1 : (((n : Int) % 4) != 0) = true := by rw [bne_iff_ne]; omega
    have H4 := Lib.hid (show ¬ zs.length % 4 = 0 by rw [HL.out]; exact h4)
    clear h4
    go_enter Try.func21, Try.ntmps21
    go_wp2
    go_ret2
    refine ⟨?_, Below.refl _ _⟩
    rw [cellsE, if_neg H4.out, cellsL, if_neg H4.out]
    exact rowOut_nil rfl
theorem cellsOK : CellsOK := fun A n c zs w hs hn hnc hc => cells_any A n c zs w hs (by omega) hnc hc
end Go.Proofs.Ytbblgkidgecdpaa

/-! Layer 4: words.Text and words.Pad at slices of any length; bytes.Clone. -/
namespace Go.Proofs.Ytbblgkidgecdpaa
open Go.RowKit
set_option linter.unusedVariables false
set_option linter.unusedSimpArgs false

theorem byte_eq_zero (z : Int) (h : 0 ≤ z ∧ z < 256) : UInt8.ofNat z.toNat = (0 : Int).toNat.toUInt8 ↔ z = 0 := by
  constructor
  · intro e
    have e2 := congrArg UInt8.toNat e
    simp at e2
    omega
  · rintro rfl; rfl

theorem index_none (zs : List Int) (a n : Nat) (hz : ∀ z ∈ zs, 0 ≤ z ∧ z < 256) (hl : zs.length = n) (h : NoHit zs a n) : Lib.indexByte (Lib.bytesOf (zs.drop a)) (0 : Int).toNat.toUInt8 = -1 := by
  have hge := Lib.indexByte_ge (Lib.bytesOf (zs.drop a)) (0 : Int).toNat.toUInt8
  by_cases hn : Lib.indexByte (Lib.bytesOf (zs.drop a)) (0 : Int).toNat.toUInt8 = -1
  · exact hn
  · obtain ⟨o, ho⟩ : ∃ o : Nat, Lib.indexByte (Lib.bytesOf (zs.drop a)) (0 : Int).toNat.toUInt8 = o := ⟨_, (Int.toNat_of_nonneg (by omega)).symm⟩
    have h1 := (Lib.indexByte_some ho).1
    rw [Lib.bytesOf, List.getElem?_map, List.getElem?_drop] at h1
    obtain ⟨z, h2, h3⟩ := Option.map_eq_some_iff.1 h1
    have hlt : a + o < n := by
      rcases Nat.lt_or_ge (a + o) zs.length with h | h
      · omega
      · rw [List.getElem?_eq_none h] at h2; cases h2
    exact absurd ((byte_eq_zero z (hz z (List.mem_of_getElem? h2))).1 h3) (by have := h (a + o) (by omega) hlt; simpa [List.getD, h2] using this)

theorem index_some (zs : List Int) (a n i : Nat) (hz : ∀ z ∈ zs, 0 ≤ z ∧ z < 256) (hl : zs.length = n) (h : HitAt zs a n i) : Lib.indexByte (Lib.bytesOf (zs.drop a)) (0 : Int).toNat.toUInt8 = ((i - a : Nat) : Int) := by
  obtain ⟨h1, h2, h3, h4⟩ := h
  have hge := Lib.indexByte_ge (Lib.bytesOf (zs.drop a)) (0 : Int).toNat.toUInt8
  have hi : (Lib.bytesOf (zs.drop a))[i - a]? = some (0 : Int).toNat.toUInt8 := by
    have e : zs[i]? = some zs[i] := List.getElem?_eq_getElem (by omega)
    rw [Lib.bytesOf, List.getElem?_map, List.getElem?_drop, show a + (i - a) = i from by omega, e]
    have e2 : zs[i] = 0 := by simpa [List.getD, e] using h3
    rw [e2]; rfl
  by_cases hn : Lib.indexByte (Lib.bytesOf (zs.drop a)) (0 : Int).toNat.toUInt8 = -1
  · exact absurd hi (Lib.indexByte_none hn _)
  · obtain ⟨o, ho⟩ : ∃ o : Nat, Lib.indexByte (Lib.bytesOf (zs.drop a)) (0 : Int).toNat.toUInt8 = o := ⟨_, (Int.toNat_of_nonneg (by omega)).symm⟩
    obtain ⟨k1, k2⟩ := Lib.indexByte_some ho
    rw [ho]
    congr 1
    rcases Nat.lt_trichotomy o (i - a) with h5 | h5 | h5
    · rw [Lib.bytesOf, List.getElem?_map, List.getElem?_drop] at k1
      obtain ⟨z, g2, g3⟩ := Option.map_eq_some_iff.1 k1
      exact absurd ((byte_eq_zero z (hz z (List.mem_of_getElem? g2))).1 g3) (by have := h4 (a + o) (by omega) (by omega); simpa [List.getD, g2] using this)
    · exact h5
    · exact absurd hi (k2 _ h5)

theorem and_three (n : Int) (h0 : 0 ≤ n) (h1 : n ≤ 9223372036854775807) : bits .and .i64 (-n) 3 = (-n) % 4 := by
  show IntKind.i64.wrap ((BitVec.ofInt 64 (-n) &&& BitVec.ofInt 64 3).toNat : Int) = _
  rw [BitVec.toNat_and, show (BitVec.ofInt 64 3).toNat = 3 from rfl, nat_mask2, BitVec.toNat_ofInt, IntWalk.i64_in _ (by omega)]
  omega

theorem takeWhile_at : ∀ (l : List Int) (k : Nat), k < l.length → l.getD k 0 = 0 → (∀ j, j < k → l.getD j 0 ≠ 0) → 0 ∈ l ∧ (l.takeWhile fun z => decide (z ≠ 0)) = l.take k
  | x :: l, 0, _, h0, _ => by
    have hx : x = 0 := by simpa using h0
    subst hx
    simp [List.takeWhile_cons]
  | x :: l, k + 1, hk, h0, h1 => by
    have hx : x ≠ 0 := by simpa using h1 0 (by omega)
    obtain ⟨e1, e2⟩ := takeWhile_at l k (by simpa using hk) (by simpa using h0) (fun j hj => by simpa using h1 (j + 1) (by omega))
    refine ⟨List.mem_cons_of_mem _ e1, ?_⟩
    rw [List.takeWhile_cons, if_pos (by simpa using hx), e2, List.take_succ_cons]
theorem getD_drop (zs : List Int) (a k : Nat) : (zs.drop a).getD k 0 = zs.getD (a + k) 0 := by simp [List.getD, List.getElem?_drop]
theorem textFrom_hit {zs : List Int} {a i : Nat} (h : HitAt zs a zs.length i) : textFrom zs a = some ((zs.drop a).take (i - a)) := by
  obtain ⟨h1, h2, h3, h4⟩ := h
  obtain ⟨e1, e2⟩ := takeWhile_at (zs.drop a) (i - a) (by rw [List.length_drop]; omega) (by rw [getD_drop, show a + (i - a) = i by omega]; exact h3) (fun j hj => by rw [getD_drop]; exact h4 _ (by omega) (by omega))
  rw [textFrom, if_pos e1, e2]
theorem textFrom_nohit {zs : List Int} {a : Nat} (h : NoHit zs a zs.length) : textFrom zs a = none := by
  rw [textFrom, if_neg]
  intro h0
  obtain ⟨k, hk, e⟩ := List.getElem_of_mem h0
  rw [List.length_drop] at hk
  refine h (a + k) (by omega) (by omega) ?_
  rw [← getD_drop]
  simp [List.getD, List.getElem?_eq_getElem (show k < (zs.drop a).length by rw [List.length_drop]; omega), e]

def txtOf : Option (List Int) → ByteArray
  | none => ByteArray.empty
  | some s => strOfNums s
theorem text_any_byte {zs s : List Int} {a : Nat} (hz : ∀ z ∈ zs, 0 ≤ z ∧ z < 256) (h : textFrom zs a = some s) : ∀ z ∈ s, 0 ≤ z ∧ z < 256 := by
  unfold textFrom at h
  split at h
  · simp only [Option.some.injEq] at h
    subst h
    exact fun z hz' => hz z (List.mem_of_mem_drop ((List.takeWhile_sublist _).subset hz'))
  · cases h

set_option maxHeartbeats 1000000 in
theorem bclone_any (A : Option Addr) (n c : Nat) (zs : List Int) (w : World) (hs : Shows w w.heap.size A n zs) (hn : n ≤ 140737488351232) :
    Calls Try.prog 37 #[.slice A n c] w fun e w' => ∃ v', e = .returned v' ∧ w'.ownsRow w.heap.size 5 1 v' n (u8s zs) ∧ Below w.heap.size w w' := by
  obtain ⟨i0, hi0, hz0, hz1, hz2⟩ := info_parts info_u8
  have HS := Lib.hid hs
  clear hs
  have q : ∀ (w : World) (a : Option Addr) (n c n' c' : Nat), (binOp .eql 65 (.slice a n c) (.slice none n' c')).run Try.prog w = .ok (.bool a.isNone) w := fun w a n c n' c' => Lib.run_eql_slice_nil w _ _ a n c n' c' Try.underlying65
  have u22 : ∀ w, Sem.run Try.prog (underlying 65) w = .ok (TypeDesc.slice 5) w := run_underlying Try.underlying65
  rcases A with _ | ad
  · have hn0 : n = 0 := by
      rcases Nat.eq_zero_or_pos n with h | h
      · exact h
      · obtain ⟨b, o, e, _⟩ := HS.out.at_ h
        cases e
    have hz0' : zs = [] := List.eq_nil_of_length_eq_zero (HS.out.1.trans hn0)
    subst hn0 hz0'
    go_enter Try.func37, Try.ntmps37
    go_wp2
    go_ret
    exact ⟨_, rfl, World.ownsRow_nil _ _ _ _, Below.refl _ _⟩
  · have HB0 := Lib.hid ((Below.refl w.heap.size w).alloc (Nat.le_refl _) (.cells #[] 5))
    obtain ⟨v', w', hrun, hown, hgr, _⟩ := run_append_shown (w.alloc (.cells #[] 5)) i0 hi0 hz0 hz1 hz2 w.heap.size (.slice (some ⟨w.heap.size, 0, none⟩) 0 0) 0 [] (World.ownsRow_made w #[] 0 (Nat.le_refl _) (Nat.zero_le _) rfl) w.heap.size (some ad) n c zs (HS.out.below HB0.out) (by omega) (by simp) 65
    have HO := Lib.hid hown
    have HG := Lib.hid hgr
    have HR := Lib.hid hrun
    clear hown hgr hrun hi0 hz0 hz1 hz2
    go_enter Try.func37, Try.ntmps37
    go_wp2_with (at_builtin; refine Lib.wpList_append_run_sl _ rfl _ _ 65 rfl _ _ rfl rfl HR.out ?_)
    go_ret
    refine ⟨_, rfl, ?_, HB0.out.grown HG.out (by simp) ?_⟩
    · have := HO.out
      rw [Nat.zero_add] at this
      simpa using this
    · intro k hk
      simp [Value.ownBlock] at hk
      omega
end Go.Proofs.Ytbblgkidgecdpaa

/-! Layer 3: the value of a node's property (tree.Find), over bytes.Clone at slices of any length. -/
namespace Go.Proofs.Ytbblgkidgecdpaa
open Go.RowKit
set_option linter.unusedVariables false
set_option linter.unusedSimpArgs false

set_option maxHeartbeats 1000000 in
theorem findc_any (n : Nd) (s : ByteArray) (w : World) (hin : n.In w w.heap.size) (r : Int) (hr : r = idxOf (n.props.map PV.name) s) :
    Calls Try.prog 19 #[n.val, .string s] w fun e w' => ∃ A c zs, e = .returned (.tuple #[.slice A zs.length c, .bool (decide (0 ≤ r))]) ∧ (Shows w' w'.heap.size A zs.length zs ∧ zs.length ≤ c ∧ c ≤ 9223372036854775807) ∧
      (r < 0 ∧ zs = [] ∨ ∃ k, ∃ hk : k < n.props.length, r = k ∧ zs = n.props[k].zs) ∧ Below w.heap.size w w' := by
  obtain ⟨nm, pa, pc, ps, ka, kc, ks⟩ := n
  have HI := Lib.hid hin
  have HR := Lib.hid hr
  obtain ⟨hl, hm⟩ : ps.length ≤ pc ∧ pc ≤ 9223372036854775807 := hin.plen
  have HM := Lib.hid (show (ps.map PV.name).length = ps.length from List.length_map _)
  clear hin hr
  show Calls _ _ #[.agg #[.string nm, .slice pa ps.length pc, .slice ka ks.length kc], .string s] _ _
  go_enter Try.func19, Try.ntmps19
  go_wp2_with fail
  go_loopw [11] (fun i wr => ∃ k : Nat, k ≤ ps.length ∧ i = .int .i64 k ∧ Missed (ps.map PV.name) s k ∧ Below w.heap.size w wr) (fun i _ => ps.length - (intOf i).toNat)
  case atStart => exact ⟨0, Nat.zero_le _, rfl, Missed.zero _ _, (Below.refl _ _).alloc (Nat.le_refl _) _⟩
  case round =>
    obtain ⟨k, hk, rfl, hmiss, hb⟩ := hrel
    have HA := Lib.hid hmiss
    have HB := Lib.hid hb
    clear hmiss hb
    by_cases hlt : k < ps.length
    · obtain ⟨b, o, e, hb, c0, c1⟩ := (HI.out.under HB.out).pcell (i := k) hlt
      obtain rfl : pa = _ := e
      replace c0 : _ = some (Value.string ps[k].name) := c0
      replace c1 : _ = some (Value.slice ps[k].addr ps[k].zs.length ps[k].cap) := c1
      have hxm : Hid ((ps.map PV.name)[k]'(by rw [HM.out]; exact hlt) = ps[k].name) := List.getElem_map _
      by_cases hxs : ps[k].name = s
      · have heq : (ps[k].name.toList == s.toList) = true := by rw [hxs]; simp
        have HX := Lib.hid hxs
        clear hxs
        obtain rfl : r = k := by rw [HR.out]; exact HA.out.hit _ (hxm.out.trans HX.out)
        have HV := Lib.hid (HI.out.prop (List.getElem_mem hlt))
        have HB2 := Lib.hid (HB.out.alloc HB.out.size (.cells #[Value.string ps[k].name, Value.slice ps[k].addr ps[k].zs.length ps[k].cap] 79))
        go_wp2_with fail
        refine (bclone_any ps[k].addr ps[k].zs.length ps[k].cap ps[k].zs _ ((HV.out.2.1.below HB2.out).more HB2.out.size) HV.out.1.2).mono ?_
        rintro e w' ⟨v', rfl, hown, hb'⟩
        obtain ⟨A, c, rfl, hsh, hc1, hc2⟩ := owned_shows hown HV.out.2.1.2.1
        have HS := Lib.hid (And.intro hsh (And.intro hc1 hc2))
        have HB3 := Lib.hid (HB2.out.trans (hb'.mono HB2.out.size))
        clear hown hsh hb' hc1 hc2
        go_wp2
        go_ret2
        refine ⟨A, c, ps[k].zs, ?_, HS.out, .inr ⟨k, hlt, rfl, rfl⟩, HB3.out⟩
        congr 3
      · have hne := str_ne hxs
        have HF := Lib.hid (HA.out.succ (by rw [HM.out]; exact hlt) (by rw [hxm.out]; exact hxs))
        clear hxs
        go_wp2
        go_roundw
        case rel => exact ⟨k + 1, by omega, by go_num, HF, HB.out.alloc HB.out.size _⟩
        case measure => simp [intOf]; omega
    · obtain rfl : r = -1 := by rw [HR.out]; exact HA.out.all (by rw [HM.out]; exact hlt)
      go_wp2
      go_ret2
      exact ⟨none, 0, [], rfl, ⟨Shows.nil _ _, Nat.le_refl _, by omega⟩, .inl ⟨by omega, rfl⟩, HB.out⟩

theorem find_off (n : Nd) (s : ByteArray) (w : World) (hin : n.In w w.heap.size) (h : idxOf (n.props.map PV.name) s < 0) :
    Calls Try.prog 19 #[n.val, .string s] w fun e w' => (∃ A c, e = .returned (.tuple #[.slice A 0 c, .bool false]) ∧ c ≤ 9223372036854775807) ∧ Below w.heap.size w w' :=
  (findc_any n s w hin _ rfl).mono fun e w' ⟨A, c, zs, he, hs, hw, hb⟩ => by
    rcases hw with ⟨_, rfl⟩ | ⟨k, _, e, _⟩
    · exact ⟨⟨A, c, by rw [he, decide_eq_false (by omega)]; rfl, hs.2.2⟩, hb⟩
    · omega
theorem find_on (n : Nd) (s : ByteArray) (w : World) (hin : n.In w w.heap.size) (k : Nat) (hk : k < n.props.length) (h : idxOf (n.props.map PV.name) s = (k : Int)) (zs : List Int) (hz : n.props[k].zs = zs) :
    Calls Try.prog 19 #[n.val, .string s] w fun e w' => (∃ A c, e = .returned (.tuple #[.slice A zs.length c, .bool true]) ∧ Shows w' w'.heap.size A zs.length zs ∧ zs.length ≤ c ∧ c ≤ 9223372036854775807) ∧ Below w.heap.size w w' :=
  (findc_any n s w hin _ rfl).mono fun e w' ⟨A, c, zs', he, hs, hw, hb⟩ => by
    rcases hw with ⟨h0, _⟩ | ⟨j, hj, e, h1⟩
    · omega
    · obtain rfl : j = k := by omega
      obtain rfl : zs' = zs := h1.trans hz
      exact ⟨⟨A, c, by rw [he, decide_eq_true (by omega)], hs⟩, hb⟩
end Go.Proofs.Ytbblgkidgecdpaa

/-! Layer 7: the program's One. -/
namespace Go.Proofs.Ytbblgkidgecdpaa
open Go.RowKit
set_option linter.unusedVariables false
set_option linter.unusedSimpArgs false

set_option maxRecDepth 20000 in
set_option maxHeartbeats 4000000 in
theorem oneOK : OneOK := by
  intro n s w hin hs
  have HB := Lib.hid ((Below.refl w.heap.size w).alloc (Nat.le_refl _) (.cells #[Value.string n.name, n.pv, n.kv] 25))
  have HI := Lib.hid (fun o => Nd.In.more ((Below.refl w.heap.size w).alloc (Nat.le_refl _) o).size (hin.under ((Below.refl w.heap.size w).alloc (Nat.le_refl _) o)))
  rcases idx_or (n.props.map PV.name) s with h | ⟨k, h1, h2, _⟩
  · have CF := Lib.hid (fun o => find_off n s (w.alloc o) (HI.out o) (by omega))
    have HO : Hid (oneV n s = (0, false, 0)) := Lib.hid (by rw [oneV, find_none h])
    clear hin h HI
    obtain ⟨nm, pa, pc, ps, ka, kc, ks⟩ := n
    rw [HO.out]
    simp only [Nd.val, Nd.pv, Nd.kv, Nd.name, Nd.pa, Nd.pc, Nd.props, Nd.ka, Nd.kc, Nd.kids] at CF HB ⊢
    go_enter Try.func49, Try.ntmps49
    go_wp2_with fail
    refine (CF.out _).mono ?_
    rintro e w1 ⟨⟨A1, c1, rfl, _⟩, hb⟩
    have HB1 := Lib.hid (HB.out.trans (hb.mono HB.out.size))
    clear hb
    go_wp2
    go_ret3
    exact ⟨rfl, HB1.out⟩
  · rw [List.length_map] at h1
    obtain ⟨zs, hzs⟩ : ∃ zs, n.props[k].zs = zs := ⟨_, rfl⟩
    have CF := fun o => find_on n s (w.alloc o) (HI.out o) k h1 h2 zs hzs
    have HO : Hid (oneV n s = if zs.length = 4 then (numTo zs 0 4, true, 0) else (0, false, 4)) := Lib.hid (by rw [oneV, find_at h1 h2, ← hzs])
    have hN : zs.length ≤ 140737488351232 := by rw [← hzs]; exact (hin.prop (List.getElem_mem h1)).1.2
    have HC := Lib.hid (fun A c W (hW : Shows W W.heap.size A zs.length zs) h1 h2 => cells_any A zs.length c zs W hW (by omega) h1 h2)
    obtain ⟨O, hO⟩ : ∃ O, oneV n s = O := ⟨_, rfl⟩
    rw [hO] at HO ⊢
    obtain ⟨N, hNe⟩ : ∃ N, zs.length = N := ⟨_, rfl⟩
    rw [hNe] at HO HC CF hN
    have HCF := Lib.hid CF
    have HNN := Lib.hid hNe
    clear hin HI hO hNe CF hzs h1 h2
    obtain ⟨nm, pa, pc, ps, ka, kc, ks⟩ := n
    simp only [Nd.val, Nd.pv, Nd.kv, Nd.name, Nd.pa, Nd.pc, Nd.props, Nd.ka, Nd.kc, Nd.kids] at HCF HB ⊢
    go_enter Try.func49, Try.ntmps49
    go_wp2_with fail
    refine (HCF.out _).mono ?_
    rintro e w1 ⟨⟨A1, c1, rfl, hsh, hl1, hl2⟩, hb⟩
    have HB1 := Lib.hid (HB.out.trans (hb.mono HB.out.size))
    have CC := HC.out A1 c1 w1 hsh hl1 hl2
    by_cases h4 : N % 4 = 0
    · have hE : cellsE zs = 0 := by rw [cellsE, if_pos (by rw [HNN.out]; exact h4)]
      obtain ⟨hUL, hU⟩ := u32s_cells (zs := zs) (by rw [HNN.out]; exact h4) rfl
      rw [HNN.out] at hUL hU
      obtain ⟨M, hM⟩ : ∃ M, N / 4 = M := ⟨_, rfl⟩
      rw [hM] at hUL hU
      unfold RowOut at CC
      rw [hE, hUL] at CC
      have HU := Lib.hid hU
      generalize u32s (cellsL zs) = U at CC HU
      have HCC := Lib.hid CC
      clear hb hsh CC hE hUL hU
      go_wp2_with fail
      refine HCC.out.mono ?_
      rintro e w2 ⟨⟨A, c, rfl, hcel, hl3, hl4⟩, hb⟩
      have HB2 := Lib.hid (HB1.out.trans (hb.mono HB1.out.size))
      clear hb
      by_cases h1 : M = 1
      · subst h1
        obtain ⟨bc, oc, rfl, _, hc0⟩ := hcel.2 (by omega)
        have d0 := hc0 0 (by omega)
        rw [Nat.add_zero, HU.out 0 (by omega)] at d0
        obtain ⟨v, hv⟩ : ∃ v, numTo zs 0 4 = v := ⟨_, rfl⟩
        have HO2 : Hid (O = (v, true, 0)) := Lib.hid (by rw [HO.out, if_pos (by omega), hv])
        rw [Nat.mul_zero, hv] at d0
        clear hcel hc0 hv hM h4 HCC HO
        go_wp2
        go_ret3
        exact ⟨by rw [HO2.out]; rfl, HB2.out⟩
      · have k1 : ((M : Int) != 1) = true := by rw [bne_iff_ne]; omega
        have HO2 : Hid (O = (0, false, 4)) := Lib.hid (by rw [HO.out, if_neg (by omega)])
        clear hcel hM h4 h1 HCC HO
        go_wp2
        go_ret3
        exact ⟨by rw [HO2.out]; rfl, HB2.out⟩
    · have hE : cellsE zs = 4 := by rw [cellsE, if_neg (by rw [HNN.out]; exact h4)]
      have hUL : u32s (cellsL zs) = [] := by rw [cellsL, if_neg (by rw [HNN.out]; exact h4)]; rfl
      unfold RowOut at CC
      rw [hE, hUL] at CC
      have HCC : Hid (Calls Try.prog 21 #[.slice A1 N c1] w1 fun e w' => (∃ A c, e = .returned (.tuple #[.slice A 0 c, .int .i64 4]) ∧ Cel w' w'.heap.size A 0 [] ∧ 0 ≤ c ∧ c ≤ 9223372036854775807) ∧ Below w1.heap.size w1 w') := Lib.hid CC
      have HO2 : Hid (O = (0, false, 4)) := Lib.hid (by rw [HO.out, if_neg (by omega)])
      clear hb hsh CC hE hUL h4 HO
      go_wp2_with fail
      refine HCC.out.mono ?_
      rintro e w2 ⟨⟨A, c, rfl, hcel, hl3, hl4⟩, hb⟩
      have HB2 := Lib.hid (HB1.out.trans (hb.mono HB1.out.size))
      clear hb hcel
      go_wp2
      go_ret3
      exact ⟨by rw [HO2.out]; rfl, HB2.out⟩
end Go.Proofs.Ytbblgkidgecdpaa

/-! Layer 12: the program's count, Counts; the law's first question. -/
namespace Go.Proofs.Ytbblgkidgecdpaa
open Go.RowKit
set_option linter.unusedVariables false
set_option linter.unusedSimpArgs false

/-- What the program's count answers. -/
def cntVal (v : Int) : Value := if 0 ≤ v then .tuple #[.int .i64 v, .int .i64 0] else .tuple #[.int .i64 0, .int .i64 10]

set_option maxHeartbeats 2000000 in
theorem cnt_any (n : Nd) (s : ByteArray) (d : Int) (w : World) (hin : n.In w w.heap.size) (hs : s.size ≤ 140737488351232) (hd : 0 ≤ d) :
    Calls Try.prog 38 #[n.val, .string s, .int .i64 d] w fun e w' => e = .returned (cntVal (cntV n s d)) ∧ Below w.heap.size w w' := by
  have C := Lib.hid (fun W hW => oneOK n s W hW hs)
  have hb := oneV_bound hin s
  have HV : Hid (cntV n s d = if (oneV n s).2.2 ≠ 0 ∨ 2 < (oneV n s).1 then -1 else if (oneV n s).2.1 = false then d else (oneV n s).1) := Lib.hid rfl
  have HI := Lib.hid hin
  have HD := Lib.hid hd
  obtain ⟨O, hO⟩ : ∃ O, oneV n s = O := ⟨_, rfl⟩
  rw [hO] at C hb HV
  obtain ⟨v, ok, E⟩ := O
  obtain ⟨r, hr⟩ : ∃ r, cntVal (cntV n s d) = r := ⟨_, rfl⟩
  have HRR := Lib.hid hr
  rw [hr]
  obtain ⟨v0, v1⟩ : 0 ≤ v ∧ v ≤ 4294967295 := hb
  replace HV : Hid (cntV n s d = if E ≠ 0 ∨ 2 < v then -1 else if ok = false then d else v) := HV
  clear hin hs hd hO hr
  obtain ⟨nm, pa, pc, ps, ka, kc, ks⟩ := n
  simp only [Nd.val, Nd.pv, Nd.kv, Nd.name, Nd.pa, Nd.pc, Nd.props, Nd.ka, Nd.kc, Nd.kids, oneVal] at C ⊢
  have HB := Lib.hid ((Below.refl w.heap.size w).alloc (Nat.le_refl _) (.cells #[Value.string nm, .slice pa ps.length pc, .slice ka ks.length kc] 25))
  by_cases hE : E = 0
  · subst hE
    by_cases hv : 2 < v
    · have q1 : decide ((2 : Int) < v) = true := decide_eq_true hv
      have HR : Hid (r = .tuple #[.int .i64 0, .int .i64 10]) := Lib.hid (by rw [← HRR.out, HV.out, if_pos (.inr hv)]; rfl)
      clear hv
      go_enter Try.func38, Try.ntmps38
      go_wp2_with fail
      refine (C.out _ (Nd.In.more HB.out.size (HI.out.under HB.out))).mono ?_
      rintro e w1 ⟨rfl, hb⟩
      have HB1 := Lib.hid (HB.out.trans (hb.mono HB.out.size))
      clear hb
      go_wp2
      go_ret2
      exact ⟨by rw [HR.out]; rfl, HB1.out⟩
    · have q1 : decide ((2 : Int) < v) = false := decide_eq_false hv
      cases ok
      · have HR : Hid (r = .tuple #[.int .i64 d, .int .i64 0]) := Lib.hid (by rw [← HRR.out, HV.out, if_neg (by simp; omega), if_pos rfl, cntVal, if_pos HD.out])
        clear hv
        go_enter Try.func38, Try.ntmps38
        go_wp2_with fail
        refine (C.out _ (Nd.In.more HB.out.size (HI.out.under HB.out))).mono ?_
        rintro e w1 ⟨rfl, hb⟩
        have HB1 := Lib.hid (HB.out.trans (hb.mono HB.out.size))
        clear hb
        go_wp2
        go_ret2
        exact ⟨by rw [HR.out]; rfl, HB1.out⟩
      · have HR : Hid (r = .tuple #[.int .i64 v, .int .i64 0]) := Lib.hid (by rw [← HRR.out, HV.out, if_neg (by simp; omega), if_neg (by simp), cntVal, if_pos v0])
        have hcv : IntKind.i64.wrap v = v := by rw [IntKind.wrap_i64]; omega
        clear hv
        go_enter Try.func38, Try.ntmps38
        go_wp2_with fail
        refine (C.out _ (Nd.In.more HB.out.size (HI.out.under HB.out))).mono ?_
        rintro e w1 ⟨rfl, hb⟩
        have HB1 := Lib.hid (HB.out.trans (hb.mono HB.out.size))
        clear hb
        go_wp2
        go_ret2
        exact ⟨by rw [HR.out]; rfl, HB1.out⟩
  · have q0 : (E != 0) = true := by rw [bne_iff_ne]; exact hE
    have HR : Hid (r = .tuple #[.int .i64 0, .int .i64 10]) := Lib.hid (by rw [← HRR.out, HV.out, if_pos (.inl hE)]; rfl)
    clear hE
    go_enter Try.func38, Try.ntmps38
    go_wp2_with fail
    refine (C.out _ (Nd.In.more HB.out.size (HI.out.under HB.out))).mono ?_
    rintro e w1 ⟨rfl, hb⟩
    have HB1 := Lib.hid (HB.out.trans (hb.mono HB.out.size))
    clear hb
    go_wp2
    go_ret2
    exact ⟨by rw [HR.out]; rfl, HB1.out⟩

set_option maxRecDepth 20000 in
set_option maxHeartbeats 4000000 in
theorem countsOK : CountsOK := by
  intro n w hin
  have CA := Lib.hid (fun W hW => cnt_any n nmAddr 2 W hW (by decide) (by decide))
  have CS := Lib.hid (fun W hW => cnt_any n nmSize 1 W hW (by decide) (by decide))
  have HI := Lib.hid hin
  have HOK : Hid (okCounts n = (decide (0 ≤ cntV n nmAddr 2) && decide (0 ≤ cntV n nmSize 1))) := Lib.hid rfl
  obtain ⟨ok, hok⟩ : ∃ ok, okCounts n = ok := ⟨_, rfl⟩
  rw [hok] at HOK ⊢
  obtain ⟨va, hva⟩ : ∃ v, cntV n nmAddr 2 = v := ⟨_, rfl⟩
  obtain ⟨vs, hvs⟩ : ∃ v, cntV n nmSize 1 = v := ⟨_, rfl⟩
  rw [hva] at CA HOK ⊢
  rw [hvs] at CS HOK ⊢
  clear hin hva hvs hok
  obtain ⟨nm, pa, pc, ps, ka, kc, ks⟩ := n
  simp only [Nd.val, Nd.pv, Nd.kv, Nd.name, Nd.pa, Nd.pc, Nd.props, Nd.ka, Nd.kc, Nd.kids, nmAddr, nmSize] at CA CS ⊢
  have HB := Lib.hid ((Below.refl w.heap.size w).alloc (Nat.le_refl _) (.cells #[Value.string nm, .slice pa ps.length pc, .slice ka ks.length kc] 25))
  have BX : Hid (∀ W, Below (w.heap.size + 1) (w.alloc (.cells #[Value.string nm, .slice pa ps.length pc, .slice ka ks.length kc] 25)) W → (W.cell? ⟨w.heap.size, 0, none⟩ = some (.string nm) ∧ W.cell? ⟨w.heap.size, 1, none⟩ = some (.slice pa ps.length pc) ∧ W.cell? ⟨w.heap.size, 2, none⟩ = some (.slice ka ks.length kc))) := Lib.hid (fun W h =>
    ⟨(h.cell (Nat.lt_succ_self _)).trans (World.cell?_alloc_new _ _ _ _), (h.cell (Nat.lt_succ_self _)).trans (World.cell?_alloc_new _ _ _ _), (h.cell (Nat.lt_succ_self _)).trans (World.cell?_alloc_new _ _ _ _)⟩)
  have IN := Lib.hid (fun W (h : Below w.heap.size w W) => Nd.In.more h.size (HI.out.under h))
  by_cases ha : 0 ≤ va
  · have EA : cntVal va = .tuple #[.int .i64 va, .int .i64 0] := if_pos ha
    rw [EA] at CA
    have HOK2 : Hid (ok = decide (0 ≤ vs)) := Lib.hid (by rw [HOK.out, decide_eq_true ha, Bool.true_and])
    clear EA ha HOK
    go_enter Try.func20, Try.ntmps20
    go_wp2_with fail
    refine (CA.out _ (IN.out _ HB.out)).mono ?_
    rintro e w1 ⟨rfl, hb⟩
    have HB1 := Lib.hid (HB.out.trans (hb.mono HB.out.size))
    obtain ⟨d0, d1, d2⟩ := BX.out _ (hb.mono (by simp))
    clear hb CA
    by_cases hs : 0 ≤ vs
    · have ES : cntVal vs = .tuple #[.int .i64 vs, .int .i64 0] := if_pos hs
      rw [ES] at CS
      have HOK3 : Hid (ok = true) := Lib.hid (by rw [HOK2.out, decide_eq_true hs])
      clear ES hs HOK2
      go_wp2_with fail
      refine (CS.out _ (IN.out _ HB1.out)).mono ?_
      rintro e w2 ⟨rfl, hb⟩
      have HB2 := Lib.hid (HB1.out.trans (hb.mono HB1.out.size))
      clear hb CS d0 d1 d2
      go_wp2
      go_ret3
      exact ⟨fun _ => rfl, fun h => (by rw [HOK3.out] at h; cases h), HB2.out⟩
    · have ES : cntVal vs = .tuple #[.int .i64 0, .int .i64 10] := if_neg hs
      rw [ES] at CS
      have HOK3 : Hid (ok = false) := Lib.hid (by rw [HOK2.out, decide_eq_false hs])
      clear ES hs HOK2
      go_wp2_with fail
      refine (CS.out _ (IN.out _ HB1.out)).mono ?_
      rintro e w2 ⟨rfl, hb⟩
      have HB2 := Lib.hid (HB1.out.trans (hb.mono HB1.out.size))
      clear hb CS d0 d1 d2
      go_wp2
      go_ret3
      exact ⟨fun h => (by rw [HOK3.out] at h; cases h), fun _ => rfl, HB2.out⟩
  · have EA : cntVal va = .tuple #[.int .i64 0, .int .i64 10] := if_neg ha
    rw [EA] at CA
    have HOK3 : Hid (ok = false) := Lib.hid (by rw [HOK.out, decide_eq_false ha, Bool.false_and])
    clear EA ha HOK
    go_enter Try.func20, Try.ntmps20
    go_wp2_with fail
    refine (CA.out _ (IN.out _ HB.out)).mono ?_
    rintro e w1 ⟨rfl, hb⟩
    have HB1 := Lib.hid (HB.out.trans (hb.mono HB.out.size))
    clear hb CA
    go_wp2
    go_ret3
    exact ⟨fun h => (by rw [HOK3.out] at h; cases h), fun _ => rfl, HB1.out⟩

theorem nd0_in (w : World) (B : Nat) : (Nd.mk ⟨#[]⟩ none 0 [] none 0 []).In w B :=
  .mk _ ⟨by decide, by simp [Nd.props], by simp [Nd.kids]⟩ (by simp [Nd.props, Nd.pc]) (by simp [Nd.pc]) (by simp [Nd.kids, Nd.kc]) (by simp [Nd.kc]) (fun h => absurd h (by simp [Nd.props])) (fun p h => by simp [Nd.props] at h) (fun h => absurd h (by simp [Nd.kids])) (fun p h => by simp [Nd.kids] at h)

end Go.Proofs.Ytbblgkidgecdpaa

/-! Places and paths: which node stands at a place; its path's names lead to it. -/
namespace Go.Proofs.Ytbblgkidgecdpaa
open Go.RowKit
set_option linter.unusedVariables false
set_option linter.unusedSimpArgs false

/-- The node at a place below n. -/
def nodeAt : Nd → List Nat → Option Nd
  | n, [] => some n
  | n, i :: r => match n.kids[i]? with
    | none => none
    | some k => nodeAt k r
theorem nodeAt_cons {n : Nd} {i : Nat} {r : List Nat} (h : i < n.kids.length) : nodeAt n (i :: r) = nodeAt n.kids[i] r := by
  rw [nodeAt, List.getElem?_eq_getElem h]
theorem nodeAt_some {n x : Nd} {i : Nat} {r : List Nat} (h : nodeAt n (i :: r) = some x) : ∃ hi : i < n.kids.length, nodeAt n.kids[i] r = some x := by
  rw [nodeAt] at h
  by_cases hi : i < n.kids.length
  · rw [List.getElem?_eq_getElem hi] at h
    exact ⟨hi, h⟩
  · rw [List.getElem?_eq_none (by omega)] at h
    cases h
theorem nodeAt_append : ∀ (p q : List Nat) (n : Nd), nodeAt n (p ++ q) = match nodeAt n p with | none => none | some x => nodeAt x q
  | [], q, n => by simp [nodeAt]
  | i :: p, q, n => by
    by_cases hi : i < n.kids.length
    · rw [List.cons_append, nodeAt_cons hi, nodeAt_cons hi, nodeAt_append p q]
    · rw [List.cons_append, nodeAt, nodeAt, List.getElem?_eq_none (by omega)]
/-- The places are those of nodes. -/
theorem mem_places : ∀ (n : Nd) (q p : List Nat), p ∈ placesN n q ↔ ∃ r, p = q ++ r ∧ (nodeAt n r).isSome = true := by
  refine Nd.ind ?_
  intro n ih q p
  have hl : ∀ (l : List Nd) (i : Nat), (∀ k ∈ l, k ∈ n.kids) → (p ∈ placesL l q i ↔ ∃ j, ∃ h : j < l.length, p ∈ placesN l[j] (q ++ [i + j])) := by
    intro l
    induction l with
    | nil => intro i _; simp [placesL]
    | cons k l ihl =>
      intro i hk
      rw [placesL, List.mem_append, ihl (i + 1) (fun x hx => hk x (by simp [hx]))]
      constructor
      · rintro (h | ⟨j, hj, h⟩)
        · exact ⟨0, by simp, by simpa using h⟩
        · exact ⟨j + 1, by simpa using hj, by simpa [show i + (j + 1) = i + 1 + j by omega] using h⟩
      · rintro ⟨j, hj, h⟩
        rcases j with _ | j
        · exact .inl (by simpa using h)
        · exact .inr ⟨j, by simpa using hj, by simpa [show i + (j + 1) = i + 1 + j by omega] using h⟩
  rw [placesN_mk, List.mem_cons, hl n.kids 0 (fun _ h => h)]
  constructor
  · rintro (rfl | ⟨j, hj, h⟩)
    · exact ⟨[], by simp, rfl⟩
    · obtain ⟨r, rfl, h2⟩ := (ih n.kids[j] (List.getElem_mem hj) _ _).1 h
      exact ⟨j :: r, by simp, by rw [nodeAt_cons hj]; exact h2⟩
  · rintro ⟨r, rfl, h⟩
    rcases r with _ | ⟨j, r⟩
    · exact .inl (by simp)
    · obtain ⟨x, hx⟩ := Option.isSome_iff_exists.1 h
      obtain ⟨hj, hx2⟩ := nodeAt_some hx
      exact .inr ⟨j, hj, (ih n.kids[j] (List.getElem_mem hj) _ _).2 ⟨r, by simp, by rw [hx2]; rfl⟩⟩
theorem place_node {n : Nd} {p : List Nat} (h : p ∈ placesN n []) : ∃ x, nodeAt n p = some x := by
  obtain ⟨r, rfl, h⟩ := (mem_places n [] p).1 h
  exact Option.isSome_iff_exists.1 h
theorem nodeAt_in {w : World} {B : Nat} : ∀ (p : List Nat) {n x : Nd}, n.In w B → nodeAt n p = some x → x.In w B
  | [], n, x, h, e => by rw [nodeAt] at e; rw [← Option.some.inj e]; exact h
  | i :: p, n, x, h, e => by
    obtain ⟨hi, e⟩ := nodeAt_some e
    exact nodeAt_in p (h.kid (List.getElem_mem hi)) e

/-! ### Formed trees -/
theorem nd_wrongL {d : Int} : ∀ {l : List Nd}, wrongL l d = 0 → ∀ k ∈ l, wrongN k d = 0
  | [], _, k, hk => by cases hk
  | x :: r, h, k, hk => by
    unfold wrongL at h
    by_cases hx : wrongN x d = 0
    · rw [if_pos hx] at h
      rcases List.mem_cons.1 hk with rfl | hk
      · exact hx
      · exact nd_wrongL h k hk
    · rw [if_neg hx] at h
      exact absurd h hx
/-- What a formed node is. -/
structure Well (n : Nd) (d : Int) : Prop where
  deep : d ≤ 16
  name : nameOk n d = true
  twice : (n.kids.map Nd.name).Nodup
  kids : ∀ k ∈ n.kids, wrongN k (d + 1) = 0
theorem well_of {n : Nd} {d : Int} (h : wrongN n d = 0) : Well n d := by
  rw [wrongN_mk] at h
  by_cases ha : aloneE n d = 0
  · rw [if_pos ha] at h
    unfold aloneE at ha
    by_cases h1 : 16 < d
    · rw [if_pos h1] at ha; omega
    rw [if_neg h1] at ha
    by_cases h2 : nameOk n d = false
    · rw [if_pos h2] at ha; omega
    rw [if_neg h2] at ha
    by_cases h3 : n.props.any misP = true
    · rw [if_pos h3] at ha; omega
    rw [if_neg h3] at ha
    by_cases h4 : twiceB (n.props.map PV.name) = true
    · rw [if_pos h4] at ha; omega
    rw [if_neg h4] at ha
    by_cases h5 : twiceB (n.kids.map Nd.name) = true
    · rw [if_pos h5] at ha; omega
    exact ⟨by omega, by simpa using h2, by simpa [twiceB] using h5, nd_wrongL h⟩
  · rw [if_neg ha] at h
    exact absurd h ha
theorem well_at : ∀ (p : List Nat) {n x : Nd} {d : Int}, wrongN n d = 0 → nodeAt n p = some x → wrongN x (d + p.length) = 0
  | [], n, x, d, h, e => by rw [nodeAt] at e; rw [← Option.some.inj e]; simpa using h
  | i :: p, n, x, d, h, e => by
    obtain ⟨hi, e⟩ := nodeAt_some e
    have := well_at p ((well_of h).kids _ (List.getElem_mem hi)) e
    rw [List.length_cons, show d + ((p.length + 1 : Nat) : Int) = d + 1 + (p.length : Int) by omega]
    exact this
/-- A place of a formed tree is at most fifteen numbers. -/
theorem place_short {n x : Nd} {p : List Nat} (h : wrongN n 1 = 0) (e : nodeAt n p = some x) : p.length ≤ 15 := by
  have := (well_of (well_at p h e)).deep
  omega
theorem root_wrong {t : Tr} (h : checkE t = 0) : wrongN t.root 1 = 0 := by
  unfold checkE at h
  by_cases h1 : wrongN t.root 1 = 0
  · exact h1
  · rw [if_neg h1] at h; exact absurd h h1
theorem idx_nodup : ∀ {l : List ByteArray} {k : Nat} (hk : k < l.length), l.Nodup → idxOf l l[k] = (k : Int)
  | l, k, hk, h => idxOf_hit l _ k hk rfl (fun j hj e => by
    have := (List.getElem_inj h).1 e
    omega)
/-- The names on the way to a place. -/
def namesAt : Nd → List Nat → List ByteArray
  | _, [] => []
  | n, i :: r => match n.kids[i]? with
    | none => []
    | some k => k.name :: namesAt k r
theorem namesAt_cons {n : Nd} {i : Nat} {r : List Nat} (h : i < n.kids.length) : namesAt n (i :: r) = n.kids[i].name :: namesAt n.kids[i] r := by
  rw [namesAt, List.getElem?_eq_getElem h]
theorem namesAt_length : ∀ (p : List Nat) {n x : Nd}, nodeAt n p = some x → (namesAt n p).length = p.length
  | [], n, x, _ => rfl
  | i :: p, n, x, e => by
    obtain ⟨hi, e⟩ := nodeAt_some e
    rw [namesAt_cons hi, List.length_cons, List.length_cons, namesAt_length p e]
/-- Each is a node's name. -/
theorem namesAt_ok : ∀ (p : List Nat) {n x : Nd} {d : Int}, 1 ≤ d → wrongN n d = 0 → nodeAt n p = some x → ∀ s ∈ namesAt n p, nodeB s = true
  | [], n, x, d, _, _, _, s, hs => by cases hs
  | i :: p, n, x, d, hd, h, e, s, hs => by
    obtain ⟨hi, e⟩ := nodeAt_some e
    have hw := (well_of h).kids _ (List.getElem_mem hi)
    rw [namesAt_cons hi] at hs
    rcases List.mem_cons.1 hs with rfl | hs
    · have := (well_of hw).name
      unfold nameOk at this
      rwa [if_neg (by omega)] at this
    · exact namesAt_ok p (by omega) hw e s hs
/-- One step further. -/
theorem nodeAt_next {n x : Nd} {p : List Nat} {i : Nat} (h : nodeAt n p = some x) (hi : i < x.kids.length) : nodeAt n (p ++ [i]) = some x.kids[i] := by
  rw [nodeAt_append, h]
  show nodeAt x [i] = _
  rw [nodeAt_cons hi, nodeAt]
theorem namesAt_next : ∀ (p : List Nat) {n x : Nd} {i : Nat}, nodeAt n p = some x → ∀ hi : i < x.kids.length, namesAt n (p ++ [i]) = namesAt n p ++ [x.kids[i].name]
  | [], n, x, i, h, hi => by
    rw [nodeAt] at h
    obtain rfl := Option.some.inj h
    rw [List.nil_append, namesAt_cons hi, namesAt]
    rfl
  | j :: p, n, x, i, h, hi => by
    obtain ⟨hj, e⟩ := nodeAt_some h
    rw [List.cons_append, namesAt_cons hj, namesAt_cons hj, namesAt_next p e hi]
    rfl

/-! ### Paths -/
/-- A path's bytes: of each name a stroke and it. -/
def pathB (l : List ByteArray) : List UInt8 := l.flatMap fun s => 47 :: s.data.toList
/-- The path of a place. -/
def pathOf (n : Nd) (p : List Nat) : ByteArray := ⟨(if p = [] then [47] else pathB (namesAt n p)).toArray⟩
theorem pathB_append (a b : List ByteArray) : pathB (a ++ b) = pathB a ++ pathB b := by unfold pathB; rw [List.flatMap_append]
theorem okM_not {m : List UInt8} {c : UInt8} (hl : letB (c.toNat : Int) = false) (hd : digB (c.toNat : Int) = false) (hm : c ∉ m) : okM m c = false := by
  have e : ¬ 0 ≤ Lib.indexByte m c := by
    intro h0
    obtain ⟨k, hk⟩ := Int.eq_ofNat_of_zero_le h0
    obtain ⟨h1, h2⟩ := Lib.indexByte_some hk
    exact hm (List.mem_of_getElem? h1)
  unfold okM
  simp [hl, hd, e]
theorem madeB_not {m l : List UInt8} {c : UInt8} (hl : letB (c.toNat : Int) = false) (hd : digB (c.toNat : Int) = false) (hm : c ∉ m) (h : madeB m l = true) : c ∉ l := by
  intro h0
  unfold madeB at h
  simp only [Bool.and_eq_true, List.all_eq_true] at h
  have := h.2 c h0
  rw [okM_not hl hd hm] at this
  cases this
/-- A node's name has none of these bytes. -/
theorem nodeB_not {s : ByteArray} {c : UInt8} (hl : letB (c.toNat : Int) = false) (hd : digB (c.toNat : Int) = false) (hm : c ∉ nodeMarks) (hat : c ≠ 64) (h : nodeB s = true) : c ∉ s.data.toList := by
  unfold nodeB at h
  split at h
  · exact madeB_not hl hd hm (by unfold baseB at h; simp only [Bool.and_eq_true] at h; exact h.1)
  · rename_i hc
    simp only [Bool.and_eq_true] at h
    rcases cut_or_not s with hn | ⟨i, hi⟩
    · exact absurd hn hc
    · have e : (Lib.indexByte s.data.toList 64).toNat = i := by rw [hi.2]; rfl
      rw [e] at h
      have h1 := madeB_not hl hd hm (by have := h.1; unfold baseB at this; simp only [Bool.and_eq_true] at this; exact this.1)
      have h2 := madeB_not hl hd hm h.2
      intro h0
      obtain ⟨k, e0⟩ := List.getElem?_of_mem h0
      have c1 := (Lib.indexByte_some hi.2).1
      rw [ByteArray.data_extract, Array.toList_extract, List.extract_eq_take_drop] at h1 h2
      rcases Nat.lt_trichotomy k i with hk | hk | hk
      · exact h1 (List.mem_of_getElem? (i := k) (by rw [List.getElem?_take_of_lt (by omega), List.drop_zero]; exact e0))
      · subst hk
        rw [c1] at e0
        exact hat (Option.some.inj e0).symm
      · have hk2 : k < s.size := (List.getElem?_eq_some_iff.1 e0).1
        exact h2 (List.mem_of_getElem? (i := k - (i + 1)) (by rw [List.getElem?_take_of_lt (by omega), List.getElem?_drop, show i + 1 + (k - (i + 1)) = k by omega]; exact e0))
theorem nodeB_stroke {s : ByteArray} (h : nodeB s = true) : (47 : UInt8) ∉ s.data.toList := nodeB_not (by decide) (by decide) (by decide) (by decide) h
theorem nodeB_some6 {s : ByteArray} (h : nodeB s = true) : s.data.toList ≠ [] := by
  intro h0
  unfold nodeB at h
  rw [h0] at h
  have e : Lib.indexByte ([] : List UInt8) 64 = -1 := by decide
  rw [e, if_pos rfl] at h
  revert h
  decide
end Go.Proofs.Ytbblgkidgecdpaa

/-! Layer 6, PathAll: the places of all nodes of any tree are told in order: out of what the program's All answers. -/
namespace Go.Proofs.Ytbblgkidgecdpaa
open Go.RowKit
set_option linter.unusedVariables false
set_option linter.unusedSimpArgs false

/-- The five cells of a tree in a new block. -/
theorem box6_cells (w : World) (v0 v1 v2 v3 v4 : Value) (W : World) (h : Below (w.heap.size + 1) (w.alloc (.cells #[v0, v1, v2, v3, v4] 31)) W) :
    W.cell? ⟨w.heap.size, 0, none⟩ = some v0 ∧ W.cell? ⟨w.heap.size, 1, none⟩ = some v1 ∧ W.cell? ⟨w.heap.size, 2, none⟩ = some v2 ∧ W.cell? ⟨w.heap.size, 3, none⟩ = some v3 ∧ W.cell? ⟨w.heap.size, 4, none⟩ = some v4 :=
  ⟨(h.cell (Nat.lt_succ_self _)).trans (World.cell?_alloc_new _ _ _ _), (h.cell (Nat.lt_succ_self _)).trans (World.cell?_alloc_new _ _ _ _), (h.cell (Nat.lt_succ_self _)).trans (World.cell?_alloc_new _ _ _ _), (h.cell (Nat.lt_succ_self _)).trans (World.cell?_alloc_new _ _ _ _), (h.cell (Nat.lt_succ_self _)).trans (World.cell?_alloc_new _ _ _ _)⟩

end Go.Proofs.Ytbblgkidgecdpaa

/-! Layer 6, PathBack: the path of each node of a formed tree leads to it: out of what the program's All, Path and Find answer. -/
namespace Go.Proofs.Ytbblgkidgecdpaa
open Go.RowKit
set_option linter.unusedVariables false
set_option linter.unusedSimpArgs false

end Go.Proofs.Ytbblgkidgecdpaa
