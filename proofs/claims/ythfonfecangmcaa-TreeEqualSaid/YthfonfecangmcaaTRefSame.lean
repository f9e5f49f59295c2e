/-
  Layer 3: the document's answer whether two nodes, and all below them, are the same.
-/
import Derived.Test.YthfonfecangmcaaTSame
import Derived.Test.YthfonfecangmcaaReg
import Derived.BigQuiet
import Derived.Deep.DrawnRows
namespace Go.Proofs.Ythfonfecangmcaa
open Go.RowKit
set_option linter.unusedVariables false
set_option linter.unusedSimpArgs false
attribute [local go_sem ↓] Go.wp_at_zero Go.wp_at_succ

theorem below_drewN {B : Nat} {a w : World} (h : Below B a w) (n : Nat) : Below B a (w.drewN n) := ⟨h.os, h.tape, h.output, h.size, h.block⟩

set_option maxHeartbeats 4000000 in
theorem refsame_any : ∀ (n m : Nd) (w : World), n.In w w.heap.size → m.In w w.heap.size → ∀ r : Bool, sameB n m = r → Calls Try.prog 15 #[n.val, m.val] w fun e w' => e = .returned (.bool r) ∧ Below w.heap.size w w' := by
  refine Nd.ind ?_
  intro n ih m w hn hm r hr
  have HI := Lib.hid hn
  have HJ := Lib.hid hm
  have HR := Lib.hid ((sameB_mk n m).symm.trans hr)
  have IH := Lib.hid ih
  obtain ⟨hl1, hm1⟩ := hn.plen
  obtain ⟨hl2, hm2⟩ := hn.klen
  clear hn hm hr ih
  obtain ⟨nm, pa, pc, ps, ka, kc, ks⟩ := n
  obtain ⟨nm', pa', pc', ps', ka', kc', ks'⟩ := m
  replace hl1 : ps.length ≤ pc := hl1
  replace hm1 : pc ≤ 9223372036854775807 := hm1
  replace hl2 : ks.length ≤ kc := hl2
  replace hm2 : kc ≤ 9223372036854775807 := hm2
  replace HR : Hid ((decide (nm = nm') && all2 sameP ps ps' && all2 sameB ks ks') = r) := HR
  show Calls _ _ #[.agg #[.string nm, .slice pa ps.length pc, .slice ka ks.length kc], .agg #[.string nm', .slice pa' ps'.length pc', .slice ka' ks'.length kc']] _ _
  have HW := Lib.hid (((Below.refl w.heap.size w).alloc (Nat.le_refl _) (.cells #[Value.string nm, .slice pa ps.length pc, .slice ka ks.length kc] 27)).alloc (by simp) (.cells #[Value.string nm', .slice pa' ps'.length pc', .slice ka' ks'.length kc'] 27))
  by_cases hnm : nm = nm'
  · have hn1 : (nm.toList == nm'.toList) = true := by rw [str_eqb, decide_eq_true hnm]
    by_cases hlp : ps.length = ps'.length
    · have p1 : ((ps.length : Int) == (ps'.length : Int)) = true := by rw [hlp]; simp
      have p2 : ((ps.length : Int) != (ps'.length : Int)) = false := by rw [hlp]; simp
      have HLP := Lib.hid hlp
      clear hlp
      by_cases hlk : ks.length = ks'.length
      · have k1 : ((ks.length : Int) == (ks'.length : Int)) = true := by rw [hlk]; simp
        have k2 : ((ks.length : Int) != (ks'.length : Int)) = false := by rw [hlk]; simp
        have HR' : Hid ((all2 sameP ps ps' && all2 sameB ks ks') = r) := by
          have := HR.out
          rwa [decide_eq_true hnm, Bool.true_and] at this
        have HLK := Lib.hid hlk
        clear hnm hlk HR
        go_enter Try.func15, Try.ntmps15
        go_wp2_with fail
        go_loopw [33] (fun i wr => ∃ k : Nat, k ≤ ps.length ∧ i = .int .i64 k ∧ Even sameP ps ps' k ∧ Below (w.heap.size + 2) ((w.alloc (.cells #[Value.string nm, .slice pa ps.length pc, .slice ka ks.length kc] 27)).alloc (.cells #[Value.string nm', .slice pa' ps'.length pc', .slice ka' ks'.length kc'] 27)) wr) (fun i _ => ps.length - (intOf i).toNat)
        case atStart => exact ⟨0, Nat.zero_le _, rfl, Even.zero _ _ _, Below.refl _ _⟩
        case round =>
          obtain ⟨k, hk, rfl, hev, hb⟩ := hrel
          have HE := Lib.hid hev
          have HB0 := Lib.hid hb
          have HB := Lib.hid (HW.out.trans (hb.mono (by omega)))
          clear hev hb
          by_cases hlt : k < ps.length
          · have hlt' : k < ps'.length := by rw [← HLP.out]; exact hlt
            have HV := Lib.hid (((HI.out.prop (List.getElem_mem hlt)).keep (fun _ hp => HB.out.cell hp)).2.1)
            have HV' := Lib.hid (((HJ.out.prop (List.getElem_mem hlt')).keep (fun _ hp => HB.out.cell hp)).2.1)
            obtain ⟨b, o, e, hb, c0, c1⟩ := (HI.out.under HB.out).pcell (i := k) hlt
            obtain rfl : pa = _ := e
            replace c0 : _ = some (Value.string ps[k].name) := c0
            replace c1 : _ = some (Value.slice ps[k].addr ps[k].zs.length ps[k].cap) := c1
            obtain ⟨b', o', e', hb', d0, d1⟩ := (HJ.out.under HB.out).pcell (i := k) hlt'
            obtain rfl : pa' = _ := e'
            replace d0 : _ = some (Value.string ps'[k].name) := d0
            replace d1 : _ = some (Value.slice ps'[k].addr ps'[k].zs.length ps'[k].cap) := d1
            have x1 : wr.cell? ⟨w.heap.size, 1, none⟩ = some (.slice (some ⟨b, o, none⟩) ps.length pc) := (HB0.out.cell (by simp)).trans (World.cell?_alloc2_first _ _ _ _)
            have y1 : wr.cell? ⟨w.heap.size + 1, 1, none⟩ = some (.slice (some ⟨b', o', none⟩) ps'.length pc') := (HB0.out.cell (by simp)).trans (World.cell?_alloc2_new _ _ _ _)
            by_cases hpn : ps[k].name = ps'[k].name
            · have hpn1 : (ps[k].name.toList == ps'[k].name.toList) = true := by rw [str_eqb, decide_eq_true hpn]
              have f1 : ∀ j, (convert 35 9 (.slice ps[k].addr ps[k].zs.length ps[k].cap)).run Try.prog (wr.drewN j) = .ok (.string (strOfNums ps[k].zs)) (wr.drewN j) := fun j => run_string (HV.out.drewN j) _
              have f2 : ∀ j, (convert 35 9 (.slice ps'[k].addr ps'[k].zs.length ps'[k].cap)).run Try.prog (wr.drewN j) = .ok (.string (strOfNums ps'[k].zs)) (wr.drewN j) := fun j => run_string (HV'.out.drewN j) _
              obtain ⟨q, hq⟩ : ∃ q, ((strOfNums ps[k].zs).toList == (strOfNums ps'[k].zs).toList) = q := ⟨_, rfl⟩
              have HQ : Hid (sameP ps[k] ps'[k] = q) := by
                show sameP _ _ = _
                rw [← hq, sameP, decide_eq_true hpn, Bool.true_and, str_eqz HV.out.2.1 HV'.out.2.1]
              clear hpn
              cases q
              · obtain rfl : r = false := by rw [← HR'.out, all2_bad k hlt hlt' HQ.out]; rfl
                go_wp2_with fail
                go_quiet (fail)
                go_wp2
                go_ret
                exact ⟨rfl, below_drewN HB.out _⟩
              · go_wp2_with fail
                go_quiet (fail)
                go_wp2
                go_roundw
                case rel => exact ⟨k + 1, by omega, by go_num, HE.out.succ hlt hlt' HQ.out, below_drewN HB0.out _⟩
                case measure => simp [intOf]; omega
            · have hpn1 : (ps[k].name.toList == ps'[k].name.toList) = false := by rw [str_eqb, decide_eq_false hpn]
              obtain rfl : r = false := by rw [← HR'.out, all2_bad k hlt hlt' (by rw [sameP, decide_eq_false hpn]; rfl)]; rfl
              clear hpn
              go_wp2_with fail
              go_quiet (fail)
              go_wp2
              go_ret
              exact ⟨rfl, below_drewN HB.out _⟩
          · have HT : Hid (all2 sameB ks ks' = r) := by
              have := HR'.out
              rw [HE.out.all HLP.out hlt, Bool.true_and] at this
              exact this
            have x2 : wr.cell? ⟨w.heap.size, 2, none⟩ = some (.slice ka ks.length kc) := (HB0.out.cell (by simp)).trans (World.cell?_alloc2_first _ _ _ _)
            go_wp2_with fail
            clear x2
            go_loopw [70] (fun i wr => ∃ k : Nat, k ≤ ks.length ∧ i = .int .i64 k ∧ Even sameB ks ks' k ∧ Below (w.heap.size + 2) ((w.alloc (.cells #[Value.string nm, .slice pa ps.length pc, .slice ka ks.length kc] 27)).alloc (.cells #[Value.string nm', .slice pa' ps'.length pc', .slice ka' ks'.length kc'] 27)) wr) (fun i _ => ks.length - (intOf i).toNat)
            case atStart => exact ⟨0, Nat.zero_le _, rfl, Even.zero _ _ _, HB0.out⟩
            case round =>
              clear HE HB0 HB
              obtain ⟨k, hk, rfl, hev, hb⟩ := hrel
              have HE := Lib.hid hev
              have HB0 := Lib.hid hb
              have HB := Lib.hid (HW.out.trans (hb.mono (by omega)))
              clear hev hb
              by_cases hlt : k < ks.length
              · have hlt' : k < ks'.length := by rw [← HLK.out]; exact hlt
                obtain ⟨b, o, e, hb, c0, c1, c2⟩ := (HI.out.under HB.out).kcell (i := k) hlt
                obtain rfl : ka = _ := e
                replace c0 : _ = some (Value.string ks[k].name) := c0
                replace c1 : _ = some (Value.slice ks[k].pa ks[k].props.length ks[k].pc) := c1
                replace c2 : _ = some (Value.slice ks[k].ka ks[k].kids.length ks[k].kc) := c2
                obtain ⟨b', o', e', hb', d0, d1, d2⟩ := (HJ.out.under HB.out).kcell (i := k) hlt'
                obtain rfl : ka' = _ := e'
                replace d0 : _ = some (Value.string ks'[k].name) := d0
                replace d1 : _ = some (Value.slice ks'[k].pa ks'[k].props.length ks'[k].pc) := d1
                replace d2 : _ = some (Value.slice ks'[k].ka ks'[k].kids.length ks'[k].kc) := d2
                have x2 : wr.cell? ⟨w.heap.size, 2, none⟩ = some (.slice (some ⟨b, o, none⟩) ks.length kc) := (HB0.out.cell (by simp)).trans (World.cell?_alloc2_first _ _ _ _)
                have y2 : wr.cell? ⟨w.heap.size + 1, 2, none⟩ = some (.slice (some ⟨b', o', none⟩) ks'.length kc') := (HB0.out.cell (by simp)).trans (World.cell?_alloc2_new _ _ _ _)
                obtain ⟨q, hq⟩ : ∃ q, sameB ks[k] ks'[k] = q := ⟨_, rfl⟩
                have C := Lib.hid (IH.out ks[k] (List.getElem_mem hlt) ks'[k] wr.drew (((HI.out.kid (List.getElem_mem hlt)).under HB.out.drew).more HB.out.size) (((HJ.out.kid (List.getElem_mem hlt')).under HB.out.drew).more HB.out.size) q hq)
                have HQ := Lib.hid hq
                clear hq
                go_wp2_with fail
                refine wp_region_held_drew (S := fun W => W.cell? ⟨w.heap.size, 2, none⟩ = some (.slice (some ⟨b, o, none⟩) ks.length kc) ∧ W.cell? ⟨w.heap.size + 1, 2, none⟩ = some (.slice (some ⟨b', o', none⟩) ks'.length kc') ∧ W.cell? ⟨b, o + k * 3, none⟩ = some (.string ks[k].name) ∧ W.cell? ⟨b, o + k * 3 + 1, none⟩ = some (.slice ks[k].pa ks[k].props.length ks[k].pc) ∧ W.cell? ⟨b, o + k * 3 + 2, none⟩ = some (.slice ks[k].ka ks[k].kids.length ks[k].kc) ∧ W.cell? ⟨b', o' + k * 3, none⟩ = some (.string ks'[k].name) ∧ W.cell? ⟨b', o' + k * 3 + 1, none⟩ = some (.slice ks'[k].pa ks'[k].props.length ks'[k].pc) ∧ W.cell? ⟨b', o' + k * 3 + 2, none⟩ = some (.slice ks'[k].ka ks'[k].kids.length ks'[k].kc)) (by kernel_rfl) ⟨x2, y2, c0, c1, c2, d0, d1, d2⟩ (fun hHeld => ?_)
                refine held_take 0 rfl (by kernel_rfl) (by kernel_rfl) (by kernel_rfl) (fun _ _ _ h => h) (by rfl) hHeld (v := ?_) (fun w hSw => ?_) (fun _ => ?_)
                rotate_left
                · ((try dsimp only at hSw); go_simp; (try with_reducible rfl))
                simp only [Act.put, List.setIfInBounds_toArray, List.set_cons_zero, List.set_cons_succ]
                refine held_take 1 rfl (by kernel_rfl) (by kernel_rfl) (by kernel_rfl) (fun _ _ _ h => h) (by rfl) hHeld (v := ?_) (fun w hSw => ?_) (fun _ => ?_)
                rotate_left
                · ((try dsimp only at hSw); go_simp; (try with_reducible rfl))
                simp only [Act.put, List.setIfInBounds_toArray, List.set_cons_zero, List.set_cons_succ]
                refine held_take 2 rfl (by kernel_rfl) (by kernel_rfl) (by kernel_rfl) (fun _ _ _ h => h) (by rfl) hHeld (v := ?_) (fun w hSw => ?_) (fun _ => ?_)
                rotate_left
                · ((try dsimp only at hSw); go_simp; (try with_reducible rfl))
                simp only [Act.put, List.setIfInBounds_toArray, List.set_cons_zero, List.set_cons_succ]
                refine held_take 3 rfl (by kernel_rfl) (by kernel_rfl) (by kernel_rfl) (fun _ _ _ h => h) (by rfl) hHeld (v := ?_) (fun w hSw => ?_) (fun _ => ?_)
                rotate_left
                · ((try dsimp only at hSw); go_simp; (try with_reducible rfl))
                simp only [Act.put, List.setIfInBounds_toArray, List.set_cons_zero, List.set_cons_succ]
                refine held_take 4 rfl (by kernel_rfl) (by kernel_rfl) (by kernel_rfl) (fun _ _ _ h => h) (by rfl) hHeld (v := ?_) (fun w hSw => ?_) (fun _ => ?_)
                rotate_left
                · ((try dsimp only at hSw); go_simp; (try with_reducible rfl))
                simp only [Act.put, List.setIfInBounds_toArray, List.set_cons_zero, List.set_cons_succ]
                refine held_take 5 rfl (by kernel_rfl) (by kernel_rfl) (by kernel_rfl) (fun _ _ _ h => h) (by rfl) hHeld (v := ?_) (fun w hSw => ?_) (fun _ => ?_)
                rotate_left
                · ((try dsimp only at hSw); go_simp; (try with_reducible rfl))
                simp only [Act.put, List.setIfInBounds_toArray, List.set_cons_zero, List.set_cons_succ]
                refine held_take 6 rfl (by kernel_rfl) (by kernel_rfl) (by kernel_rfl) (fun _ _ _ h => h) (by rfl) hHeld (v := ?_) (fun w hSw => ?_) (fun _ => ?_)
                rotate_left
                · ((try dsimp only at hSw); go_simp; (try with_reducible rfl))
                simp only [Act.put, List.setIfInBounds_toArray, List.set_cons_zero, List.set_cons_succ]
                refine held_take 7 rfl (by kernel_rfl) (by kernel_rfl) (by kernel_rfl) (fun _ _ _ h => h) (by rfl) hHeld (v := ?_) (fun w hSw => ?_) (fun _ => ?_)
                rotate_left
                · ((try dsimp only at hSw); go_simp; (try with_reducible rfl))
                simp only [Act.put, List.setIfInBounds_toArray, List.set_cons_zero, List.set_cons_succ]
                refine held_take 8 rfl (by kernel_rfl) (by kernel_rfl) (by kernel_rfl) (fun _ _ _ h => h) (by rfl) hHeld (v := ?_) (fun w hSw => ?_) (fun _ => ?_)
                rotate_left
                · ((try dsimp only at hSw); go_simp; (try with_reducible rfl))
                simp only [Act.put, List.setIfInBounds_toArray, List.set_cons_zero, List.set_cons_succ]
                refine held_take 9 rfl (by kernel_rfl) (by kernel_rfl) (by kernel_rfl) (fun _ _ _ h => h) (by rfl) hHeld (v := ?_) (fun w hSw => ?_) (fun _ => ?_)
                rotate_left
                · ((try dsimp only at hSw); go_simp; (try with_reducible rfl))
                simp only [Act.put, List.setIfInBounds_toArray, List.set_cons_zero, List.set_cons_succ]
                refine held_call 10 (by kernel_rfl) rfl (by rfl) (fun K hK => ?_)
                go_simp
                refine C.out.mono ?_
                rintro e w4 ⟨rfl, hb4⟩
                have ko : ∀ {a : Addr} {v : Value}, wr.cell? a = some v → w4.cell? a = some v := fun {a v} h => (hb4.cell (p := a) (World.block_lt_of_cell? wr _ h)).trans h
                dsimp only
                refine hK.out _ _ ⟨ko x2, ko y2, ko c0, ko c1, ko c2, ko d0, ko d1, ko d2⟩ (fun hHeld => ?_)
                clear hK K
                refine held_take 11 rfl (by kernel_rfl) (by kernel_rfl) (by kernel_rfl) (fun _ _ _ h => h) (by rfl) hHeld (v := ?_) (fun w hSw => ?_) (fun _ => ?_)
                rotate_left
                · ((try dsimp only at hSw); go_simp; (try with_reducible rfl))
                simp only [Act.put, List.setIfInBounds_toArray, List.set_cons_zero, List.set_cons_succ]
                refine wpAnyH_done (by kernel_rfl) ?_ _
                clear hHeld x2 y2 c0 c1 c2 d0 d1 d2 ko
                have HB3 := Lib.hid (HB0.out.trans (Below.trans (Below.drew (Below.refl _ wr)) (hb4.mono (by have := HB0.out.size; simpa using this))))
                clear hb4
                cases q
                · obtain rfl : r = false := by rw [← HT.out]; exact all2_bad k hlt hlt' HQ.out
                  go_wp2
                  go_ret
                  exact ⟨rfl, HW.out.trans (HB3.out.mono (by omega))⟩
                · go_wp2
                  go_roundw
                  case rel => exact ⟨k + 1, by omega, by go_num, HE.out.succ hlt hlt' HQ.out, HB3.out⟩
                  case measure => simp [intOf]; omega
              · obtain rfl : r = true := by rw [← HT.out]; exact HE.out.all HLK.out hlt
                go_wp2
                go_ret
                exact ⟨rfl, HB.out⟩
      · obtain rfl : r = false := by rw [← HR.out, all2_lens hlk, Bool.and_false]
        have k1 : ((ks.length : Int) == (ks'.length : Int)) = false := by rw [beq_eq_false_iff_ne]; omega
        have k2 : ((ks.length : Int) != (ks'.length : Int)) = true := by rw [bne, k1]; rfl
        clear hnm
        go_enter Try.func15, Try.ntmps15
        go_wp2
        go_ret
        exact ⟨rfl, HW.out⟩
    · obtain rfl : r = false := by rw [← HR.out, all2_lens hlp, Bool.and_false]; rfl
      have k1 : ((ps.length : Int) == (ps'.length : Int)) = false := by rw [beq_eq_false_iff_ne]; omega
      have k2 : ((ps.length : Int) != (ps'.length : Int)) = true := by rw [bne, k1]; rfl
      clear hnm
      go_enter Try.func15, Try.ntmps15
      go_wp2
      go_ret
      exact ⟨rfl, HW.out⟩
  · have hn1 : (nm.toList == nm'.toList) = false := by rw [str_eqb, decide_eq_false hnm]
    obtain rfl : r = false := by rw [← HR.out, decide_eq_false hnm]; rfl
    clear hnm
    go_enter Try.func15, Try.ntmps15
    go_wp2
    go_ret
    exact ⟨rfl, HW.out⟩
end Go.Proofs.Ythfonfecangmcaa
