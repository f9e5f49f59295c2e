/-
  Base, part 3: what the proofs of this claim lean on.
-/
import Derived.Test.YtapfcbcojnplaaaBase2
import Derived.BigQuiet
import Derived.Test.YtapfcbcojnplaaaBase1
import Derived.Deep.DrawnRows
import Derived.Laws.Bits64
import Derived.Laws.BitsAllLaws

/-! Layer 3: the document's first error of a node, and of those below it. -/
namespace Go.Proofs.Ytapfcbcojnplaaa
open Go.RowKit
set_option linter.unusedVariables false
set_option linter.unusedSimpArgs false

theorem mem_take_at {α : Type} {l : List α} {k i : Nat} (hk : k < l.length) (hki : k < i) : l[k] ∈ l.take i :=
  List.mem_iff_getElem.2 ⟨k, by rw [List.length_take]; omega, by rw [List.getElem_take]⟩
theorem not_mem_missed {l : List ByteArray} {s : ByteArray} {i : Nat} (h : Missed l s i) : s ∉ l.take i := fun hm => by
  obtain ⟨k, hk, he⟩ := List.mem_iff_getElem.1 hm
  rw [List.length_take] at hk
  rw [List.getElem_take] at he
  exact h.2 k (by omega) (by omega) he

set_option maxHeartbeats 8000000 in
theorem wrong_any : ∀ (n : Nd) (d : Int) (w : World), n.In w w.heap.size → 1 ≤ d → d ≤ 17 → ∀ E : Int, wrongN n d = E → Calls Try.prog 22 #[n.val, .int .i64 d] w fun e w' => e = .returned (.int .i64 E) ∧ Below w.heap.size w w' := by
  refine Nd.ind ?_
  intro n ih d w hin hd0 hd1 E hE
  obtain ⟨E1, h1⟩ : ∃ E1, aloneE n d = E1 := ⟨_, rfl⟩
  obtain ⟨r1, hr1⟩ : ∃ r, nameOk n d = r := ⟨_, rfl⟩
  have HE : Hid ((if E1 = 0 then wrongL n.kids (d + 1) else E1) = E) := by rw [← h1, ← wrongN_mk]; exact hE
  have HE1 : Hid ((if 16 < d then 6 else if r1 = false then 5 else if n.props.any misP = true then 5 else if twiceB (n.props.map PV.name) = true then 9 else if twiceB (n.kids.map Nd.name) = true then 9 else 0) = E1) := by
    rw [← hr1]; exact h1
  have HV : Hid (∀ v : Int, v ≠ 0 → E1 = v → E = v) := fun v hv h => by rw [← HE.out, if_neg (by rw [h]; exact hv), h]
  have HI := Lib.hid hin
  have IH := Lib.hid ih
  obtain ⟨hl, hm⟩ := hin.klen
  obtain ⟨hlp, hmp⟩ := hin.plen
  have hnz := hin.name_le.1
  clear hin ih hE h1
  obtain ⟨nm, pa, pc, ps, ka, kc, ks⟩ := n
  replace hl : ks.length ≤ kc := hl
  replace hm : kc ≤ 9223372036854775807 := hm
  replace hlp : ps.length ≤ pc := hlp
  replace hmp : pc ≤ 9223372036854775807 := hmp
  replace hnz : nm.size ≤ 140737488351232 := hnz
  replace HE : Hid ((if E1 = 0 then wrongL ks (d + 1) else E1) = E) := HE
  replace HE1 : Hid ((if 16 < d then 6 else if r1 = false then 5 else if ps.any misP = true then 5 else if twiceB (ps.map PV.name) = true then 9 else if twiceB (ks.map Nd.name) = true then 9 else 0) = E1) := HE1
  have HPM := Lib.hid (show (ps.map PV.name).length = ps.length from List.length_map _)
  have HKM := Lib.hid (show (ks.map Nd.name).length = ks.length from List.length_map _)
  show Calls _ _ #[.agg #[.string nm, .slice pa ps.length pc, .slice ka ks.length kc], .int .i64 d] _ _
  have HB1 := Lib.hid ((Below.refl w.heap.size w).alloc (Nat.le_refl _) (.cells #[Value.string nm, .slice pa ps.length pc, .slice ka ks.length kc] 27))
  by_cases h16 : 16 < d
  · obtain rfl : E = 6 := HV.out 6 (by omega) (by rw [← HE1.out, if_pos h16])
    go_enter Try.func22, Try.ntmps22
    go_wp2
    go_ret
    exact ⟨rfl, HB1.out⟩
  · have F16 := Lib.hid h16
    have hd16 : ¬ (16 < d) := h16
    clear h16
    have BX : Hid (∀ W : World, Below (w.heap.size + 1) (w.alloc (.cells #[Value.string nm, .slice pa ps.length pc, .slice ka ks.length kc] 27)) W → W.cell? ⟨w.heap.size, 0, none⟩ = some (.string nm) ∧ W.cell? ⟨w.heap.size, 1, none⟩ = some (.slice pa ps.length pc) ∧ W.cell? ⟨w.heap.size, 2, none⟩ = some (.slice ka ks.length kc)) := fun W h =>
      ⟨(h.cell (Nat.lt_succ_self _)).trans (World.cell?_alloc_new _ _ _ _), (h.cell (Nat.lt_succ_self _)).trans (World.cell?_alloc_new _ _ _ _), (h.cell (Nat.lt_succ_self _)).trans (World.cell?_alloc_new _ _ _ _)⟩
    by_cases hd : d = 1
    · subst hd
      have hr1' : nm.toList.isEmpty = r1 := by rw [← hr1, nameOk, if_pos rfl]; rfl
      clear hr1
      cases r1
      · obtain rfl : E = 5 := HV.out 5 (by omega) (by rw [← HE1.out, if_neg (by have := F16.out; omega), if_pos rfl])
        go_enter Try.func22, Try.ntmps22
        go_wp2
        go_ret
        exact ⟨rfl, HB1.out⟩
      · go_enter Try.func22, Try.ntmps22
        go_wp2_with fail
        clear hr1'
        go_loopw [34] (fun i wr => ∃ k : Nat, k ≤ ps.length ∧ i = .int .i64 k ∧ Good misP ps k ∧ Below (w.heap.size + 1) (w.alloc (.cells #[Value.string nm, .slice pa ps.length pc, .slice ka ks.length kc] 27)) wr) (fun i _ => ps.length - (intOf i).toNat)
        case atStart => exact ⟨0, Nat.zero_le _, rfl, Good.zero _ _, Below.refl _ _⟩
        case round =>
          obtain ⟨k, hk, rfl, hgood, hb⟩ := hrel
          have HA := Lib.hid hgood
          have HB0 := Lib.hid hb
          have HB := Lib.hid (HB1.out.trans (hb.mono (Nat.le_succ _)))
          obtain ⟨bx0, bx1, bx2⟩ := BX.out _ hb
          clear hgood hb
          by_cases hlt : k < ps.length
          · obtain ⟨b, o, e, hb, c0, c1⟩ := (HI.out.under HB.out).pcell (i := k) hlt
            obtain rfl : pa = _ := e
            replace c0 : _ = some (Value.string ps[k].name) := c0
            clear c1
            obtain ⟨q, hq⟩ : ∃ q, propB ps[k].name = q := ⟨_, rfl⟩
            have C := Lib.hid (refpropB_any ps[k].name wr (HI.out.prop (List.getElem_mem hlt)).1.1 q hq)
            have HQ : Hid (misP ps[k] = !q) := by show misP _ = _; rw [misP, hq]
            clear hq
            cases q
            · obtain rfl : E = 5 := HV.out 5 (by omega) (by rw [← HE1.out, if_neg (by have := F16.out; omega), if_neg (by simp), if_pos (any_at hlt HQ.out)])
              go_wp2_with fail
              refine C.out.mono ?_
              rintro e w' ⟨rfl, rfl⟩
              go_wp2
              go_ret
              exact ⟨rfl, HB.out⟩
            · go_wp2_with fail
              refine C.out.mono ?_
              rintro e w' ⟨rfl, rfl⟩
              go_wp2
              go_roundw
              case rel => exact ⟨k + 1, by omega, by go_num, HA.out.succ hlt HQ.out, HB0.out⟩
              case measure => simp [intOf]; omega
          · have FP : Hid (ps.any misP = false) := HA.out.all hlt
            go_wp2_with fail
            go_loopw [49] (fun i wr => ∃ k : Nat, k ≤ ps.length ∧ i = .int .i64 k ∧ ((ps.map PV.name).take k).Nodup ∧ Below (w.heap.size + 1) (w.alloc (.cells #[Value.string nm, .slice pa ps.length pc, .slice ka ks.length kc] 27)) wr) (fun i _ => ps.length - (intOf i).toNat)
            case atStart => exact ⟨0, Nat.zero_le _, rfl, nodup_zero _, HB0.out⟩
            case round =>
              clear bx0 bx1 bx2 HB0
              obtain ⟨i, hi, rfl, hnd, hb⟩ := hrel
              have HN := Lib.hid hnd
              have HB0 := Lib.hid hb
              obtain ⟨bx0, bx1, bx2⟩ := BX.out _ hb
              clear hnd hb
              by_cases hlt : i < ps.length
              · go_wp2_with fail
                go_loopw [53] (fun j wr => ∃ k : Nat, k ≤ i ∧ j = .int .i64 k ∧ Missed (ps.map PV.name) ps[i].name k ∧ Below (w.heap.size + 1) (w.alloc (.cells #[Value.string nm, .slice pa ps.length pc, .slice ka ks.length kc] 27)) wr) (fun j _ => i - (intOf j).toNat)
                case atStart => exact ⟨0, Nat.zero_le _, rfl, Missed.zero _ _, HB0.out⟩
                case round =>
                  clear bx0 bx1 bx2 HB0
                  obtain ⟨k, hk, rfl, hmiss, hb⟩ := hrel
                  have HA := Lib.hid hmiss
                  have HB0 := Lib.hid hb
                  have HB := Lib.hid (HB1.out.trans (hb.mono (Nat.le_succ _)))
                  obtain ⟨bx0, bx1, bx2⟩ := BX.out _ hb
                  clear hmiss hb
                  by_cases hlt' : k < i
                  · have hkl : k < ps.length := by omega
                    have HKN : Hid ((ps.map PV.name)[k]'(by rw [HPM.out]; exact hkl) = ps[k].name) := List.getElem_map _
                    have HIN : Hid ((ps.map PV.name)[i]'(by rw [HPM.out]; exact hlt) = ps[i].name) := List.getElem_map _
                    obtain ⟨b, o, e, hb, c0, cc⟩ := (HI.out.under HB.out).pcell (i := k) hkl
                    obtain ⟨b', o', e', hb', d0, dd⟩ := (HI.out.under HB.out).pcell (i := i) hlt
                    replace e : pa = _ := e
                    replace e' : pa = _ := e'
                    obtain ⟨rfl, rfl⟩ : b' = b ∧ o' = o := by have := e'.symm.trans e; simpa using this
                    subst e
                    replace c0 : _ = some (Value.string ps[k].name) := c0
                    replace d0 : _ = some (Value.string ps[i].name) := d0
                    clear cc dd e'
                    by_cases hx : ps[k].name = ps[i].name
                    · have hx1 : (ps[k].name.toList == ps[i].name.toList) = true := by rw [hx]; simp
                      have HT : Hid (twiceB (ps.map PV.name) = true) := twice_hit (k := i) (by rw [HPM.out]; exact hlt) (by rw [HIN.out, ← hx, ← HKN.out]; exact mem_take_at (by rw [HPM.out]; exact hkl) hlt')
                      obtain rfl : E = 9 := HV.out 9 (by omega) (by rw [← HE1.out, if_neg (by have := F16.out; omega), if_neg (by simp), if_neg (by rw [FP.out]; simp), if_pos HT.out])
                      clear hx
                      go_wp2_with fail
                      go_region
                      go_wp2
                      go_ret
                      exact ⟨rfl, HB.out.drew⟩
                    · have hx1 : (ps[k].name.toList == ps[i].name.toList) = false := str_ne hx
                      have HF := Lib.hid (HA.out.succ (by rw [HPM.out]; exact hkl) (by rw [HKN.out]; exact hx))
                      clear hx
                      go_wp2_with fail
                      go_region
                      go_wp2
                      go_roundw
                      case rel => exact ⟨k + 1, by omega, by go_num, HF.out, HB0.out.drew⟩
                      case measure => simp [intOf]; omega
                  · have HIN : Hid ((ps.map PV.name)[i]'(by rw [HPM.out]; exact hlt) = ps[i].name) := List.getElem_map _
                    have hki : k = i := by omega
                    have HNX : Hid (((ps.map PV.name).take (i + 1)).Nodup) := nodup_succ HN.out (by rw [HPM.out]; exact hlt) (by rw [HIN.out]; exact not_mem_missed (hki ▸ HA.out))
                    clear hki
                    go_wp2
                    go_roundw
                    case rel => exact ⟨i + 1, by omega, by go_num, HNX.out, HB0.out⟩
                    case measure => simp [intOf]; omega
              · have FTp : Hid (twiceB (ps.map PV.name) = false) := twice_all HN.out (by rw [HPM.out]; exact hlt)
                have HB := Lib.hid (HB1.out.trans (HB0.out.mono (Nat.le_succ _)))
                go_wp2_with fail
                go_loopw [74] (fun i wr => ∃ k : Nat, k ≤ ks.length ∧ i = .int .i64 k ∧ ((ks.map Nd.name).take k).Nodup ∧ Below (w.heap.size + 1) (w.alloc (.cells #[Value.string nm, .slice pa ps.length pc, .slice ka ks.length kc] 27)) wr) (fun i _ => ks.length - (intOf i).toNat)
                case atStart => exact ⟨0, Nat.zero_le _, rfl, nodup_zero _, HB0.out⟩
                case round =>
                  clear bx0 bx1 bx2 HB0
                  obtain ⟨i, hi, rfl, hnd, hb⟩ := hrel
                  have HN := Lib.hid hnd
                  have HB0 := Lib.hid hb
                  obtain ⟨bx0, bx1, bx2⟩ := BX.out _ hb
                  clear hnd hb
                  by_cases hlt : i < ks.length
                  · go_wp2_with fail
                    go_loopw [78] (fun j wr => ∃ k : Nat, k ≤ i ∧ j = .int .i64 k ∧ Missed (ks.map Nd.name) ks[i].name k ∧ Below (w.heap.size + 1) (w.alloc (.cells #[Value.string nm, .slice pa ps.length pc, .slice ka ks.length kc] 27)) wr) (fun j _ => i - (intOf j).toNat)
                    case atStart => exact ⟨0, Nat.zero_le _, rfl, Missed.zero _ _, HB0.out⟩
                    case round =>
                      clear bx0 bx1 bx2 HB0
                      obtain ⟨k, hk, rfl, hmiss, hb⟩ := hrel
                      have HA := Lib.hid hmiss
                      have HB0 := Lib.hid hb
                      have HB := Lib.hid (HB1.out.trans (hb.mono (Nat.le_succ _)))
                      obtain ⟨bx0, bx1, bx2⟩ := BX.out _ hb
                      clear hmiss hb
                      by_cases hlt' : k < i
                      · have hkl : k < ks.length := by omega
                        have HKN : Hid ((ks.map Nd.name)[k]'(by rw [HKM.out]; exact hkl) = ks[k].name) := List.getElem_map _
                        have HIN : Hid ((ks.map Nd.name)[i]'(by rw [HKM.out]; exact hlt) = ks[i].name) := List.getElem_map _
                        obtain ⟨b, o, e, hb, c0, cc⟩ := (HI.out.under HB.out).kcell (i := k) hkl
                        obtain ⟨b', o', e', hb', d0, dd⟩ := (HI.out.under HB.out).kcell (i := i) hlt
                        replace e : ka = _ := e
                        replace e' : ka = _ := e'
                        obtain ⟨rfl, rfl⟩ : b' = b ∧ o' = o := by have := e'.symm.trans e; simpa using this
                        subst e
                        replace c0 : _ = some (Value.string ks[k].name) := c0
                        replace d0 : _ = some (Value.string ks[i].name) := d0
                        clear cc dd e'
                        by_cases hx : ks[k].name = ks[i].name
                        · have hx1 : (ks[k].name.toList == ks[i].name.toList) = true := by rw [hx]; simp
                          have HT : Hid (twiceB (ks.map Nd.name) = true) := twice_hit (k := i) (by rw [HKM.out]; exact hlt) (by rw [HIN.out, ← hx, ← HKN.out]; exact mem_take_at (by rw [HKM.out]; exact hkl) hlt')
                          obtain rfl : E = 9 := HV.out 9 (by omega) (by rw [← HE1.out, if_neg (by have := F16.out; omega), if_neg (by simp), if_neg (by rw [FP.out]; simp), if_neg (by rw [FTp.out]; simp), if_pos HT.out])
                          clear hx
                          go_wp2_with fail
                          go_region
                          go_wp2
                          go_ret
                          exact ⟨rfl, HB.out.drew⟩
                        · have hx1 : (ks[k].name.toList == ks[i].name.toList) = false := str_ne hx
                          have HF := Lib.hid (HA.out.succ (by rw [HKM.out]; exact hkl) (by rw [HKN.out]; exact hx))
                          clear hx
                          go_wp2_with fail
                          go_region
                          go_wp2
                          go_roundw
                          case rel => exact ⟨k + 1, by omega, by go_num, HF.out, HB0.out.drew⟩
                          case measure => simp [intOf]; omega
                      · have HIN : Hid ((ks.map Nd.name)[i]'(by rw [HKM.out]; exact hlt) = ks[i].name) := List.getElem_map _
                        have hki : k = i := by omega
                        have HNX : Hid (((ks.map Nd.name).take (i + 1)).Nodup) := nodup_succ HN.out (by rw [HKM.out]; exact hlt) (by rw [HIN.out]; exact not_mem_missed (hki ▸ HA.out))
                        clear hki
                        go_wp2
                        go_roundw
                        case rel => exact ⟨i + 1, by omega, by go_num, HNX.out, HB0.out⟩
                        case measure => simp [intOf]; omega
                  · have FTk : Hid (twiceB (ks.map Nd.name) = false) := twice_all HN.out (by rw [HKM.out]; exact hlt)
                    have HB := Lib.hid (HB1.out.trans (HB0.out.mono (Nat.le_succ _)))
                    go_wp2_with fail
                    have HF : Hid (wrongL ks 2 = E) := by
                      have h0 : E1 = 0 := by rw [← HE1.out, if_neg (by have := F16.out; omega), if_neg (by simp), if_neg (by rw [FP.out]; simp), if_neg (by rw [FTp.out]; simp), if_neg (by rw [FTk.out]; simp)]
                      have := HE.out
                      rwa [if_pos h0] at this
                    go_loopw [99] (fun i wr => ∃ k : Nat, k ≤ ks.length ∧ i = .int .i64 k ∧ Fine ks 2 k ∧ Below (w.heap.size + 1) (w.alloc (.cells #[Value.string nm, .slice pa ps.length pc, .slice ka ks.length kc] 27)) wr) (fun i _ => ks.length - (intOf i).toNat)
                    case atStart => exact ⟨0, Nat.zero_le _, rfl, Fine.zero _ _, HB0.out⟩
                    case round =>
                      clear bx0 bx1 bx2 HB0 HB
                      obtain ⟨k, hk, rfl, hfine, hb⟩ := hrel
                      have HA := Lib.hid hfine
                      have HB0 := Lib.hid hb
                      have HB := Lib.hid (HB1.out.trans (hb.mono (Nat.le_succ _)))
                      obtain ⟨bx0, bx1, bx2⟩ := BX.out _ hb
                      clear hfine hb
                      by_cases hlt : k < ks.length
                      · obtain ⟨b, o, e, hb, c0, c1, c2⟩ := (HI.out.under HB.out).kcell (i := k) hlt
                        obtain rfl : ka = _ := e
                        replace c0 : _ = some (Value.string ks[k].name) := c0
                        replace c1 : _ = some (Value.slice ks[k].pa ks[k].props.length ks[k].pc) := c1
                        replace c2 : _ = some (Value.slice ks[k].ka ks[k].kids.length ks[k].kc) := c2
                        obtain ⟨F, hF⟩ : ∃ F, wrongN ks[k] 2 = F := ⟨_, rfl⟩
                        have C := Lib.hid (IH.out ks[k] (List.getElem_mem hlt) 2 _ (((HI.out.kid (List.getElem_mem hlt)).under HB.out).more HB.out.size) (by omega) (by omega) F hF)
                        have HQ := Lib.hid hF
                        clear hF
                        go_wp2_with fail
                        refine C.out.mono ?_
                        rintro e w' ⟨rfl, hb'⟩
                        have HB3 := Lib.hid (HB0.out.trans (hb'.mono (by have := HB0.out.size; simpa using this)))
                        have HB4 := Lib.hid (HB.out.trans (hb'.mono HB.out.size))
                        clear hb'
                        by_cases hF0 : F = 0
                        · subst hF0
                          go_wp2
                          go_roundw
                          case rel => exact ⟨k + 1, by omega, by go_num, HA.out.succ hlt HQ.out, HB3.out⟩
                          case measure => simp [intOf]; omega
                        · have f1 : (F == 0) = false := by rw [beq_eq_false_iff_ne]; exact hF0
                          have f2 : (F != 0) = true := by rw [bne, f1]; rfl
                          obtain rfl : E = F := by rw [← HF.out, wrongL_hit 2 ks k hlt HA.out (by rw [HQ.out]; exact hF0)]; exact HQ.out
                          clear hF0
                          go_wp2
                          go_ret
                          exact ⟨rfl, HB4.out⟩
                      · obtain rfl : E = 0 := by rw [← HF.out]; exact wrongL_all 2 ks (fun j hj => HA.out j hj (by omega))
                        go_wp2
                        go_ret
                        exact ⟨rfl, HB.out⟩
    · have hd2 : (d == 1) = false := by rw [beq_eq_false_iff_ne]; exact hd
      have hd3 : 1 < d := by omega
      have CN := Lib.hid (fun w => refnodeB_any nm w hnz r1 (by rw [← hr1, nameOk, if_neg hd]; rfl))
      clear hr1 hd
      cases r1
      · obtain rfl : E = 5 := HV.out 5 (by omega) (by rw [← HE1.out, if_neg (by have := F16.out; omega), if_pos rfl])
        go_enter Try.func22, Try.ntmps22
        go_wp2_with fail
        refine (CN.out _).mono ?_
        rintro e w' ⟨rfl, rfl⟩
        go_wp2
        go_ret
        exact ⟨rfl, HB1.out⟩
      · go_enter Try.func22, Try.ntmps22
        go_wp2_with fail
        refine (CN.out _).mono ?_
        rintro e w' ⟨rfl, rfl⟩
        go_wp2_with fail
        go_loopw [34] (fun i wr => ∃ k : Nat, k ≤ ps.length ∧ i = .int .i64 k ∧ Good misP ps k ∧ Below (w.heap.size + 1) (w.alloc (.cells #[Value.string nm, .slice pa ps.length pc, .slice ka ks.length kc] 27)) wr) (fun i _ => ps.length - (intOf i).toNat)
        case atStart => exact ⟨0, Nat.zero_le _, rfl, Good.zero _ _, Below.refl _ _⟩
        case round =>
          obtain ⟨k, hk, rfl, hgood, hb⟩ := hrel
          have HA := Lib.hid hgood
          have HB0 := Lib.hid hb
          have HB := Lib.hid (HB1.out.trans (hb.mono (Nat.le_succ _)))
          obtain ⟨bx0, bx1, bx2⟩ := BX.out _ hb
          clear hgood hb
          by_cases hlt : k < ps.length
          · obtain ⟨b, o, e, hb, c0, c1⟩ := (HI.out.under HB.out).pcell (i := k) hlt
            obtain rfl : pa = _ := e
            replace c0 : _ = some (Value.string ps[k].name) := c0
            clear c1
            obtain ⟨q, hq⟩ : ∃ q, propB ps[k].name = q := ⟨_, rfl⟩
            have C := Lib.hid (refpropB_any ps[k].name wr (HI.out.prop (List.getElem_mem hlt)).1.1 q hq)
            have HQ : Hid (misP ps[k] = !q) := by show misP _ = _; rw [misP, hq]
            clear hq
            cases q
            · obtain rfl : E = 5 := HV.out 5 (by omega) (by rw [← HE1.out, if_neg (by have := F16.out; omega), if_neg (by simp), if_pos (any_at hlt HQ.out)])
              go_wp2_with fail
              refine C.out.mono ?_
              rintro e w' ⟨rfl, rfl⟩
              go_wp2
              go_ret
              exact ⟨rfl, HB.out⟩
            · go_wp2_with fail
              refine C.out.mono ?_
              rintro e w' ⟨rfl, rfl⟩
              go_wp2
              go_roundw
              case rel => exact ⟨k + 1, by omega, by go_num, HA.out.succ hlt HQ.out, HB0.out⟩
              case measure => simp [intOf]; omega
          · have FP : Hid (ps.any misP = false) := HA.out.all hlt
            go_wp2_with fail
            go_loopw [49] (fun i wr => ∃ k : Nat, k ≤ ps.length ∧ i = .int .i64 k ∧ ((ps.map PV.name).take k).Nodup ∧ Below (w.heap.size + 1) (w.alloc (.cells #[Value.string nm, .slice pa ps.length pc, .slice ka ks.length kc] 27)) wr) (fun i _ => ps.length - (intOf i).toNat)
            case atStart => exact ⟨0, Nat.zero_le _, rfl, nodup_zero _, HB0.out⟩
            case round =>
              clear bx0 bx1 bx2 HB0
              obtain ⟨i, hi, rfl, hnd, hb⟩ := hrel
              have HN := Lib.hid hnd
              have HB0 := Lib.hid hb
              obtain ⟨bx0, bx1, bx2⟩ := BX.out _ hb
              clear hnd hb
              by_cases hlt : i < ps.length
              · go_wp2_with fail
                go_loopw [53] (fun j wr => ∃ k : Nat, k ≤ i ∧ j = .int .i64 k ∧ Missed (ps.map PV.name) ps[i].name k ∧ Below (w.heap.size + 1) (w.alloc (.cells #[Value.string nm, .slice pa ps.length pc, .slice ka ks.length kc] 27)) wr) (fun j _ => i - (intOf j).toNat)
                case atStart => exact ⟨0, Nat.zero_le _, rfl, Missed.zero _ _, HB0.out⟩
                case round =>
                  clear bx0 bx1 bx2 HB0
                  obtain ⟨k, hk, rfl, hmiss, hb⟩ := hrel
                  have HA := Lib.hid hmiss
                  have HB0 := Lib.hid hb
                  have HB := Lib.hid (HB1.out.trans (hb.mono (Nat.le_succ _)))
                  obtain ⟨bx0, bx1, bx2⟩ := BX.out _ hb
                  clear hmiss hb
                  by_cases hlt' : k < i
                  · have hkl : k < ps.length := by omega
                    have HKN : Hid ((ps.map PV.name)[k]'(by rw [HPM.out]; exact hkl) = ps[k].name) := List.getElem_map _
                    have HIN : Hid ((ps.map PV.name)[i]'(by rw [HPM.out]; exact hlt) = ps[i].name) := List.getElem_map _
                    obtain ⟨b, o, e, hb, c0, cc⟩ := (HI.out.under HB.out).pcell (i := k) hkl
                    obtain ⟨b', o', e', hb', d0, dd⟩ := (HI.out.under HB.out).pcell (i := i) hlt
                    replace e : pa = _ := e
                    replace e' : pa = _ := e'
                    obtain ⟨rfl, rfl⟩ : b' = b ∧ o' = o := by have := e'.symm.trans e; simpa using this
                    subst e
                    replace c0 : _ = some (Value.string ps[k].name) := c0
                    replace d0 : _ = some (Value.string ps[i].name) := d0
                    clear cc dd e'
                    by_cases hx : ps[k].name = ps[i].name
                    · have hx1 : (ps[k].name.toList == ps[i].name.toList) = true := by rw [hx]; simp
                      have HT : Hid (twiceB (ps.map PV.name) = true) := twice_hit (k := i) (by rw [HPM.out]; exact hlt) (by rw [HIN.out, ← hx, ← HKN.out]; exact mem_take_at (by rw [HPM.out]; exact hkl) hlt')
                      obtain rfl : E = 9 := HV.out 9 (by omega) (by rw [← HE1.out, if_neg (by have := F16.out; omega), if_neg (by simp), if_neg (by rw [FP.out]; simp), if_pos HT.out])
                      clear hx
                      go_wp2_with fail
                      go_region
                      go_wp2
                      go_ret
                      exact ⟨rfl, HB.out.drew⟩
                    · have hx1 : (ps[k].name.toList == ps[i].name.toList) = false := str_ne hx
                      have HF := Lib.hid (HA.out.succ (by rw [HPM.out]; exact hkl) (by rw [HKN.out]; exact hx))
                      clear hx
                      go_wp2_with fail
                      go_region
                      go_wp2
                      go_roundw
                      case rel => exact ⟨k + 1, by omega, by go_num, HF.out, HB0.out.drew⟩
                      case measure => simp [intOf]; omega
                  · have HIN : Hid ((ps.map PV.name)[i]'(by rw [HPM.out]; exact hlt) = ps[i].name) := List.getElem_map _
                    have hki : k = i := by omega
                    have HNX : Hid (((ps.map PV.name).take (i + 1)).Nodup) := nodup_succ HN.out (by rw [HPM.out]; exact hlt) (by rw [HIN.out]; exact not_mem_missed (hki ▸ HA.out))
                    clear hki
                    go_wp2
                    go_roundw
                    case rel => exact ⟨i + 1, by omega, by go_num, HNX.out, HB0.out⟩
                    case measure => simp [intOf]; omega
              · have FTp : Hid (twiceB (ps.map PV.name) = false) := twice_all HN.out (by rw [HPM.out]; exact hlt)
                have HB := Lib.hid (HB1.out.trans (HB0.out.mono (Nat.le_succ _)))
                go_wp2_with fail
                go_loopw [74] (fun i wr => ∃ k : Nat, k ≤ ks.length ∧ i = .int .i64 k ∧ ((ks.map Nd.name).take k).Nodup ∧ Below (w.heap.size + 1) (w.alloc (.cells #[Value.string nm, .slice pa ps.length pc, .slice ka ks.length kc] 27)) wr) (fun i _ => ks.length - (intOf i).toNat)
                case atStart => exact ⟨0, Nat.zero_le _, rfl, nodup_zero _, HB0.out⟩
                case round =>
                  clear bx0 bx1 bx2 HB0
                  obtain ⟨i, hi, rfl, hnd, hb⟩ := hrel
                  have HN := Lib.hid hnd
                  have HB0 := Lib.hid hb
                  obtain ⟨bx0, bx1, bx2⟩ := BX.out _ hb
                  clear hnd hb
                  by_cases hlt : i < ks.length
                  · go_wp2_with fail
                    go_loopw [78] (fun j wr => ∃ k : Nat, k ≤ i ∧ j = .int .i64 k ∧ Missed (ks.map Nd.name) ks[i].name k ∧ Below (w.heap.size + 1) (w.alloc (.cells #[Value.string nm, .slice pa ps.length pc, .slice ka ks.length kc] 27)) wr) (fun j _ => i - (intOf j).toNat)
                    case atStart => exact ⟨0, Nat.zero_le _, rfl, Missed.zero _ _, HB0.out⟩
                    case round =>
                      clear bx0 bx1 bx2 HB0
                      obtain ⟨k, hk, rfl, hmiss, hb⟩ := hrel
                      have HA := Lib.hid hmiss
                      have HB0 := Lib.hid hb
                      have HB := Lib.hid (HB1.out.trans (hb.mono (Nat.le_succ _)))
                      obtain ⟨bx0, bx1, bx2⟩ := BX.out _ hb
                      clear hmiss hb
                      by_cases hlt' : k < i
                      · have hkl : k < ks.length := by omega
                        have HKN : Hid ((ks.map Nd.name)[k]'(by rw [HKM.out]; exact hkl) = ks[k].name) := List.getElem_map _
                        have HIN : Hid ((ks.map Nd.name)[i]'(by rw [HKM.out]; exact hlt) = ks[i].name) := List.getElem_map _
                        obtain ⟨b, o, e, hb, c0, cc⟩ := (HI.out.under HB.out).kcell (i := k) hkl
                        obtain ⟨b', o', e', hb', d0, dd⟩ := (HI.out.under HB.out).kcell (i := i) hlt
                        replace e : ka = _ := e
                        replace e' : ka = _ := e'
                        obtain ⟨rfl, rfl⟩ : b' = b ∧ o' = o := by have := e'.symm.trans e; simpa using this
                        subst e
                        replace c0 : _ = some (Value.string ks[k].name) := c0
                        replace d0 : _ = some (Value.string ks[i].name) := d0
                        clear cc dd e'
                        by_cases hx : ks[k].name = ks[i].name
                        · have hx1 : (ks[k].name.toList == ks[i].name.toList) = true := by rw [hx]; simp
                          have HT : Hid (twiceB (ks.map Nd.name) = true) := twice_hit (k := i) (by rw [HKM.out]; exact hlt) (by rw [HIN.out, ← hx, ← HKN.out]; exact mem_take_at (by rw [HKM.out]; exact hkl) hlt')
                          obtain rfl : E = 9 := HV.out 9 (by omega) (by rw [← HE1.out, if_neg (by have := F16.out; omega), if_neg (by simp), if_neg (by rw [FP.out]; simp), if_neg (by rw [FTp.out]; simp), if_pos HT.out])
                          clear hx
                          go_wp2_with fail
                          go_region
                          go_wp2
                          go_ret
                          exact ⟨rfl, HB.out.drew⟩
                        · have hx1 : (ks[k].name.toList == ks[i].name.toList) = false := str_ne hx
                          have HF := Lib.hid (HA.out.succ (by rw [HKM.out]; exact hkl) (by rw [HKN.out]; exact hx))
                          clear hx
                          go_wp2_with fail
                          go_region
                          go_wp2
                          go_roundw
                          case rel => exact ⟨k + 1, by omega, by go_num, HF.out, HB0.out.drew⟩
                          case measure => simp [intOf]; omega
                      · have HIN : Hid ((ks.map Nd.name)[i]'(by rw [HKM.out]; exact hlt) = ks[i].name) := List.getElem_map _
                        have hki : k = i := by omega
                        have HNX : Hid (((ks.map Nd.name).take (i + 1)).Nodup) := nodup_succ HN.out (by rw [HKM.out]; exact hlt) (by rw [HIN.out]; exact not_mem_missed (hki ▸ HA.out))
                        clear hki
                        go_wp2
                        go_roundw
                        case rel => exact ⟨i + 1, by omega, by go_num, HNX.out, HB0.out⟩
                        case measure => simp [intOf]; omega
                  · have FTk : Hid (twiceB (ks.map Nd.name) = false) := twice_all HN.out (by rw [HKM.out]; exact hlt)
                    have HB := Lib.hid (HB1.out.trans (HB0.out.mono (Nat.le_succ _)))
                    go_wp2_with fail
                    have HF : Hid (wrongL ks (d + 1) = E) := by
                      have h0 : E1 = 0 := by rw [← HE1.out, if_neg (by have := F16.out; omega), if_neg (by simp), if_neg (by rw [FP.out]; simp), if_neg (by rw [FTp.out]; simp), if_neg (by rw [FTk.out]; simp)]
                      have := HE.out
                      rwa [if_pos h0] at this
                    go_loopw [99] (fun i wr => ∃ k : Nat, k ≤ ks.length ∧ i = .int .i64 k ∧ Fine ks (d + 1) k ∧ Below (w.heap.size + 1) (w.alloc (.cells #[Value.string nm, .slice pa ps.length pc, .slice ka ks.length kc] 27)) wr) (fun i _ => ks.length - (intOf i).toNat)
                    case atStart => exact ⟨0, Nat.zero_le _, rfl, Fine.zero _ _, HB0.out⟩
                    case round =>
                      clear bx0 bx1 bx2 HB0 HB
                      obtain ⟨k, hk, rfl, hfine, hb⟩ := hrel
                      have HA := Lib.hid hfine
                      have HB0 := Lib.hid hb
                      have HB := Lib.hid (HB1.out.trans (hb.mono (Nat.le_succ _)))
                      obtain ⟨bx0, bx1, bx2⟩ := BX.out _ hb
                      clear hfine hb
                      by_cases hlt : k < ks.length
                      · obtain ⟨b, o, e, hb, c0, c1, c2⟩ := (HI.out.under HB.out).kcell (i := k) hlt
                        obtain rfl : ka = _ := e
                        replace c0 : _ = some (Value.string ks[k].name) := c0
                        replace c1 : _ = some (Value.slice ks[k].pa ks[k].props.length ks[k].pc) := c1
                        replace c2 : _ = some (Value.slice ks[k].ka ks[k].kids.length ks[k].kc) := c2
                        obtain ⟨F, hF⟩ : ∃ F, wrongN ks[k] (d + 1) = F := ⟨_, rfl⟩
                        have C := Lib.hid (IH.out ks[k] (List.getElem_mem hlt) (d + 1) _ (((HI.out.kid (List.getElem_mem hlt)).under HB.out).more HB.out.size) (by omega) (by omega) F hF)
                        have HQ := Lib.hid hF
                        clear hF
                        go_wp2_with fail
                        refine C.out.mono ?_
                        rintro e w' ⟨rfl, hb'⟩
                        have HB3 := Lib.hid (HB0.out.trans (hb'.mono (by have := HB0.out.size; simpa using this)))
                        have HB4 := Lib.hid (HB.out.trans (hb'.mono HB.out.size))
                        clear hb'
                        by_cases hF0 : F = 0
                        · subst hF0
                          go_wp2
                          go_roundw
                          case rel => exact ⟨k + 1, by omega, by go_num, HA.out.succ hlt HQ.out, HB3.out⟩
                          case measure => simp [intOf]; omega
                        · have f1 : (F == 0) = false := by rw [beq_eq_false_iff_ne]; exact hF0
                          have f2 : (F != 0) = true := by rw [bne, f1]; rfl
                          obtain rfl : E = F := by rw [← HF.out, wrongL_hit (d + 1) ks k hlt HA.out (by rw [HQ.out]; exact hF0)]; exact HQ.out
                          clear hF0
                          go_wp2
                          go_ret
                          exact ⟨rfl, HB4.out⟩
                      · obtain rfl : E = 0 := by rw [← HF.out]; exact wrongL_all (d + 1) ks (fun j hj => HA.out j hj (by omega))
                        go_wp2
                        go_ret
                        exact ⟨rfl, HB.out⟩
end Go.Proofs.Ytapfcbcojnplaaa

/-! Layer 3: a tree as it lies in memory; whether there are too many. -/
namespace Go.Proofs.Ytapfcbcojnplaaa
open Go.RowKit Go.ChangeShapes Go.WideShapes Go.Deep
set_option linter.unusedVariables false
set_option linter.unusedSimpArgs false

/-- A tree as it lies: its reserves' slice, and its root. -/
structure Tr where
  boot : Int
  ra : Option Addr
  rc : Nat
  rs : List (Int × Int)
  root : Nd

def Tr.rv (t : Tr) : Value := .slice t.ra t.rs.length t.rc
def Tr.val (t : Tr) : Value := .agg #[.int .u32 t.boot, t.rv, .string t.root.name, t.root.pv, t.root.kv]

/-- The cells of a row of reserves. -/
def RRow (w : World) (B : Nat) (a : Option Addr) (l : List (Int × Int)) : Prop :=
  0 < l.length → ∃ b o, a = some ⟨b, o, none⟩ ∧ b < B ∧ ∀ i (h : i < l.length), w.cell? ⟨b, o + i * 2, none⟩ = some (.int .u64 l[i].1) ∧ w.cell? ⟨b, o + i * 2 + 1, none⟩ = some (.int .u64 l[i].2)

structure Tr.In (w : World) (B : Nat) (t : Tr) : Prop where
  boot : 0 ≤ t.boot ∧ t.boot ≤ 4294967295
  len : t.rs.length ≤ t.rc ∧ t.rc ≤ 9223372036854775807 ∧ t.rs.length * 16 ≤ 140737488351232
  row : RRow w B t.ra t.rs
  nums : ∀ r ∈ t.rs, (0 ≤ r.1 ∧ r.1 ≤ 18446744073709551615) ∧ (0 ≤ r.2 ∧ r.2 ≤ 18446744073709551615)
  root : t.root.In w B

section
variable {w w' : World} {B B' : Nat}
theorem RRow.keep {a : Option Addr} {l : List (Int × Int)} (h : RRow w B a l) (hk : ∀ a : Addr, a.block < B → w'.cell? a = w.cell? a) : RRow w' B a l := fun h0 => by
  obtain ⟨b, o, e, hb, hc⟩ := h h0
  exact ⟨b, o, e, hb, fun i hi => ⟨(hk _ hb).trans (hc i hi).1, (hk _ hb).trans (hc i hi).2⟩⟩
theorem RRow.more {a : Option Addr} {l : List (Int × Int)} (h : RRow w B a l) (hB : B ≤ B') : RRow w B' a l := fun h0 => by
  obtain ⟨b, o, e, hb, hc⟩ := h h0
  exact ⟨b, o, e, by omega, hc⟩
theorem Tr.In.under {t : Tr} (h : t.In w B) (hb : Below B w w') : t.In w' B := ⟨h.boot, h.len, h.row.keep (fun _ hp => hb.cell hp), h.nums, h.root.under hb⟩
theorem Tr.In.more {t : Tr} (h : t.In w B) (hB : B ≤ B') : t.In w B' := ⟨h.boot, h.len, h.row.more hB, h.nums, h.root.more hB⟩
theorem Tr.In.on {t : Tr} (h : t.In w w.heap.size) (hb : Below w.heap.size w w') : t.In w' w'.heap.size := (h.under hb).more hb.size
theorem Tr.In.rcell {t : Tr} (h : t.In w B) {i : Nat} (hi : i < t.rs.length) : ∃ b o, t.ra = some ⟨b, o, none⟩ ∧ b < B ∧ w.cell? ⟨b, o + i * 2, none⟩ = some (.int .u64 t.rs[i].1) ∧ w.cell? ⟨b, o + i * 2 + 1, none⟩ = some (.int .u64 t.rs[i].2) := by
  obtain ⟨b, o, e, hb, hc⟩ := h.row (by omega)
  exact ⟨b, o, e, hb, hc i hi⟩
end

theorem Try.cellsRes : Try.prog.cellsOf 71 = 2 := by kernel_rfl
theorem Try.cellsRess : Try.prog.cellsOf 23 = 1 := by kernel_rfl
theorem Try.cellsU64 : Try.prog.cellsOf 69 = 1 := by kernel_rfl
theorem Try.cellsU32 : Try.prog.cellsOf 22 = 1 := by kernel_rfl
theorem Try.cellsTree : Try.prog.cellsOf 29 = 5 := by kernel_rfl
theorem Try.bytesRes : Try.prog.bytesOf 71 = 16 := by kernel_rfl

section
variable {H : Type} {enc : TypeId × Value → H} {w : World} {base : Nat} {spare : Nat → Bool} {held : Bool}

theorem open_res {fuel : Nat} {cs : List Value} {x : DataW H × List MemPlace} (h : DataW.trod enc Try.prog w base spare held fuel 71 cs = some x) :
    ∃ r : Int × Int, cs = [.int .u64 r.1, .int .u64 r.2] ∧ (0 ≤ r.1 ∧ r.1 ≤ 18446744073709551615) ∧ (0 ≤ r.2 ∧ r.2 ≤ 18446744073709551615) := by
  obtain ⟨y0, y1, n, rfl, hl, h0, h1⟩ := trod_struct2 Try.underlying71 h
  rw [Try.cellsRes] at hl
  obtain ⟨c0, c1, rfl⟩ : ∃ c0 c1, cs = [c0, c1] := by
    exact two_of hl
  rw [Try.cellsU64] at h0 h1
  obtain ⟨a, e0, _, w0⟩ := DataW.trod_int Try.underlying69 h0
  obtain ⟨c, e1, _, w1⟩ := DataW.trod_int Try.underlying69 h1
  simp only [List.drop_succ_cons, List.drop_zero, List.take_succ_cons, List.take_zero, List.cons.injEq, and_true] at e0 e1
  subst e0 e1
  exact ⟨(a, c), rfl, bounds_u64 w0, bounds_u64 w1⟩

/-- A tree that came in is such a tree. -/
theorem open_tr {fuel : Nat} {cs : List Value} {x : DataW H × List MemPlace} (h : DataW.trod enc Try.prog w base spare held fuel 29 cs = some x) (hw : ∀ z ∈ DataW.weights Try.prog 29 x.1, z ≤ 140737488351232) :
    ∃ t : Tr, cs = [.int .u32 t.boot, t.rv, .string t.root.name, t.root.pv, t.root.kv] ∧ t.In w w.heap.size := by
  obtain ⟨y0, y1, y2, n, rfl, hl, h0, h1, h2⟩ := trod_struct3 Try.underlying29 h
  rw [Try.cellsTree] at hl
  obtain ⟨c0, c1, c2, c3, c4, rfl⟩ : ∃ c0 c1 c2 c3 c4, cs = [c0, c1, c2, c3, c4] := by
    exact five_of hl
  rw [Try.cellsU32] at h0
  rw [Try.cellsRess] at h1
  rw [Try.cellsNode] at h2
  simp only [List.drop_zero, List.drop_succ_cons, List.take_succ_cons, List.take_zero] at h0 h1 h2
  simp only [DataW.weights, DataW.weightsEach, Try.underlying29, List.map_cons, List.map_nil] at hw
  have hw1 := fun z hz => hw z (List.mem_append_right _ (List.mem_append_left _ hz))
  have hw2 := fun z hz => hw z (List.mem_append_right _ (List.mem_append_right _ (List.mem_append_left _ hz)))
  obtain ⟨boot, e0, _, wb⟩ := DataW.trod_int Try.underlying22 h0
  obtain ⟨ra, rc, rs, e1, hr1, hr2, hr3, hrg, hrow⟩ := open_row (c := 2) (fun r : Int × Int => [.int .u64 r.1, .int .u64 r.2]) (fun r => (0 ≤ r.1 ∧ r.1 ≤ 18446744073709551615) ∧ (0 ≤ r.2 ∧ r.2 ≤ 18446744073709551615)) Try.underlying23 Try.cellsRes (by omega) (fun _ => rfl) (fun n cs y _ hy _ => open_res hy) h1 hw1
  obtain ⟨root, e2, hin⟩ := open_nd _ n _ _ (Nat.le_refl _) h2 hw2
  simp only [List.cons.injEq, and_true] at e0 e1 e2
  obtain ⟨rfl, rfl, rfl⟩ := e2
  subst e0 e1
  rw [Try.bytesRes] at hr3
  exact ⟨⟨boot, ra, rc, rs, root⟩, rfl, bounds_u32 wb, ⟨hr1, hr2, hr3⟩, fun h0 => by
    obtain ⟨b, o, e, hb, hc⟩ := hrow h0
    exact ⟨b, o, e, hb, fun i hi => ⟨hc i hi 0 (by omega), hc i hi 1 (by omega)⟩⟩, hrg, hin⟩
end

/-- A reserve of noughts. -/
def zeroR (r : Int × Int) : Bool := decide (r.1 = 0) && decide (r.2 = 0)

/-- Are there too many? -/
def manyE (t : Tr) : Int := if 4096 < wrap64 (nodesN t.root) ∨ 8192 < wrap64 (propsN t.root) ∨ 64 < t.rs.length then 7 else if t.rs.any zeroR = true then 7 else 0

end Go.Proofs.Ytapfcbcojnplaaa

/-! Layer 3: the first error of a tree, the program's and the document's. -/
namespace Go.Proofs.Ytapfcbcojnplaaa
open Go.RowKit
set_option linter.unusedVariables false
set_option linter.unusedSimpArgs false
attribute [local go_sem ↓] Go.wp_at_zero Go.wp_at_succ

/-- The first error of a tree. -/
noncomputable def checkE (t : Tr) : Int := if wrongN t.root 1 = 0 then manyE t else wrongN t.root 1

set_option maxHeartbeats 8000000 in
theorem refcheck_any (t : Tr) (w : World) (hin : t.In w w.heap.size) (E : Int) (hE : checkE t = E) :
    Calls Try.prog 12 #[t.val] w fun e w' => e = .returned (.int .i64 E) ∧ Below w.heap.size w w' := by
  obtain ⟨F, hF⟩ : ∃ F, wrongN t.root 1 = F := ⟨_, rfl⟩
  obtain ⟨a, ha⟩ : ∃ a, a = wrap64 (nodesN t.root) := ⟨_, rfl⟩
  obtain ⟨c, hc⟩ : ∃ c, c = wrap64 (propsN t.root) := ⟨_, rfl⟩
  have HE : Hid ((if F = 0 then (if 4096 < a ∨ 8192 < c ∨ 64 < t.rs.length then 7 else if t.rs.any zeroR = true then 7 else 0) else F) = E) := by rw [← hF, ha, hc]; exact hE
  have C1 := Lib.hid (fun w h => wrong_any t.root 1 w h (by omega) (by omega) F hF)
  have C2 := Lib.hid (fun w h => (refcount_any t.root w h).mono fun e w' (h : Counted e t.root ∧ _) => show e = .returned (.tuple #[.int .i64 a, .int .i64 c]) ∧ Below w.heap.size w w' from ⟨by rw [ha, hc]; exact h.1, h.2⟩)
  have HI := Lib.hid hin
  obtain ⟨hl, hm, _⟩ := hin.len
  clear hE hF ha hc hin
  obtain ⟨boot, ra, rc, rs, ⟨nm, pa, pc, ps, ka, kc, ks⟩⟩ := t
  replace hl : rs.length ≤ rc := hl
  replace hm : rc ≤ 9223372036854775807 := hm
  replace HE : Hid ((if F = 0 then (if 4096 < a ∨ 8192 < c ∨ 64 < rs.length then 7 else if rs.any zeroR = true then 7 else 0) else F) = E) := HE
  show Calls _ _ #[.agg #[.int .u32 boot, .slice ra rs.length rc, .string nm, .slice pa ps.length pc, .slice ka ks.length kc]] _ _
  have HB := Lib.hid ((Below.refl w.heap.size w).alloc (Nat.le_refl _) (.cells #[.int .u32 boot, .slice ra rs.length rc, .string nm, .slice pa ps.length pc, .slice ka ks.length kc] 29))
  have BX : Hid (∀ W : World, Below (w.heap.size + 1) (w.alloc (.cells #[.int .u32 boot, .slice ra rs.length rc, .string nm, .slice pa ps.length pc, .slice ka ks.length kc] 29)) W → W.cell? ⟨w.heap.size, 1, none⟩ = some (.slice ra rs.length rc) ∧ W.cell? ⟨w.heap.size, 2, none⟩ = some (.string nm) ∧ W.cell? ⟨w.heap.size, 3, none⟩ = some (.slice pa ps.length pc) ∧ W.cell? ⟨w.heap.size, 4, none⟩ = some (.slice ka ks.length kc)) := fun W h =>
    ⟨(h.cell (Nat.lt_succ_self _)).trans (World.cell?_alloc_new _ _ _ _), (h.cell (Nat.lt_succ_self _)).trans (World.cell?_alloc_new _ _ _ _), (h.cell (Nat.lt_succ_self _)).trans (World.cell?_alloc_new _ _ _ _), (h.cell (Nat.lt_succ_self _)).trans (World.cell?_alloc_new _ _ _ _)⟩
  go_enter Try.func12, Try.ntmps12
  go_wp2_with fail
  refine (C1.out _ ((HI.out.on HB.out).root)).mono ?_
  rintro e w1 ⟨rfl, hb⟩
  have HB1 := Lib.hid (HB.out.trans (hb.mono HB.out.size))
  have HX1 := Lib.hid (hb.mono (B' := w.heap.size + 1) (by simp))
  obtain ⟨b1, b2, b3, b4⟩ := BX.out _ HX1.out
  clear hb
  by_cases h0 : F = 0
  · have HE2 : Hid ((if 4096 < a ∨ 8192 < c ∨ 64 < rs.length then 7 else if rs.any zeroR = true then 7 else 0) = E) := by have := HE.out; rwa [if_pos h0] at this
    subst h0
    clear HE
    go_wp2_with fail
    refine (C2.out _ ((HI.out.on HB1.out).root)).mono ?_
    rintro e w2 ⟨rfl, hb⟩
    have HB2 := Lib.hid (HB1.out.trans (hb.mono HB1.out.size))
    have HX2 := Lib.hid (HX1.out.trans (hb.mono (by have := HX1.out.size; simpa using this)))
    clear hb b1 b2 b3 b4
    obtain ⟨b1, b2, b3, b4⟩ := BX.out _ HX2.out
    by_cases h1 : 4096 < a
    · obtain rfl : E = 7 := by rw [← HE2.out, if_pos (.inl h1)]
      go_wp2
      go_ret
      exact ⟨rfl, HB2.out⟩
    · by_cases h2 : 8192 < c
      · obtain rfl : E = 7 := by rw [← HE2.out, if_pos (.inr (.inl h2))]
        go_wp2
        go_ret
        exact ⟨rfl, HB2.out⟩
      · by_cases h3 : 64 < (rs.length : Int)
        · obtain rfl : E = 7 := by rw [← HE2.out, if_pos (.inr (.inr (by omega)))]
          go_wp2
          go_ret
          exact ⟨rfl, HB2.out⟩
        · have HF : Hid ((if rs.any zeroR = true then 7 else 0) = E) := by have := HE2.out; rwa [if_neg (by omega)] at this
          go_wp2_with fail
          clear b1 b2 b3 b4
          go_loopw [34] (fun i wr => ∃ k : Nat, k ≤ rs.length ∧ i = .int .i64 k ∧ Good zeroR rs k ∧ Below (w.heap.size + 1) (w.alloc (.cells #[.int .u32 boot, .slice ra rs.length rc, .string nm, .slice pa ps.length pc, .slice ka ks.length kc] 29)) wr) (fun i _ => rs.length - (intOf i).toNat)
          case atStart => exact ⟨0, Nat.zero_le _, rfl, Good.zero _ _, HX2.out⟩
          case round =>
            obtain ⟨k, hk, rfl, hgood, hb⟩ := hrel
            have HA := Lib.hid hgood
            have HB0 := Lib.hid hb
            have HB' := Lib.hid (HB.out.trans (hb.mono (Nat.le_succ _)))
            obtain ⟨b1, _, _, _⟩ := BX.out _ hb
            clear hgood hb
            by_cases hlt : k < rs.length
            · obtain ⟨b, o, e, hb, c0, c1⟩ := (HI.out.under HB'.out).rcell (i := k) hlt
              obtain rfl : ra = _ := e
              replace c0 : _ = some (Value.int .u64 rs[k].1) := c0
              replace c1 : _ = some (Value.int .u64 rs[k].2) := c1
              obtain ⟨x, hx⟩ : ∃ x, x = rs[k].1 := ⟨_, rfl⟩
              obtain ⟨y, hy⟩ : ∃ y, y = rs[k].2 := ⟨_, rfl⟩
              have HZ : Hid (zeroR rs[k] = (decide (x = 0) && decide (y = 0))) := by show zeroR _ = _; rw [hx, hy]; rfl
              rw [← hx] at c0
              rw [← hy] at c1
              clear hx hy
              by_cases hx0 : x = 0
              · subst hx0
                by_cases hy0 : y = 0
                · subst hy0
                  obtain rfl : E = 7 := by rw [← HF.out, if_pos (any_at hlt HZ.out)]
                  go_wp2
                  go_ret
                  exact ⟨rfl, HB'.out⟩
                · have HG : Hid (zeroR rs[k] = false) := by have := HZ.out; rw [decide_eq_false hy0] at this; exact this
                  have hy1 : (y == 0) = false := by rw [beq_eq_false_iff_ne]; exact hy0
                  clear hy0
                  go_wp2
                  go_roundw
                  case rel => exact ⟨k + 1, by omega, by go_num, HA.out.succ hlt HG.out, HB0.out⟩
                  case measure => simp [intOf]; omega
              · have HG : Hid (zeroR rs[k] = false) := by have := HZ.out; rw [decide_eq_false hx0] at this; exact this
                have hx1 : (x == 0) = false := by rw [beq_eq_false_iff_ne]; exact hx0
                clear hx0
                go_wp2
                go_roundw
                case rel => exact ⟨k + 1, by omega, by go_num, HA.out.succ hlt HG.out, HB0.out⟩
                case measure => simp [intOf]; omega
            · obtain rfl : E = 0 := by rw [← HF.out, HA.out.all hlt]; rfl
              go_wp2
              go_ret
              exact ⟨rfl, HB'.out⟩
  · have f1 : (F == 0) = false := by rw [beq_eq_false_iff_ne]; exact h0
    have f2 : (F != 0) = true := by rw [bne, f1]; rfl
    obtain rfl : E = F := by rw [← HE.out, if_neg h0]
    clear h0
    go_wp2
    go_ret
    exact ⟨rfl, HB1.out⟩

set_option maxHeartbeats 4000000 in
theorem few_any (t : Tr) (w : World) (hin : t.In w w.heap.size) :
    Calls Try.prog 11 #[t.val] w fun e w' => (∃ r : Bool, e = .returned (.bool r)) ∧ Below w.heap.size w w' := by
  have C1 := Lib.hid (fun w h => size_any t.root 0 w h (by omega) (by omega))
  have HI := Lib.hid hin
  clear hin
  obtain ⟨boot, ra, rc, rs, ⟨nm, pa, pc, ps, ka, kc, ks⟩⟩ := t
  show Calls _ _ #[.agg #[.int .u32 boot, .slice ra rs.length rc, .string nm, .slice pa ps.length pc, .slice ka ks.length kc]] _ _
  have HB := Lib.hid ((Below.refl w.heap.size w).alloc (Nat.le_refl _) (.cells #[.int .u32 boot, .slice ra rs.length rc, .string nm, .slice pa ps.length pc, .slice ka ks.length kc] 29))
  go_enter Try.func11, Try.ntmps11
  go_wp2_with fail
  refine (C1.out _ ((HI.out.on HB.out).root)).mono ?_
  rintro e w1 ⟨⟨z, rfl⟩, hb⟩
  have HB1 := Lib.hid (HB.out.trans (hb.mono HB.out.size))
  have b1 := (hb.cell (p := ⟨w.heap.size, 1, none⟩) (by simp)).trans (World.cell?_alloc_new _ _ _ _)
  replace b1 : _ = some (Value.slice ra rs.length rc) := b1
  clear hb
  by_cases hz : z ≤ 100000
  · go_wp2
    go_ret
    exact ⟨⟨_, rfl⟩, HB1.out⟩
  · go_wp2
    go_ret
    first | exact ⟨⟨_, rfl⟩, HB1.out⟩ | exact ⟨.inl rfl, HB1.out⟩

end Go.Proofs.Ytapfcbcojnplaaa

/-! Places and paths: which node stands at a place; its path's names lead to it. -/
namespace Go.Proofs.Ytapfcbcojnplaaa
open Go.RowKit
set_option linter.unusedVariables false
set_option linter.unusedSimpArgs false

/-- The node at a place below n. -/
def nodeAt : Nd → List Nat → Option Nd
  | n, [] => some n
  | n, i :: r => match n.kids[i]? with
    | none => none
    | some k => nodeAt k r
theorem nodeAt_cons {n : Nd} {i : Nat} {r : List Nat} (h : i < n.kids.length) : nodeAt n (i :: r) = nodeAt n.kids[i] r := by
  rw [nodeAt, List.getElem?_eq_getElem h]
theorem nodeAt_some {n x : Nd} {i : Nat} {r : List Nat} (h : nodeAt n (i :: r) = some x) : ∃ hi : i < n.kids.length, nodeAt n.kids[i] r = some x := by
  rw [nodeAt] at h
  by_cases hi : i < n.kids.length
  · rw [List.getElem?_eq_getElem hi] at h
    exact ⟨hi, h⟩
  · rw [List.getElem?_eq_none (by omega)] at h
    cases h
theorem nodeAt_append : ∀ (p q : List Nat) (n : Nd), nodeAt n (p ++ q) = match nodeAt n p with | none => none | some x => nodeAt x q
  | [], q, n => by simp [nodeAt]
  | i :: p, q, n => by
    by_cases hi : i < n.kids.length
    · rw [List.cons_append, nodeAt_cons hi, nodeAt_cons hi, nodeAt_append p q]
    · rw [List.cons_append, nodeAt, nodeAt, List.getElem?_eq_none (by omega)]
/-- The places are those of nodes. -/
theorem mem_places : ∀ (n : Nd) (q p : List Nat), p ∈ placesN n q ↔ ∃ r, p = q ++ r ∧ (nodeAt n r).isSome = true := by
  refine Nd.ind ?_
  intro n ih q p
  have hl : ∀ (l : List Nd) (i : Nat), (∀ k ∈ l, k ∈ n.kids) → (p ∈ placesL l q i ↔ ∃ j, ∃ h : j < l.length, p ∈ placesN l[j] (q ++ [i + j])) := by
    intro l
    induction l with
    | nil => intro i _; simp [placesL]
    | cons k l ihl =>
      intro i hk
      rw [placesL, List.mem_append, ihl (i + 1) (fun x hx => hk x (by simp [hx]))]
      constructor
      · rintro (h | ⟨j, hj, h⟩)
        · exact ⟨0, by simp, by simpa using h⟩
        · exact ⟨j + 1, by simpa using hj, by simpa [show i + (j + 1) = i + 1 + j by omega] using h⟩
      · rintro ⟨j, hj, h⟩
        rcases j with _ | j
        · exact .inl (by simpa using h)
        · exact .inr ⟨j, by simpa using hj, by simpa [show i + (j + 1) = i + 1 + j by omega] using h⟩
  rw [placesN_mk, List.mem_cons, hl n.kids 0 (fun _ h => h)]
  constructor
  · rintro (rfl | ⟨j, hj, h⟩)
    · exact ⟨[], by simp, rfl⟩
    · obtain ⟨r, rfl, h2⟩ := (ih n.kids[j] (List.getElem_mem hj) _ _).1 h
      exact ⟨j :: r, by simp, by rw [nodeAt_cons hj]; exact h2⟩
  · rintro ⟨r, rfl, h⟩
    rcases r with _ | ⟨j, r⟩
    · exact .inl (by simp)
    · obtain ⟨x, hx⟩ := Option.isSome_iff_exists.1 h
      obtain ⟨hj, hx2⟩ := nodeAt_some hx
      exact .inr ⟨j, hj, (ih n.kids[j] (List.getElem_mem hj) _ _).2 ⟨r, by simp, by rw [hx2]; rfl⟩⟩
theorem place_node {n : Nd} {p : List Nat} (h : p ∈ placesN n []) : ∃ x, nodeAt n p = some x := by
  obtain ⟨r, rfl, h⟩ := (mem_places n [] p).1 h
  exact Option.isSome_iff_exists.1 h
theorem nodeAt_in {w : World} {B : Nat} : ∀ (p : List Nat) {n x : Nd}, n.In w B → nodeAt n p = some x → x.In w B
  | [], n, x, h, e => by rw [nodeAt] at e; rw [← Option.some.inj e]; exact h
  | i :: p, n, x, h, e => by
    obtain ⟨hi, e⟩ := nodeAt_some e
    exact nodeAt_in p (h.kid (List.getElem_mem hi)) e

/-! ### Formed trees -/
theorem nd_wrongL {d : Int} : ∀ {l : List Nd}, wrongL l d = 0 → ∀ k ∈ l, wrongN k d = 0
  | [], _, k, hk => by cases hk
  | x :: r, h, k, hk => by
    unfold wrongL at h
    by_cases hx : wrongN x d = 0
    · rw [if_pos hx] at h
      rcases List.mem_cons.1 hk with rfl | hk
      · exact hx
      · exact nd_wrongL h k hk
    · rw [if_neg hx] at h
      exact absurd h hx
/-- What a formed node is. -/
structure Well (n : Nd) (d : Int) : Prop where
  deep : d ≤ 16
  name : nameOk n d = true
  twice : (n.kids.map Nd.name).Nodup
  kids : ∀ k ∈ n.kids, wrongN k (d + 1) = 0
theorem well_of {n : Nd} {d : Int} (h : wrongN n d = 0) : Well n d := by
  rw [wrongN_mk] at h
  by_cases ha : aloneE n d = 0
  · rw [if_pos ha] at h
    unfold aloneE at ha
    by_cases h1 : 16 < d
    · rw [if_pos h1] at ha; omega
    rw [if_neg h1] at ha
    by_cases h2 : nameOk n d = false
    · rw [if_pos h2] at ha; omega
    rw [if_neg h2] at ha
    by_cases h3 : n.props.any misP = true
    · rw [if_pos h3] at ha; omega
    rw [if_neg h3] at ha
    by_cases h4 : twiceB (n.props.map PV.name) = true
    · rw [if_pos h4] at ha; omega
    rw [if_neg h4] at ha
    by_cases h5 : twiceB (n.kids.map Nd.name) = true
    · rw [if_pos h5] at ha; omega
    exact ⟨by omega, by simpa using h2, by simpa [twiceB] using h5, nd_wrongL h⟩
  · rw [if_neg ha] at h
    exact absurd h ha
theorem well_at : ∀ (p : List Nat) {n x : Nd} {d : Int}, wrongN n d = 0 → nodeAt n p = some x → wrongN x (d + p.length) = 0
  | [], n, x, d, h, e => by rw [nodeAt] at e; rw [← Option.some.inj e]; simpa using h
  | i :: p, n, x, d, h, e => by
    obtain ⟨hi, e⟩ := nodeAt_some e
    have := well_at p ((well_of h).kids _ (List.getElem_mem hi)) e
    rw [List.length_cons, show d + ((p.length + 1 : Nat) : Int) = d + 1 + (p.length : Int) by omega]
    exact this
/-- A place of a formed tree is at most fifteen numbers. -/
theorem place_short {n x : Nd} {p : List Nat} (h : wrongN n 1 = 0) (e : nodeAt n p = some x) : p.length ≤ 15 := by
  have := (well_of (well_at p h e)).deep
  omega
theorem root_wrong {t : Tr} (h : checkE t = 0) : wrongN t.root 1 = 0 := by
  unfold checkE at h
  by_cases h1 : wrongN t.root 1 = 0
  · exact h1
  · rw [if_neg h1] at h; exact absurd h h1
theorem idx_nodup : ∀ {l : List ByteArray} {k : Nat} (hk : k < l.length), l.Nodup → idxOf l l[k] = (k : Int)
  | l, k, hk, h => idxOf_hit l _ k hk rfl (fun j hj e => by
    have := (List.getElem_inj h).1 e
    omega)
/-- The names on the way to a place. -/
def namesAt : Nd → List Nat → List ByteArray
  | _, [] => []
  | n, i :: r => match n.kids[i]? with
    | none => []
    | some k => k.name :: namesAt k r
theorem namesAt_cons {n : Nd} {i : Nat} {r : List Nat} (h : i < n.kids.length) : namesAt n (i :: r) = n.kids[i].name :: namesAt n.kids[i] r := by
  rw [namesAt, List.getElem?_eq_getElem h]
theorem namesAt_length : ∀ (p : List Nat) {n x : Nd}, nodeAt n p = some x → (namesAt n p).length = p.length
  | [], n, x, _ => rfl
  | i :: p, n, x, e => by
    obtain ⟨hi, e⟩ := nodeAt_some e
    rw [namesAt_cons hi, List.length_cons, List.length_cons, namesAt_length p e]
/-- Each is a node's name. -/
theorem namesAt_ok : ∀ (p : List Nat) {n x : Nd} {d : Int}, 1 ≤ d → wrongN n d = 0 → nodeAt n p = some x → ∀ s ∈ namesAt n p, nodeB s = true
  | [], n, x, d, _, _, _, s, hs => by cases hs
  | i :: p, n, x, d, hd, h, e, s, hs => by
    obtain ⟨hi, e⟩ := nodeAt_some e
    have hw := (well_of h).kids _ (List.getElem_mem hi)
    rw [namesAt_cons hi] at hs
    rcases List.mem_cons.1 hs with rfl | hs
    · have := (well_of hw).name
      unfold nameOk at this
      rwa [if_neg (by omega)] at this
    · exact namesAt_ok p (by omega) hw e s hs
/-- One step further. -/
theorem nodeAt_next {n x : Nd} {p : List Nat} {i : Nat} (h : nodeAt n p = some x) (hi : i < x.kids.length) : nodeAt n (p ++ [i]) = some x.kids[i] := by
  rw [nodeAt_append, h]
  show nodeAt x [i] = _
  rw [nodeAt_cons hi, nodeAt]
theorem namesAt_next : ∀ (p : List Nat) {n x : Nd} {i : Nat}, nodeAt n p = some x → ∀ hi : i < x.kids.length, namesAt n (p ++ [i]) = namesAt n p ++ [x.kids[i].name]
  | [], n, x, i, h, hi => by
    rw [nodeAt] at h
    obtain rfl := Option.some.inj h
    rw [List.nil_append, namesAt_cons hi, namesAt]
    rfl
  | j :: p, n, x, i, h, hi => by
    obtain ⟨hj, e⟩ := nodeAt_some h
    rw [List.cons_append, namesAt_cons hj, namesAt_cons hj, namesAt_next p e hi]
    rfl

/-! ### Paths -/
/-- A path's bytes: of each name a stroke and it. -/
def pathB (l : List ByteArray) : List UInt8 := l.flatMap fun s => 47 :: s.data.toList
/-- The path of a place. -/
def pathOf (n : Nd) (p : List Nat) : ByteArray := ⟨(if p = [] then [47] else pathB (namesAt n p)).toArray⟩
theorem pathB_append (a b : List ByteArray) : pathB (a ++ b) = pathB a ++ pathB b := by unfold pathB; rw [List.flatMap_append]
theorem okM_not {m : List UInt8} {c : UInt8} (hl : letB (c.toNat : Int) = false) (hd : digB (c.toNat : Int) = false) (hm : c ∉ m) : okM m c = false := by
  have e : ¬ 0 ≤ Lib.indexByte m c := by
    intro h0
    obtain ⟨k, hk⟩ := Int.eq_ofNat_of_zero_le h0
    obtain ⟨h1, h2⟩ := Lib.indexByte_some hk
    exact hm (List.mem_of_getElem? h1)
  unfold okM
  simp [hl, hd, e]
theorem madeB_not {m l : List UInt8} {c : UInt8} (hl : letB (c.toNat : Int) = false) (hd : digB (c.toNat : Int) = false) (hm : c ∉ m) (h : madeB m l = true) : c ∉ l := by
  intro h0
  unfold madeB at h
  simp only [Bool.and_eq_true, List.all_eq_true] at h
  have := h.2 c h0
  rw [okM_not hl hd hm] at this
  cases this
/-- A node's name has none of these bytes. -/
theorem nodeB_not {s : ByteArray} {c : UInt8} (hl : letB (c.toNat : Int) = false) (hd : digB (c.toNat : Int) = false) (hm : c ∉ nodeMarks) (hat : c ≠ 64) (h : nodeB s = true) : c ∉ s.data.toList := by
  unfold nodeB at h
  split at h
  · exact madeB_not hl hd hm (by unfold baseB at h; simp only [Bool.and_eq_true] at h; exact h.1)
  · rename_i hc
    simp only [Bool.and_eq_true] at h
    rcases cut_or_not s with hn | ⟨i, hi⟩
    · exact absurd hn hc
    · have e : (Lib.indexByte s.data.toList 64).toNat = i := by rw [hi.2]; rfl
      rw [e] at h
      have h1 := madeB_not hl hd hm (by have := h.1; unfold baseB at this; simp only [Bool.and_eq_true] at this; exact this.1)
      have h2 := madeB_not hl hd hm h.2
      intro h0
      obtain ⟨k, e0⟩ := List.getElem?_of_mem h0
      have c1 := (Lib.indexByte_some hi.2).1
      rw [ByteArray.data_extract, Array.toList_extract, List.extract_eq_take_drop] at h1 h2
      rcases Nat.lt_trichotomy k i with hk | hk | hk
      · exact h1 (List.mem_of_getElem? (i := k) (by rw [List.getElem?_take_of_lt (by omega), List.drop_zero]; exact e0))
      · subst hk
        rw [c1] at e0
        exact hat (Option.some.inj e0).symm
      · have hk2 : k < s.size := (List.getElem?_eq_some_iff.1 e0).1
        exact h2 (List.mem_of_getElem? (i := k - (i + 1)) (by rw [List.getElem?_take_of_lt (by omega), List.getElem?_drop, show i + 1 + (k - (i + 1)) = k by omega]; exact e0))
theorem nodeB_stroke {s : ByteArray} (h : nodeB s = true) : (47 : UInt8) ∉ s.data.toList := nodeB_not (by decide) (by decide) (by decide) (by decide) h
theorem nodeB_some6 {s : ByteArray} (h : nodeB s = true) : s.data.toList ≠ [] := by
  intro h0
  unfold nodeB at h
  rw [h0] at h
  have e : Lib.indexByte ([] : List UInt8) 64 = -1 := by decide
  rw [e, if_pos rfl] at h
  revert h
  decide
end Go.Proofs.Ytapfcbcojnplaaa

/-! Layer 6, PathAll: the places of all nodes of any tree are told in order: out of what the program's All answers. -/
namespace Go.Proofs.Ytapfcbcojnplaaa
open Go.RowKit
set_option linter.unusedVariables false
set_option linter.unusedSimpArgs false

/-- The five cells of a tree in a new block. -/
theorem box6_cells (w : World) (v0 v1 v2 v3 v4 : Value) (W : World) (h : Below (w.heap.size + 1) (w.alloc (.cells #[v0, v1, v2, v3, v4] 29)) W) :
    W.cell? ⟨w.heap.size, 0, none⟩ = some v0 ∧ W.cell? ⟨w.heap.size, 1, none⟩ = some v1 ∧ W.cell? ⟨w.heap.size, 2, none⟩ = some v2 ∧ W.cell? ⟨w.heap.size, 3, none⟩ = some v3 ∧ W.cell? ⟨w.heap.size, 4, none⟩ = some v4 :=
  ⟨(h.cell (Nat.lt_succ_self _)).trans (World.cell?_alloc_new _ _ _ _), (h.cell (Nat.lt_succ_self _)).trans (World.cell?_alloc_new _ _ _ _), (h.cell (Nat.lt_succ_self _)).trans (World.cell?_alloc_new _ _ _ _), (h.cell (Nat.lt_succ_self _)).trans (World.cell?_alloc_new _ _ _ _), (h.cell (Nat.lt_succ_self _)).trans (World.cell?_alloc_new _ _ _ _)⟩

end Go.Proofs.Ytapfcbcojnplaaa

/-! Layer 6, PathBack: the path of each node of a formed tree leads to it: out of what the program's All, Path and Find answer. -/
namespace Go.Proofs.Ytapfcbcojnplaaa
open Go.RowKit
set_option linter.unusedVariables false
set_option linter.unusedSimpArgs false

end Go.Proofs.Ytapfcbcojnplaaa

/-! The node at a place: the document's answer, for any numbers. -/
namespace Go.Proofs.Ytapfcbcojnplaaa
open Go.RowKit
set_option linter.unusedVariables false
set_option linter.unusedSimpArgs false

/-- The node at a place below n, of any numbers. -/
def nodeZ : Nd → List Int → Option Nd
  | n, [] => some n
  | n, i :: r => if i < 0 then none else match n.kids[i.toNat]? with
    | none => none
    | some k => nodeZ k r
abbrev intsZ (z : List Int) : List Value := z.map fun k => Value.int .i64 k
theorem ints_eq (p : List Nat) : ints p = intsZ (p.map Int.ofNat) := by simp [ints, intsZ]
theorem nodeZ_nat : ∀ (p : List Nat) (n : Nd), nodeZ n (p.map Int.ofNat) = nodeAt n p
  | [], n => rfl
  | i :: p, n => by
    rw [List.map_cons, nodeZ, nodeAt, if_neg (by simp)]
    simp only [Int.ofNat_eq_natCast, Int.toNat_natCast]
    cases n.kids[i]? with
    | none => rfl
    | some k => exact nodeZ_nat p k
theorem nodeZ_append : ∀ (p q : List Int) (n : Nd), nodeZ n (p ++ q) = match nodeZ n p with | none => none | some x => nodeZ x q
  | [], q, n => by simp [nodeZ]
  | i :: p, q, n => by
    rw [List.cons_append, nodeZ, nodeZ]
    by_cases hi : i < 0
    · rw [if_pos hi, if_pos hi]
    · rw [if_neg hi, if_neg hi]
      cases n.kids[i.toNat]? with
      | none => rfl
      | some k => exact nodeZ_append p q k
theorem nodeZ_in {w : World} {B : Nat} : ∀ (p : List Int) {n x : Nd}, n.In w B → nodeZ n p = some x → x.In w B
  | [], n, x, h, e => by rw [nodeZ] at e; rw [← Option.some.inj e]; exact h
  | i :: p, n, x, h, e => by
    rw [nodeZ] at e
    by_cases hi : i < 0
    · rw [if_pos hi] at e; cases e
    rw [if_neg hi] at e
    cases hk : n.kids[i.toNat]? with
    | none => rw [hk] at e; cases e
    | some k => rw [hk] at e; exact nodeZ_in p (h.kid (List.mem_of_getElem? hk)) e
/-- The answer. -/
def getVal : Option Nd → Value
  | none => .tuple #[.agg #[.string ⟨#[]⟩, .slice none 0 0, .slice none 0 0], .bool false]
  | some x => .tuple #[x.val, .bool true]

theorem below_sets {g : Nat} {w wr : World} (h : Below g w wr) (m b : Nat) (hb : g ≤ b) (u0 u1 u2 : Value) : Below g w ((((wr.drewN m).setCell ⟨b, 0, none⟩ u0).setCell ⟨b, 1, none⟩ u1).setCell ⟨b, 2, none⟩ u2) :=
  ((Below.setCell (Below.setCell (Below.setCell (h.trans (c := wr.drewN m) ⟨rfl, rfl, rfl, Nat.le_refl _, fun _ _ => rfl⟩) (p := ⟨b, 0, none⟩) hb u0) (p := ⟨b, 1, none⟩) hb u1) (p := ⟨b, 2, none⟩) hb u2))
theorem heap_sets {wr : World} (m b k : Nat) (hk : k ≠ b) (u0 u1 u2 : Value) : ((((wr.drewN m).setCell ⟨b, 0, none⟩ u0).setCell ⟨b, 1, none⟩ u1).setCell ⟨b, 2, none⟩ u2).heap[k]? = wr.heap[k]? := by
  rw [Below.heap_setCell _ _ _ _ hk, Below.heap_setCell _ _ _ _ hk, Below.heap_setCell _ _ _ _ hk]
  rfl
theorem heap_set3 {wr : World} (m b : Nat) {v0 v1 v2 : Value} {t : TypeId} {fz : Nat × Nat} (h : wr.heap[b]? = some (.cells #[v0, v1, v2] t fz)) (u0 u1 u2 : Value) : ((((wr.drewN m).setCell ⟨b, 0, none⟩ u0).setCell ⟨b, 1, none⟩ u1).setCell ⟨b, 2, none⟩ u2).heap[b]? = some (.cells #[u0, u1, u2] t fz) := by
  simp [World.setCell, Array.getElem?_modify, h]

set_option maxRecDepth 20000 in
set_option maxHeartbeats 8000000 in
theorem refget_any (t : Tr) (z : List Int) (A : Option Addr) (n c : Nat) (w : World) (hin : t.In w w.heap.size) (hp : Cel w w.heap.size A n (intsZ z)) (hnc : n ≤ c) (hc : c ≤ 9223372036854775807) :
    Calls Try.prog 7 #[t.val, .slice A n c] w fun e w' => e = .returned (getVal (nodeZ t.root z)) ∧ Below w.heap.size w w' := by
  have HI := Lib.hid hin.root
  have HP := Lib.hid hp
  have HPL : Hid (z.length = n) := Lib.hid (by have := hp.1; rwa [List.length_map] at this)
  clear hin hp
  obtain ⟨boot, ra, rc, rs, ⟨nm, pa, pc, ps, ka, kc, ks⟩⟩ := t
  replace HI : Hid ((Nd.mk nm pa pc ps ka kc ks).In w w.heap.size) := HI
  show Calls _ _ #[.agg #[.int .u32 boot, .slice ra rs.length rc, .string nm, .slice pa ps.length pc, .slice ka ks.length kc], .slice A n c] w (fun e w' => e = .returned (getVal (nodeZ (Nd.mk nm pa pc ps ka kc ks) z)) ∧ Below w.heap.size w w')
  obtain ⟨R, hR⟩ : ∃ R, Nd.mk nm pa pc ps ka kc ks = R := ⟨_, rfl⟩
  have HRE := Lib.hid hR
  rw [hR] at HI ⊢
  clear hR
  obtain ⟨b0, b1, b2, b3, b4⟩ := box6_cells w (.int .u32 boot) (.slice ra rs.length rc) (.string nm) (.slice pa ps.length pc) (.slice ka ks.length kc) _ (Below.refl _ _)
  go_enter Try.func7, Try.ntmps7
  go_wp2_with fail
  clear b0 b1 b2 b3 b4
  obtain ⟨g, hg⟩ : ∃ g, g = w.heap.size := ⟨_, rfl⟩
  have HG := Lib.hid hg
  have h1 : (w.alloc (.cells #[.int .u32 boot, .slice ra rs.length rc, .string nm, .slice pa ps.length pc, .slice ka ks.length kc] 29)).heap.size = g + 1 := by simp [hg]
  have h2 : ((w.alloc (.cells #[.int .u32 boot, .slice ra rs.length rc, .string nm, .slice pa ps.length pc, .slice ka ks.length kc] 29)).alloc (.cells #[.string ⟨#[]⟩, .slice none 0 0, .slice none 0 0] 27)).heap.size = g + 1 + 1 := by simp [hg]
  have W0 : Hid ((((w.alloc (.cells #[.int .u32 boot, .slice ra rs.length rc, .string nm, .slice pa ps.length pc, .slice ka ks.length kc] 29)).alloc (.cells #[.string ⟨#[]⟩, .slice none 0 0, .slice none 0 0] 27)).alloc (.cells #[.string nm, .slice pa ps.length pc, .slice ka ks.length kc] 27)).heap[g + 1]? = some (.cells #[.string ⟨#[]⟩, .slice none 0 0, .slice none 0 0] 27 (0, 0)) ∧ (((w.alloc (.cells #[.int .u32 boot, .slice ra rs.length rc, .string nm, .slice pa ps.length pc, .slice ka ks.length kc] 29)).alloc (.cells #[.string ⟨#[]⟩, .slice none 0 0, .slice none 0 0] 27)).alloc (.cells #[.string nm, .slice pa ps.length pc, .slice ka ks.length kc] 27)).heap[g + 1 + 1]? = some (.cells #[.string nm, .slice pa ps.length pc, .slice ka ks.length kc] 27 (0, 0)) ∧ Below g w (((w.alloc (.cells #[.int .u32 boot, .slice ra rs.length rc, .string nm, .slice pa ps.length pc, .slice ka ks.length kc] 29)).alloc (.cells #[.string ⟨#[]⟩, .slice none 0 0, .slice none 0 0] 27)).alloc (.cells #[.string nm, .slice pa ps.length pc, .slice ka ks.length kc] 27))) := Lib.hid ⟨by
      rw [Below.heap_alloc _ _ _ (by rw [h2]; omega), ← h1]
      exact heap_alloc_new _ _, by
      rw [← h2]
      exact heap_alloc_new _ _, by
      have hl : g ≤ w.heap.size := by rw [hg]; exact Nat.le_refl _
      exact (((Below.refl g w).alloc hl (.cells #[.int .u32 boot, .slice ra rs.length rc, .string nm, .slice pa ps.length pc, .slice ka ks.length kc] 29)).alloc (by rw [h1]; omega) (.cells #[.string ⟨#[]⟩, .slice none 0 0, .slice none 0 0] 27)).alloc (by rw [h2]; omega) (.cells #[.string nm, .slice pa ps.length pc, .slice ka ks.length kc] 27)⟩
  rw [← hg] at HI HP ⊢
  clear h1 h2 hg
  go_loopw [12] (fun i wr => ∃ (k : Nat) (x : Nd), k ≤ n ∧ i = .int .i64 k ∧ nodeZ R (z.take k) = some x ∧ wr.heap[g + 1]? = some (.cells #[.string ⟨#[]⟩, .slice none 0 0, .slice none 0 0] 27 (0, 0)) ∧ wr.heap[g + 1 + 1]? = some (.cells #[.string x.name, x.pv, x.kv] 27 (0, 0)) ∧ Below g w wr) (fun i _ => n - (intOf i).toNat)
  case atStart =>
    obtain ⟨a1, a2, a3⟩ := W0.out
    exact ⟨0, R, Nat.zero_le _, rfl, rfl, a1, by rw [← HRE.out]; exact a2, a3⟩
  case round =>
    obtain ⟨k, x, hk, rfl, hx, hz, hbk, hb⟩ := hrel
    have HX := Lib.hid hx
    have HBK := Lib.hid hbk
    have HZC := Lib.hid hz
    have HB := Lib.hid hb
    have y0 : wr.cell? ⟨g + 1, 0, none⟩ = some (.string ⟨#[]⟩) := by rw [Lib.cell_of_heap hz]; rfl
    have y1 : wr.cell? ⟨g + 1, 1, none⟩ = some (.slice none 0 0) := by rw [Lib.cell_of_heap hz]; rfl
    have y2 : wr.cell? ⟨g + 1, 2, none⟩ = some (.slice none 0 0) := by rw [Lib.cell_of_heap hz]; rfl
    have e0 := Lib.frozen_of_heap hz 0
    have e1 := Lib.frozen_of_heap hz 1
    have e2 := Lib.frozen_of_heap hz 2
    have f0 := Lib.frozen_of_heap hbk 0
    have f1 := Lib.frozen_of_heap hbk 1
    have f2 := Lib.frozen_of_heap hbk 2
    have hxin := (nodeZ_in _ HI.out hx).under hb
    by_cases hlt : k < n
    · obtain ⟨pb, po, rfl, _, hcell⟩ := (HP.out.below hb).2 (by omega)
      have ck := hcell k hlt
      have hkp : k < z.length := by rw [HPL.out]; exact hlt
      rw [List.getElem?_map, List.getElem?_eq_getElem hkp] at ck
      have hzt : z.take (k + 1) = z.take k ++ [z[k]] := by rw [List.take_add_one, List.getElem?_eq_getElem hkp]; rfl
      have hzs : nodeZ R z = nodeZ x (z[k] :: z.drop (k + 1)) := by
        have e : z = z.take k ++ (z[k] :: z.drop (k + 1)) := by rw [List.getElem_cons_drop, List.take_append_drop]
        conv => lhs; rw [e, nodeZ_append, hx]
      have hzn : nodeZ R (z.take (k + 1)) = nodeZ x [z[k]] := by rw [hzt, nodeZ_append, hx]
      replace ck : wr.cell? ⟨pb, po + k, none⟩ = some (.int .i64 z[k]) := ck
      generalize z[k] = q at *
      generalize z.drop (k + 1) = zr at *
      have HZS := Lib.hid hzs
      have HZN := Lib.hid hzn
      have hkm := hxin.klen
      have hkl := hxin.name_le.2.2
      have HKC := Lib.hid (fun i (hi : i < x.kids.length) => hxin.kcell hi)
      clear hzt hzs hzn hcell hkp hb hx hz hxin
      obtain ⟨xn, xpa, xpc, xps, xka, xkc, xks⟩ := x
      replace hkm : xks.length ≤ xkc ∧ xkc ≤ 9223372036854775807 := hkm
      replace hkl : xks.length * 64 ≤ 140737488351232 := hkl
      replace hbk : wr.heap[g + 1 + 1]? = some (.cells #[.string xn, .slice xpa xps.length xpc, .slice xka xks.length xkc] 27 (0, 0)) := hbk
      have c0 : wr.cell? ⟨g + 1 + 1, 0, none⟩ = some (.string xn) := by rw [Lib.cell_of_heap hbk]; rfl
      have c1 : wr.cell? ⟨g + 1 + 1, 1, none⟩ = some (.slice xpa xps.length xpc) := by rw [Lib.cell_of_heap hbk]; rfl
      have c2 : wr.cell? ⟨g + 1 + 1, 2, none⟩ = some (.slice xka xks.length xkc) := by rw [Lib.cell_of_heap hbk]; rfl
      clear hbk
      by_cases hq0 : q < 0
      · have q2 : decide (q < 0) = true := decide_eq_true hq0
        have HN : Hid (nodeZ R z = none) := Lib.hid (by rw [HZS.out, nodeZ, if_pos hq0])
        clear hq0
        go_wp2_with fail
        go_quiet (fail)
        go_wp2
        refine bodyPost_ret (v := getVal none) (by simp [results, Try.results7, go_sem, getVal, y0, y1, y2, e0, e1, e2]) rfl ?_
        exact ⟨by rw [HN.out], below_sets (HG.out ▸ HB.out) _ _ (by have := HG.out; omega) _ _ _⟩
      · have q1 : decide (q < 0) = false := decide_eq_false hq0
        by_cases hqk : q.toNat < xks.length
        · obtain ⟨kb, ko, ek, _, d0, d1, d2⟩ := HKC.out _ hqk
          obtain ⟨q, rfl⟩ : ∃ m : Nat, q = (m : Int) := ⟨q.toNat, by omega⟩
          simp only [Int.toNat_natCast] at hqk d0 d1 d2
          obtain rfl : xka = _ := ek
          have q2 : decide ((q : Int) ≥ (xks.length : Int)) = false := decide_eq_false (by omega)
          have q3 : ¬ ((q : Int) ≥ (xks.length : Int)) := by omega
          have HNX : Hid (nodeZ R (z.take (k + 1)) = some xks[q]) := Lib.hid (by
            rw [HZN.out, nodeZ, if_neg (by omega)]
            simp only [Int.toNat_natCast, Nd.kids, List.getElem?_eq_getElem hqk]
            rfl)
          replace d0 : wr.cell? ⟨kb, ko + q * 3, none⟩ = some (.string xks[q].name) := d0
          replace d1 : wr.cell? ⟨kb, ko + q * 3 + 1, none⟩ = some xks[q].pv := d1
          replace d2 : wr.cell? ⟨kb, ko + q * 3 + 2, none⟩ = some xks[q].kv := d2
          obtain ⟨y, hy⟩ : ∃ y, xks[q] = y := ⟨_, rfl⟩
          rw [hy] at HNX d0 d1 d2
          clear hy HKC HZS HZN HX
          obtain ⟨yn, ypa, ypc, yps, yka, ykc, yks⟩ := y
          replace d0 : wr.cell? ⟨kb, ko + q * 3, none⟩ = some (.string yn) := d0
          replace d1 : wr.cell? ⟨kb, ko + q * 3 + 1, none⟩ = some (.slice ypa yps.length ypc) := d1
          replace d2 : wr.cell? ⟨kb, ko + q * 3 + 2, none⟩ = some (.slice yka yks.length ykc) := d2
          generalize xks.length = xkl at *
          go_wp2_with fail
          go_quiet (fail)
          go_wp2_with fail
          go_region
          go_wp2
          go_roundw
          case rel => exact ⟨k + 1, Nd.mk yn ypa ypc yps yka ykc yks, by omega, by go_num, HNX.out, (heap_sets _ _ _ (by omega) _ _ _).trans HZC.out, heap_set3 _ _ HBK.out _ _ _, below_sets HB.out _ _ (by omega) _ _ _⟩
          case measure => simp [intOf]; omega
        · have q2 : decide (q ≥ (xks.length : Int)) = true := decide_eq_true (by omega)
          have HN : Hid (nodeZ R z = none) := Lib.hid (by
            rw [HZS.out, nodeZ, if_neg hq0]
            simp only [Nd.kids, List.getElem?_eq_none (Nat.le_of_not_lt hqk)])
          clear hq0 hqk
          generalize xks.length = xkl at *
          go_wp2_with fail
          go_quiet (fail)
          go_wp2
          refine bodyPost_ret (v := getVal none) (by simp [results, Try.results7, go_sem, getVal, y0, y1, y2, e0, e1, e2]) rfl ?_
          exact ⟨by rw [HN.out], below_sets (HG.out ▸ HB.out) _ _ (by have := HG.out; omega) _ _ _⟩
    · obtain rfl : k = n := by omega
      have HT : Hid (nodeZ R z = some x) := Lib.hid (by
        have e : z.take k = z := List.take_of_length_le (by rw [HPL.out]; exact Nat.le_refl _)
        rw [← hx, e])
      clear hxin hx hz hb
      obtain ⟨xn, xpa, xpc, xps, xka, xkc, xks⟩ := x
      replace hbk : wr.heap[g + 1 + 1]? = some (.cells #[.string xn, .slice xpa xps.length xpc, .slice xka xks.length xkc] 27 (0, 0)) := hbk
      have c0 : wr.cell? ⟨g + 1 + 1, 0, none⟩ = some (.string xn) := by rw [Lib.cell_of_heap hbk]; rfl
      have c1 : wr.cell? ⟨g + 1 + 1, 1, none⟩ = some (.slice xpa xps.length xpc) := by rw [Lib.cell_of_heap hbk]; rfl
      have c2 : wr.cell? ⟨g + 1 + 1, 2, none⟩ = some (.slice xka xks.length xkc) := by rw [Lib.cell_of_heap hbk]; rfl
      clear hbk
      go_wp2
      refine bodyPost_ret (v := getVal (some (Nd.mk xn xpa xpc xps xka xkc xks))) (by simp [results, Try.results7, go_sem, getVal, y0, y1, y2, e0, e1, e2, Nd.val, Nd.name, Nd.pv, Nd.kv, Nd.pa, Nd.pc, Nd.props, Nd.ka, Nd.kc, Nd.kids]) rfl ?_
      exact ⟨by rw [HT.out], below_sets (HG.out ▸ HB.out) 0 _ (by have := HG.out; omega) _ _ _⟩
end Go.Proofs.Ytapfcbcojnplaaa

/-! Numbers in bytes, read by the program: the number, or none; slices of any length. -/
namespace Go.Proofs.Ytapfcbcojnplaaa
open Go.RowKit
set_option linter.unusedVariables false

/-- The number of k bytes from place a on, the greatest first. -/
def numTo (zs : List Int) (a : Nat) : Nat → Int
  | 0 => 0
  | k + 1 => numTo zs a k * 256 + zs.getD (a + k) 0

theorem numTo_bound (zs : List Int) (a : Nat) (hz : ∀ i, 0 ≤ zs.getD i 0 ∧ zs.getD i 0 < 256) : ∀ k, 0 ≤ numTo zs a k ∧ numTo zs a k < 256 ^ k
  | 0 => by simp [numTo]
  | k + 1 => by
    have := numTo_bound zs a hz k
    have := hz (a + k)
    simp only [numTo, Int.pow_succ]
    omega

theorem numTo_lt64 (zs : List Int) (a k : Nat) (hz : ∀ i, 0 ≤ zs.getD i 0 ∧ zs.getD i 0 < 256) (hk : k ≤ 8) : 0 ≤ numTo zs a k ∧ numTo zs a k ≤ 18446744073709551615 := by
  have h := numTo_bound zs a hz k
  have h2 : (256 : Int) ^ k ≤ 256 ^ 8 := by
    have : k = 0 ∨ k = 1 ∨ k = 2 ∨ k = 3 ∨ k = 4 ∨ k = 5 ∨ k = 6 ∨ k = 7 ∨ k = 8 := by omega
    rcases this with h | h | h | h | h | h | h | h | h <;> subst h <;> decide
  have h3 : (256 : Int) ^ 8 = 18446744073709551616 := by decide
  omega

theorem or_byte (v z : Int) (h0 : 0 ≤ v) (h1 : v * 256 + z ≤ 18446744073709551615) (h2 : 0 ≤ z) (h3 : z < 256) : bits .or .u64 (v * 256) z = v * 256 + z := by
  obtain ⟨a, rfl⟩ := Int.eq_ofNat_of_zero_le h0
  obtain ⟨b, rfl⟩ := Int.eq_ofNat_of_zero_le h2
  have e : ((a : Int) * 256) = ((a * 256 : Nat) : Int) := by omega
  rw [e, u64_or_nat (a * 256) b (by omega) (by omega), nat_join 8 (a * 256) b (by omega) (by omega)]
  omega

set_option maxHeartbeats 400000 in
theorem holds_any (A : Option Addr) (n c : Nat) (at_ k : Int) (w : World) (hn : n ≤ 9223372036854775807) (hk : 0 ≤ k ∧ k ≤ 16) (ha : -9223372036854775808 ≤ at_ ∧ at_ ≤ 9223372036854775807) (r : Bool) (hr : r = decide (0 ≤ at_ ∧ k ≤ n - at_)) :
    Calls Try.prog 50 #[.slice A n c, .int .i64 at_, .int .i64 k] w fun e w' => e = .returned (.bool r) ∧ w = w' := by
  obtain ⟨a0, a1⟩ := ha
  by_cases h0 : 0 ≤ at_
  · by_cases h1 : k ≤ (n : Int) - at_
    · obtain rfl : r = true := by rw [hr]; simp; omega
      clear hr
      go_enter Try.func50, Try.ntmps50
      go_wp2
      go_ret
      exact ⟨rfl, rfl⟩
    · obtain rfl : r = false := by rw [hr]; simp; omega
      clear hr
      go_enter Try.func50, Try.ntmps50
      go_wp2
      go_ret
      exact ⟨rfl, rfl⟩
  · obtain rfl : r = false := by rw [hr]; simp; omega
    clear hr
    go_enter Try.func50, Try.ntmps50
    go_wp2
    go_ret
    exact ⟨rfl, rfl⟩

set_option maxHeartbeats 400000 in
theorem numb_no (A : Option Addr) (n c : Nat) (at_ k : Int) (w : World) (h : ¬ (0 ≤ at_ ∧ k ≤ n - at_)) (hn : n ≤ 9223372036854775807) (hk : 0 ≤ k ∧ k ≤ 16) (ha : -9223372036854775808 ≤ at_ ∧ at_ ≤ 9223372036854775807) :
    Calls Try.prog 47 #[.slice A n c, .int .i64 at_, .int .i64 k] w fun e w' => e = .returned (.tuple #[.int .u64 0, .bool false]) ∧ w = w' := by
  have H := holds_any A n c at_ k w hn hk ha false (by simp; omega)
  have HH := Lib.hid H
  clear H h hk ha
  go_enter Try.func47, Try.ntmps47
  go_wp2_with (go_at_call 50; refine HH.out.mono ?_; rintro e w' ⟨rfl, rfl⟩)
  go_ret2
  exact ⟨rfl, rfl⟩

set_option maxHeartbeats 400000 in
theorem numb_yes (A : Option Addr) (n c k a : Nat) (zs : List Int) (w : World) (B : Nat) (hs : Shows w B A n zs) (h : a + k ≤ n) (hn : n ≤ 9223372036854775807) (hnc : n ≤ c) (hc63 : c ≤ maxLen) (hk0 : 0 < k) (hk : k ≤ 8) :
    Calls Try.prog 47 #[.slice A n c, .int .i64 a, .int .i64 k] w fun e w' => e = .returned (.tuple #[.int .u64 (numTo zs a k), .bool true]) ∧ w = w' := by
  have H := holds_any A n c a k w hn (by omega) (by omega) true (by simp; omega)
  have HH := Lib.hid H
  obtain ⟨b, o, rfl, _, hc⟩ := hs.at_ (by omega)
  have hz := hs.byte
  clear hs H
  have HC := Lib.hid hc
  have HZ := Lib.hid hz
  clear hc hz
  unfold maxLen at hc63
  go_enter Try.func47, Try.ntmps47
  go_wp2_with (go_at_call 50; refine HH.out.mono ?_; rintro e w' ⟨rfl, rfl⟩)
  go_loop [8, 23] (fun v i => ∃ j : Nat, j ≤ k ∧ i = .int .i64 j ∧ v = .int .u64 (numTo zs a j)) (fun _ i => k - (intOf i).toNat)
  case atStart => exact ⟨0, by omega, rfl, rfl⟩
  case round =>
    obtain ⟨j, hj, rfl, rfl⟩ := hrel
    by_cases hlt : j < k
    · have hcell := HC.out (a + j) (by omega)
      rw [← Nat.add_assoc] at hcell
      have hzb := HZ.out (a + j)
      have hb := numTo_lt64 zs a j HZ.out (by omega)
      have hb2 := numTo_lt64 zs a (j + 1) HZ.out (by omega)
      simp only [numTo] at hb2
      go_wp2
      go_round
      case rel => exact ⟨j + 1, by omega, by go_num, by
        have e : zs[a + j]?.getD 0 = zs.getD (a + j) 0 := by simp [List.getD]
        rw [e, IntWalk.u64_in (zs.getD (a + j) 0) (by omega), or_byte _ _ hb.1 hb2.2 hzb.1 hzb.2]; rfl⟩
      case measure => simp [intOf]; omega
    · obtain rfl : j = k := by omega
      go_wp2
      go_ret2
      exact ⟨rfl, rfl⟩

/-- words.Get, words.Get64: there are no so many bytes. -/
theorem get_no (A : Option Addr) (n c : Nat) (at_ : Int) (w : World) (h : ¬ (0 ≤ at_ ∧ 4 ≤ n - at_)) (hn : n ≤ 9223372036854775807) (ha : -9223372036854775808 ≤ at_ ∧ at_ ≤ 9223372036854775807) :
    Calls Try.prog 42 #[.slice A n c, .int .i64 at_] w fun e w' => e = .returned (.tuple #[.int .u32 0, .bool false]) ∧ w = w' := by
  have HH := Lib.hid (numb_no A n c at_ 4 w h hn (by omega) ha)
  clear h
  go_enter Try.func42, Try.ntmps42
  go_wp2_with (go_at_call 47; refine HH.out.mono ?_; rintro e w' ⟨rfl, rfl⟩)
  go_ret2
  exact ⟨rfl, rfl⟩
theorem get_yes (A : Option Addr) (n c a : Nat) (zs : List Int) (w : World) (B : Nat) (hs : Shows w B A n zs) (h : a + 4 ≤ n) (hn : n ≤ 9223372036854775807) (hnc : n ≤ c) (hc63 : c ≤ maxLen) :
    Calls Try.prog 42 #[.slice A n c, .int .i64 a] w fun e w' => e = .returned (.tuple #[.int .u32 (numTo zs a 4), .bool true]) ∧ w = w' := by
  have HH := Lib.hid (numb_yes A n c 4 a zs w B hs h hn hnc hc63 (by omega) (by omega))
  have hb := numTo_bound zs a hs.byte 4
  have hb1 : 0 ≤ numTo zs a 4 := hb.1
  have hb2 : numTo zs a 4 ≤ 4294967295 := by have := hb.2; have e : (256 : Int) ^ 4 = 4294967296 := by decide
                                             omega
  clear hb hs h hnc hc63
  go_enter Try.func42, Try.ntmps42
  go_wp2_with (go_at_call 47; refine HH.out.mono ?_; rintro e w' ⟨rfl, rfl⟩)
  go_ret2
  exact ⟨rfl, rfl⟩
end Go.Proofs.Ytapfcbcojnplaaa

/-! decode.Header: the ten cells, or what is wrong with them. -/
namespace Go.Proofs.Ytapfcbcojnplaaa
open Go.RowKit
set_option linter.unusedVariables false
set_option linter.unusedSimpArgs false

/-- Does a part lie within so many bytes, behind the header? -/
def within (a s t : Int) : Bool := decide (40 ≤ a ∧ a ≤ t ∧ s ≤ t - a)

/-- Do the parts that the ten cells tell lie within? -/
def parts (h1 h2 h3 h4 h8 h9 : Int) : Bool := within h2 h9 h1 && (decide (h2 % 4 = 0) && (within h3 h8 h1 && (within h4 0 h1 && decide (h4 % 8 = 0))))

/-- words.Get at a place that is there. -/
theorem get_at (A : Option Addr) (n c a : Nat) (q : Int) (hq : q = (a : Int)) (zs : List Int) (w : World) (B : Nat) (hs : Shows w B A n zs) (h : a + 4 ≤ n) (hn : n ≤ 9223372036854775807) (hnc : n ≤ c) (hc63 : c ≤ maxLen) (x : Int) (hx : numTo zs a 4 = x) :
    Calls Try.prog 42 #[.slice A n c, .int .i64 q] w fun e w' => e = .returned (.tuple #[.int .u32 x, .bool true]) ∧ w = w' := by
  subst hq hx
  exact get_yes A n c a zs w B hs h hn hnc hc63

/-- The i-th of the ten cells. -/
def hcell (zs : List Int) (i : Nat) : Int := numTo zs (i * 4) 4
theorem hcell_bound {zs : List Int} (hz : ∀ i, 0 ≤ zs.getD i 0 ∧ zs.getD i 0 < 256) (i : Nat) : 0 ≤ hcell zs i ∧ hcell zs i ≤ 4294967295 := by
  have h := numTo_bound zs (i * 4) hz 4
  have e : (256 : Int) ^ 4 = 4294967296 := by decide
  unfold hcell
  omega

/-- The ten cells, of which k are read. -/
def filled (f : Nat → Int) (k : Nat) : Array Value := ((List.range 10).map fun j => Value.int .u32 (if j < k then f j else 0)).toArray
theorem filled_set (f : Nat → Int) (k : Nat) (hk : k < 10) : (filled f k).setIfInBounds k (.int .u32 (f k)) = filled f (k + 1) := by
  apply Array.toList_inj.1
  simp only [filled, Array.toList_setIfInBounds]
  apply List.ext_getElem
  · simp
  · intro i h1 h2
    simp only [List.length_map, List.length_range] at h2
    rw [List.getElem_set]
    split
    · subst i; simp
    · simp only [List.getElem_map, List.getElem_range]
      congr 1
      by_cases h : i < k
      · rw [if_pos h, if_pos (by omega)]
      · rw [if_neg h, if_neg (by omega)]
theorem filled_none (f : Nat → Int) : filled f 0 = #[.int .u32 0, .int .u32 0, .int .u32 0, .int .u32 0, .int .u32 0, .int .u32 0, .int .u32 0, .int .u32 0, .int .u32 0, .int .u32 0] := by
  apply Array.toList_inj.1
  simp [filled, List.range_succ]
theorem filled_all (f : Nat → Int) : filled f 10 = #[.int .u32 (f 0), .int .u32 (f 1), .int .u32 (f 2), .int .u32 (f 3), .int .u32 (f 4), .int .u32 (f 5), .int .u32 (f 6), .int .u32 (f 7), .int .u32 (f 8), .int .u32 (f 9)] := by
  apply Array.toList_inj.1
  simp [filled, List.range_succ]
theorem filled_size (f : Nat → Int) (k : Nat) : (filled f k).size = 10 := by simp [filled]

/-- What is wrong with the header of n bytes; 0: nothing. -/
def headE (n : Nat) (x0 x1 x2 x3 x4 x5 x6 x8 x9 : Int) : Int :=
  if x0 = 3490578157 then (if x5 = 17 ∧ x6 = 16 then (if x1 = (n : Int) ∧ parts x1 x2 x3 x4 x8 x9 = true then 0 else 4) else 3) else 2

/-- What Header answers: the cells beside 0, noughts beside an error. -/
def Headed (f : Nat → Int) (E : Int) (e : Ending) : Prop := ∃ v, e = .returned (.tuple #[v, .int .i64 E]) ∧ (E = 0 → v = .agg (filled f 10)) ∧ (E ≠ 0 → v = .agg (filled f 0))

/-- Decode of bytes with no good header: the header's error. -/
theorem headed_ne {f : Nat → Int} {E : Int} {e : Ending} (h : Headed f E e) (hE : E ≠ 0) : e = .returned (.tuple #[.agg #[.int .u32 0, .int .u32 0, .int .u32 0, .int .u32 0, .int .u32 0, .int .u32 0, .int .u32 0, .int .u32 0, .int .u32 0, .int .u32 0], .int .i64 E]) := by
  obtain ⟨v, rfl, _, h2⟩ := h
  rw [h2 hE, filled_none]

end Go.Proofs.Ytapfcbcojnplaaa
