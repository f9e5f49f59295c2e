/-
  Layer 3: the document's first error of a node, and of those below it.
-/
import Derived.Test.YtckdddbiffoolaaDoorTCheckNode
import Derived.BigQuiet
namespace Go.Proofs.YtckdddbiffoolaaDoor
open Go.RowKit
set_option linter.unusedVariables false
set_option linter.unusedSimpArgs false

theorem mem_take_at {α : Type} {l : List α} {k i : Nat} (hk : k < l.length) (hki : k < i) : l[k] ∈ l.take i :=
  List.mem_iff_getElem.2 ⟨k, by rw [List.length_take]; omega, by rw [List.getElem_take]⟩
theorem not_mem_missed {l : List ByteArray} {s : ByteArray} {i : Nat} (h : Missed l s i) : s ∉ l.take i := fun hm => by
  obtain ⟨k, hk, he⟩ := List.mem_iff_getElem.1 hm
  rw [List.length_take] at hk
  rw [List.getElem_take] at he
  exact h.2 k (by omega) (by omega) he

set_option maxHeartbeats 8000000 in
theorem wrong_any : ∀ (n : Nd) (d : Int) (w : World), n.In w w.heap.size → 1 ≤ d → d ≤ 17 → ∀ E : Int, wrongN n d = E → Calls Tryd.prog 12 #[n.val, .int .i64 d] w fun e w' => e = .returned (.int .i64 E) ∧ Below w.heap.size w w' := by
  refine Nd.ind ?_
  intro n ih d w hin hd0 hd1 E hE
  obtain ⟨E1, h1⟩ : ∃ E1, aloneE n d = E1 := ⟨_, rfl⟩
  obtain ⟨r1, hr1⟩ : ∃ r, nameOk n d = r := ⟨_, rfl⟩
  have HE : Hid ((if E1 = 0 then wrongL n.kids (d + 1) else E1) = E) := by rw [← h1, ← wrongN_mk]; exact hE
  have HE1 : Hid ((if 16 < d then 6 else if r1 = false then 5 else if n.props.any misP = true then 5 else if twiceB (n.props.map PV.name) = true then 9 else if twiceB (n.kids.map Nd.name) = true then 9 else 0) = E1) := by
    rw [← hr1]; exact h1
  have HV : Hid (∀ v : Int, v ≠ 0 → E1 = v → E = v) := fun v hv h => by rw [← HE.out, if_neg (by rw [h]; exact hv), h]
  have HI := Lib.hid hin
  have IH := Lib.hid ih
  obtain ⟨hl, hm⟩ := hin.klen
  obtain ⟨hlp, hmp⟩ := hin.plen
  have hnz := hin.name_le.1
  clear hin ih hE h1
  obtain ⟨nm, pa, pc, ps, ka, kc, ks⟩ := n
  replace hl : ks.length ≤ kc := hl
  replace hm : kc ≤ 9223372036854775807 := hm
  replace hlp : ps.length ≤ pc := hlp
  replace hmp : pc ≤ 9223372036854775807 := hmp
  replace hnz : nm.size ≤ 140737488351232 := hnz
  replace HE : Hid ((if E1 = 0 then wrongL ks (d + 1) else E1) = E) := HE
  replace HE1 : Hid ((if 16 < d then 6 else if r1 = false then 5 else if ps.any misP = true then 5 else if twiceB (ps.map PV.name) = true then 9 else if twiceB (ks.map Nd.name) = true then 9 else 0) = E1) := HE1
  have HPM := Lib.hid (show (ps.map PV.name).length = ps.length from List.length_map _)
  have HKM := Lib.hid (show (ks.map Nd.name).length = ks.length from List.length_map _)
  show Calls _ _ #[.agg #[.string nm, .slice pa ps.length pc, .slice ka ks.length kc], .int .i64 d] _ _
  have HB1 := Lib.hid ((Below.refl w.heap.size w).alloc (Nat.le_refl _) (.cells #[Value.string nm, .slice pa ps.length pc, .slice ka ks.length kc] 27))
  by_cases h16 : 16 < d
  · obtain rfl : E = 6 := HV.out 6 (by omega) (by rw [← HE1.out, if_pos h16])
    go_enter Tryd.func12, Tryd.ntmps12
    go_wp2
    go_ret
    exact ⟨rfl, HB1.out⟩
  · have F16 := Lib.hid h16
    have hd16 : ¬ (16 < d) := h16
    clear h16
    have BX : Hid (∀ W : World, Below (w.heap.size + 1) (w.alloc (.cells #[Value.string nm, .slice pa ps.length pc, .slice ka ks.length kc] 27)) W → W.cell? ⟨w.heap.size, 0, none⟩ = some (.string nm) ∧ W.cell? ⟨w.heap.size, 1, none⟩ = some (.slice pa ps.length pc) ∧ W.cell? ⟨w.heap.size, 2, none⟩ = some (.slice ka ks.length kc)) := fun W h =>
      ⟨(h.cell (Nat.lt_succ_self _)).trans (World.cell?_alloc_new _ _ _ _), (h.cell (Nat.lt_succ_self _)).trans (World.cell?_alloc_new _ _ _ _), (h.cell (Nat.lt_succ_self _)).trans (World.cell?_alloc_new _ _ _ _)⟩
    by_cases hd : d = 1
    · subst hd
      have hr1' : nm.toList.isEmpty = r1 := by rw [← hr1, nameOk, if_pos rfl]; rfl
      clear hr1
      cases r1
      · obtain rfl : E = 5 := HV.out 5 (by omega) (by rw [← HE1.out, if_neg (by have := F16.out; omega), if_pos rfl])
        go_enter Tryd.func12, Tryd.ntmps12
        go_wp2
        go_ret
        exact ⟨rfl, HB1.out⟩
      · go_enter Tryd.func12, Tryd.ntmps12
        go_wp2_with fail
        clear hr1'
        go_loopw [34] (fun i wr => ∃ k : Nat, k ≤ ps.length ∧ i = .int .i64 k ∧ Good misP ps k ∧ Below (w.heap.size + 1) (w.alloc (.cells #[Value.string nm, .slice pa ps.length pc, .slice ka ks.length kc] 27)) wr) (fun i _ => ps.length - (intOf i).toNat)
        case atStart => exact ⟨0, Nat.zero_le _, rfl, Good.zero _ _, Below.refl _ _⟩
        case round =>
          obtain ⟨k, hk, rfl, hgood, hb⟩ := hrel
          have HA := Lib.hid hgood
          have HB0 := Lib.hid hb
          have HB := Lib.hid (HB1.out.trans (hb.mono (Nat.le_succ _)))
          obtain ⟨bx0, bx1, bx2⟩ := BX.out _ hb
          clear hgood hb
          by_cases hlt : k < ps.length
          · obtain ⟨b, o, e, hb, c0, c1⟩ := (HI.out.under HB.out).pcell (i := k) hlt
            obtain rfl : pa = _ := e
            replace c0 : _ = some (Value.string ps[k].name) := c0
            clear c1
            obtain ⟨q, hq⟩ : ∃ q, propB ps[k].name = q := ⟨_, rfl⟩
            have C := Lib.hid (refpropB_any ps[k].name wr (HI.out.prop (List.getElem_mem hlt)).1.1 q hq)
            have HQ : Hid (misP ps[k] = !q) := by show misP _ = _; rw [misP, hq]
            clear hq
            cases q
            · obtain rfl : E = 5 := HV.out 5 (by omega) (by rw [← HE1.out, if_neg (by have := F16.out; omega), if_neg (by simp), if_pos (any_at hlt HQ.out)])
              go_wp2_with fail
              refine C.out.mono ?_
              rintro e w' ⟨rfl, rfl⟩
              go_wp2
              go_ret
              exact ⟨rfl, HB.out⟩
            · go_wp2_with fail
              refine C.out.mono ?_
              rintro e w' ⟨rfl, rfl⟩
              go_wp2
              go_roundw
              case rel => exact ⟨k + 1, by omega, by go_num, HA.out.succ hlt HQ.out, HB0.out⟩
              case measure => simp [intOf]; omega
          · have FP : Hid (ps.any misP = false) := HA.out.all hlt
            go_wp2_with fail
            go_loopw [49] (fun i wr => ∃ k : Nat, k ≤ ps.length ∧ i = .int .i64 k ∧ ((ps.map PV.name).take k).Nodup ∧ Below (w.heap.size + 1) (w.alloc (.cells #[Value.string nm, .slice pa ps.length pc, .slice ka ks.length kc] 27)) wr) (fun i _ => ps.length - (intOf i).toNat)
            case atStart => exact ⟨0, Nat.zero_le _, rfl, nodup_zero _, HB0.out⟩
            case round =>
              clear bx0 bx1 bx2 HB0
              obtain ⟨i, hi, rfl, hnd, hb⟩ := hrel
              have HN := Lib.hid hnd
              have HB0 := Lib.hid hb
              obtain ⟨bx0, bx1, bx2⟩ := BX.out _ hb
              clear hnd hb
              by_cases hlt : i < ps.length
              · go_wp2_with fail
                go_loopw [53] (fun j wr => ∃ k : Nat, k ≤ i ∧ j = .int .i64 k ∧ Missed (ps.map PV.name) ps[i].name k ∧ Below (w.heap.size + 1) (w.alloc (.cells #[Value.string nm, .slice pa ps.length pc, .slice ka ks.length kc] 27)) wr) (fun j _ => i - (intOf j).toNat)
                case atStart => exact ⟨0, Nat.zero_le _, rfl, Missed.zero _ _, HB0.out⟩
                case round =>
                  clear bx0 bx1 bx2 HB0
                  obtain ⟨k, hk, rfl, hmiss, hb⟩ := hrel
                  have HA := Lib.hid hmiss
                  have HB0 := Lib.hid hb
                  have HB := Lib.hid (HB1.out.trans (hb.mono (Nat.le_succ _)))
                  obtain ⟨bx0, bx1, bx2⟩ := BX.out _ hb
                  clear hmiss hb
                  by_cases hlt' : k < i
                  · have hkl : k < ps.length := by omega
                    have HKN : Hid ((ps.map PV.name)[k]'(by rw [HPM.out]; exact hkl) = ps[k].name) := List.getElem_map _
                    have HIN : Hid ((ps.map PV.name)[i]'(by rw [HPM.out]; exact hlt) = ps[i].name) := List.getElem_map _
                    obtain ⟨b, o, e, hb, c0, cc⟩ := (HI.out.under HB.out).pcell (i := k) hkl
                    obtain ⟨b', o', e', hb', d0, dd⟩ := (HI.out.under HB.out).pcell (i := i) hlt
                    replace e : pa = _ := e
                    replace e' : pa = _ := e'
                    obtain ⟨rfl, rfl⟩ : b' = b ∧ o' = o := by have := e'.symm.trans e; simpa using this
                    subst e
                    replace c0 : _ = some (Value.string ps[k].name) := c0
                    replace d0 : _ = some (Value.string ps[i].name) := d0
                    clear cc dd e'
                    by_cases hx : ps[k].name = ps[i].name
                    · have hx1 : (ps[k].name.toList == ps[i].name.toList) = true := by rw [hx]; simp
                      have HT : Hid (twiceB (ps.map PV.name) = true) := twice_hit (k := i) (by rw [HPM.out]; exact hlt) (by rw [HIN.out, ← hx, ← HKN.out]; exact mem_take_at (by rw [HPM.out]; exact hkl) hlt')
                      obtain rfl : E = 9 := HV.out 9 (by omega) (by rw [← HE1.out, if_neg (by have := F16.out; omega), if_neg (by simp), if_neg (by rw [FP.out]; simp), if_pos HT.out])
                      clear hx
                      go_wp2_with fail
                      go_region
                      go_wp2
                      go_ret
                      exact ⟨rfl, HB.out.drew⟩
                    · have hx1 : (ps[k].name.toList == ps[i].name.toList) = false := str_ne hx
                      have HF := Lib.hid (HA.out.succ (by rw [HPM.out]; exact hkl) (by rw [HKN.out]; exact hx))
                      clear hx
                      go_wp2_with fail
                      go_region
                      go_wp2
                      go_roundw
                      case rel => exact ⟨k + 1, by omega, by go_num, HF.out, HB0.out.drew⟩
                      case measure => simp [intOf]; omega
                  · have HIN : Hid ((ps.map PV.name)[i]'(by rw [HPM.out]; exact hlt) = ps[i].name) := List.getElem_map _
                    have hki : k = i := by omega
                    have HNX : Hid (((ps.map PV.name).take (i + 1)).Nodup) := nodup_succ HN.out (by rw [HPM.out]; exact hlt) (by rw [HIN.out]; exact not_mem_missed (hki ▸ HA.out))
                    clear hki
                    go_wp2
                    go_roundw
                    case rel => exact ⟨i + 1, by omega, by go_num, HNX.out, HB0.out⟩
                    case measure => simp [intOf]; omega
              · have FTp : Hid (twiceB (ps.map PV.name) = false) := twice_all HN.out (by rw [HPM.out]; exact hlt)
                have HB := Lib.hid (HB1.out.trans (HB0.out.mono (Nat.le_succ _)))
                go_wp2_with fail
                go_loopw [74] (fun i wr => ∃ k : Nat, k ≤ ks.length ∧ i = .int .i64 k ∧ ((ks.map Nd.name).take k).Nodup ∧ Below (w.heap.size + 1) (w.alloc (.cells #[Value.string nm, .slice pa ps.length pc, .slice ka ks.length kc] 27)) wr) (fun i _ => ks.length - (intOf i).toNat)
                case atStart => exact ⟨0, Nat.zero_le _, rfl, nodup_zero _, HB0.out⟩
                case round =>
                  clear bx0 bx1 bx2 HB0
                  obtain ⟨i, hi, rfl, hnd, hb⟩ := hrel
                  have HN := Lib.hid hnd
                  have HB0 := Lib.hid hb
                  obtain ⟨bx0, bx1, bx2⟩ := BX.out _ hb
                  clear hnd hb
                  by_cases hlt : i < ks.length
                  · go_wp2_with fail
                    go_loopw [78] (fun j wr => ∃ k : Nat, k ≤ i ∧ j = .int .i64 k ∧ Missed (ks.map Nd.name) ks[i].name k ∧ Below (w.heap.size + 1) (w.alloc (.cells #[Value.string nm, .slice pa ps.length pc, .slice ka ks.length kc] 27)) wr) (fun j _ => i - (intOf j).toNat)
                    case atStart => exact ⟨0, Nat.zero_le _, rfl, Missed.zero _ _, HB0.out⟩
                    case round =>
                      clear bx0 bx1 bx2 HB0
                      obtain ⟨k, hk, rfl, hmiss, hb⟩ := hrel
                      have HA := Lib.hid hmiss
                      have HB0 := Lib.hid hb
                      have HB := Lib.hid (HB1.out.trans (hb.mono (Nat.le_succ _)))
                      obtain ⟨bx0, bx1, bx2⟩ := BX.out _ hb
                      clear hmiss hb
                      by_cases hlt' : k < i
                      · have hkl : k < ks.length := by omega
                        have HKN : Hid ((ks.map Nd.name)[k]'(by rw [HKM.out]; exact hkl) = ks[k].name) := List.getElem_map _
                        have HIN : Hid ((ks.map Nd.name)[i]'(by rw [HKM.out]; exact hlt) = ks[i].name) := List.getElem_map _
                        obtain ⟨b, o, e, hb, c0, cc⟩ := (HI.out.under HB.out).kcell (i := k) hkl
                        obtain ⟨b', o', e', hb', d0, dd⟩ := (HI.out.under HB.out).kcell (i := i) hlt
                        replace e : ka = _ := e
                        replace e' : ka = _ := e'
                        obtain ⟨rfl, rfl⟩ : b' = b ∧ o' = o := by have := e'.symm.trans e; simpa using this
                        subst e
                        replace c0 : _ = some (Value.string ks[k].name) := c0
                        replace d0 : _ = some (Value.string ks[i].name) := d0
                        clear cc dd e'
                        by_cases hx : ks[k].name = ks[i].name
                        · have hx1 : (ks[k].name.toList == ks[i].name.toList) = true := by rw [hx]; simp
                          have HT : Hid (twiceB (ks.map Nd.name) = true) := twice_hit (k := i) (by rw [HKM.out]; exact hlt) (by rw [HIN.out, ← hx, ← HKN.out]; exact mem_take_at (by rw [HKM.out]; exact hkl) hlt')
                          obtain rfl : E = 9 := HV.out 9 (by omega) (by rw [← HE1.out, if_neg (by have := F16.out; omega), if_neg (by simp), if_neg (by rw [FP.out]; simp), if_neg (by rw [FTp.out]; simp), if_pos HT.out])
                          clear hx
                          go_wp2_with fail
                          go_region
                          go_wp2
                          go_ret
                          exact ⟨rfl, HB.out.drew⟩
                        · have hx1 : (ks[k].name.toList == ks[i].name.toList) = false := str_ne hx
                          have HF := Lib.hid (HA.out.succ (by rw [HKM.out]; exact hkl) (by rw [HKN.out]; exact hx))
                          clear hx
                          go_wp2_with fail
                          go_region
                          go_wp2
                          go_roundw
                          case rel => exact ⟨k + 1, by omega, by go_num, HF.out, HB0.out.drew⟩
                          case measure => simp [intOf]; omega
                      · have HIN : Hid ((ks.map Nd.name)[i]'(by rw [HKM.out]; exact hlt) = ks[i].name) := List.getElem_map _
                        have hki : k = i := by omega
                        have HNX : Hid (((ks.map Nd.name).take (i + 1)).Nodup) := nodup_succ HN.out (by rw [HKM.out]; exact hlt) (by rw [HIN.out]; exact not_mem_missed (hki ▸ HA.out))
                        clear hki
                        go_wp2
                        go_roundw
                        case rel => exact ⟨i + 1, by omega, by go_num, HNX.out, HB0.out⟩
                        case measure => simp [intOf]; omega
                  · have FTk : Hid (twiceB (ks.map Nd.name) = false) := twice_all HN.out (by rw [HKM.out]; exact hlt)
                    have HB := Lib.hid (HB1.out.trans (HB0.out.mono (Nat.le_succ _)))
                    go_wp2_with fail
                    have HF : Hid (wrongL ks 2 = E) := by
                      have h0 : E1 = 0 := by rw [← HE1.out, if_neg (by have := F16.out; omega), if_neg (by simp), if_neg (by rw [FP.out]; simp), if_neg (by rw [FTp.out]; simp), if_neg (by rw [FTk.out]; simp)]
                      have := HE.out
                      rwa [if_pos h0] at this
                    go_loopw [99] (fun i wr => ∃ k : Nat, k ≤ ks.length ∧ i = .int .i64 k ∧ Fine ks 2 k ∧ Below (w.heap.size + 1) (w.alloc (.cells #[Value.string nm, .slice pa ps.length pc, .slice ka ks.length kc] 27)) wr) (fun i _ => ks.length - (intOf i).toNat)
                    case atStart => exact ⟨0, Nat.zero_le _, rfl, Fine.zero _ _, HB0.out⟩
                    case round =>
                      clear bx0 bx1 bx2 HB0 HB
                      obtain ⟨k, hk, rfl, hfine, hb⟩ := hrel
                      have HA := Lib.hid hfine
                      have HB0 := Lib.hid hb
                      have HB := Lib.hid (HB1.out.trans (hb.mono (Nat.le_succ _)))
                      obtain ⟨bx0, bx1, bx2⟩ := BX.out _ hb
                      clear hfine hb
                      by_cases hlt : k < ks.length
                      · obtain ⟨b, o, e, hb, c0, c1, c2⟩ := (HI.out.under HB.out).kcell (i := k) hlt
                        obtain rfl : ka = _ := e
                        replace c0 : _ = some (Value.string ks[k].name) := c0
                        replace c1 : _ = some (Value.slice ks[k].pa ks[k].props.length ks[k].pc) := c1
                        replace c2 : _ = some (Value.slice ks[k].ka ks[k].kids.length ks[k].kc) := c2
                        obtain ⟨F, hF⟩ : ∃ F, wrongN ks[k] 2 = F := ⟨_, rfl⟩
                        have C := Lib.hid (IH.out ks[k] (List.getElem_mem hlt) 2 _ (((HI.out.kid (List.getElem_mem hlt)).under HB.out).more HB.out.size) (by omega) (by omega) F hF)
                        have HQ := Lib.hid hF
                        clear hF
                        go_wp2_with fail
                        refine C.out.mono ?_
                        rintro e w' ⟨rfl, hb'⟩
                        have HB3 := Lib.hid (HB0.out.trans (hb'.mono (by have := HB0.out.size; simpa using this)))
                        have HB4 := Lib.hid (HB.out.trans (hb'.mono HB.out.size))
                        clear hb'
                        by_cases hF0 : F = 0
                        · subst hF0
                          go_wp2
                          go_roundw
                          case rel => exact ⟨k + 1, by omega, by go_num, HA.out.succ hlt HQ.out, HB3.out⟩
                          case measure => simp [intOf]; omega
                        · have f1 : (F == 0) = false := by rw [beq_eq_false_iff_ne]; exact hF0
                          have f2 : (F != 0) = true := by rw [bne, f1]; rfl
                          obtain rfl : E = F := by rw [← HF.out, wrongL_hit 2 ks k hlt HA.out (by rw [HQ.out]; exact hF0)]; exact HQ.out
                          clear hF0
                          go_wp2
                          go_ret
                          exact ⟨rfl, HB4.out⟩
                      · obtain rfl : E = 0 := by rw [← HF.out]; exact wrongL_all 2 ks (fun j hj => HA.out j hj (by omega))
                        go_wp2
                        go_ret
                        exact ⟨rfl, HB.out⟩
    · have hd2 : (d == 1) = false := by rw [beq_eq_false_iff_ne]; exact hd
      have hd3 : 1 < d := by omega
      have CN := Lib.hid (fun w => refnodeB_any nm w hnz r1 (by rw [← hr1, nameOk, if_neg hd]; rfl))
      clear hr1 hd
      cases r1
      · obtain rfl : E = 5 := HV.out 5 (by omega) (by rw [← HE1.out, if_neg (by have := F16.out; omega), if_pos rfl])
        go_enter Tryd.func12, Tryd.ntmps12
        go_wp2_with fail
        refine (CN.out _).mono ?_
        rintro e w' ⟨rfl, rfl⟩
        go_wp2
        go_ret
        exact ⟨rfl, HB1.out⟩
      · go_enter Tryd.func12, Tryd.ntmps12
        go_wp2_with fail
        refine (CN.out _).mono ?_
        rintro e w' ⟨rfl, rfl⟩
        go_wp2_with fail
        go_loopw [34] (fun i wr => ∃ k : Nat, k ≤ ps.length ∧ i = .int .i64 k ∧ Good misP ps k ∧ Below (w.heap.size + 1) (w.alloc (.cells #[Value.string nm, .slice pa ps.length pc, .slice ka ks.length kc] 27)) wr) (fun i _ => ps.length - (intOf i).toNat)
        case atStart => exact ⟨0, Nat.zero_le _, rfl, Good.zero _ _, Below.refl _ _⟩
        case round =>
          obtain ⟨k, hk, rfl, hgood, hb⟩ := hrel
          have HA := Lib.hid hgood
          have HB0 := Lib.hid hb
          have HB := Lib.hid (HB1.out.trans (hb.mono (Nat.le_succ _)))
          obtain ⟨bx0, bx1, bx2⟩ := BX.out _ hb
          clear hgood hb
          by_cases hlt : k < ps.length
          · obtain ⟨b, o, e, hb, c0, c1⟩ := (HI.out.under HB.out).pcell (i := k) hlt
            obtain rfl : pa = _ := e
            replace c0 : _ = some (Value.string ps[k].name) := c0
            clear c1
            obtain ⟨q, hq⟩ : ∃ q, propB ps[k].name = q := ⟨_, rfl⟩
            have C := Lib.hid (refpropB_any ps[k].name wr (HI.out.prop (List.getElem_mem hlt)).1.1 q hq)
            have HQ : Hid (misP ps[k] = !q) := by show misP _ = _; rw [misP, hq]
            clear hq
            cases q
            · obtain rfl : E = 5 := HV.out 5 (by omega) (by rw [← HE1.out, if_neg (by have := F16.out; omega), if_neg (by simp), if_pos (any_at hlt HQ.out)])
              go_wp2_with fail
              refine C.out.mono ?_
              rintro e w' ⟨rfl, rfl⟩
              go_wp2
              go_ret
              exact ⟨rfl, HB.out⟩
            · go_wp2_with fail
              refine C.out.mono ?_
              rintro e w' ⟨rfl, rfl⟩
              go_wp2
              go_roundw
              case rel => exact ⟨k + 1, by omega, by go_num, HA.out.succ hlt HQ.out, HB0.out⟩
              case measure => simp [intOf]; omega
          · have FP : Hid (ps.any misP = false) := HA.out.all hlt
            go_wp2_with fail
            go_loopw [49] (fun i wr => ∃ k : Nat, k ≤ ps.length ∧ i = .int .i64 k ∧ ((ps.map PV.name).take k).Nodup ∧ Below (w.heap.size + 1) (w.alloc (.cells #[Value.string nm, .slice pa ps.length pc, .slice ka ks.length kc] 27)) wr) (fun i _ => ps.length - (intOf i).toNat)
            case atStart => exact ⟨0, Nat.zero_le _, rfl, nodup_zero _, HB0.out⟩
            case round =>
              clear bx0 bx1 bx2 HB0
              obtain ⟨i, hi, rfl, hnd, hb⟩ := hrel
              have HN := Lib.hid hnd
              have HB0 := Lib.hid hb
              obtain ⟨bx0, bx1, bx2⟩ := BX.out _ hb
              clear hnd hb
              by_cases hlt : i < ps.length
              · go_wp2_with fail
                go_loopw [53] (fun j wr => ∃ k : Nat, k ≤ i ∧ j = .int .i64 k ∧ Missed (ps.map PV.name) ps[i].name k ∧ Below (w.heap.size + 1) (w.alloc (.cells #[Value.string nm, .slice pa ps.length pc, .slice ka ks.length kc] 27)) wr) (fun j _ => i - (intOf j).toNat)
                case atStart => exact ⟨0, Nat.zero_le _, rfl, Missed.zero _ _, HB0.out⟩
                case round =>
                  clear bx0 bx1 bx2 HB0
                  obtain ⟨k, hk, rfl, hmiss, hb⟩ := hrel
                  have HA := Lib.hid hmiss
                  have HB0 := Lib.hid hb
                  have HB := Lib.hid (HB1.out.trans (hb.mono (Nat.le_succ _)))
                  obtain ⟨bx0, bx1, bx2⟩ := BX.out _ hb
                  clear hmiss hb
                  by_cases hlt' : k < i
                  · have hkl : k < ps.length := by omega
                    have HKN : Hid ((ps.map PV.name)[k]'(by rw [HPM.out]; exact hkl) = ps[k].name) := List.getElem_map _
                    have HIN : Hid ((ps.map PV.name)[i]'(by rw [HPM.out]; exact hlt) = ps[i].name) := List.getElem_map _
                    obtain ⟨b, o, e, hb, c0, cc⟩ := (HI.out.under HB.out).pcell (i := k) hkl
                    obtain ⟨b', o', e', hb', d0, dd⟩ := (HI.out.under HB.out).pcell (i := i) hlt
                    replace e : pa = _ := e
                    replace e' : pa = _ := e'
                    obtain ⟨rfl, rfl⟩ : b' = b ∧ o' = o := by have := e'.symm.trans e; simpa using this
                    subst e
                    replace c0 : _ = some (Value.string ps[k].name) := c0
                    replace d0 : _ = some (Value.string ps[i].name) := d0
                    clear cc dd e'
                    by_cases hx : ps[k].name = ps[i].name
                    · have hx1 : (ps[k].name.toList == ps[i].name.toList) = true := by rw [hx]; simp
                      have HT : Hid (twiceB (ps.map PV.name) = true) := twice_hit (k := i) (by rw [HPM.out]; exact hlt) (by rw [HIN.out, ← hx, ← HKN.out]; exact mem_take_at (by rw [HPM.out]; exact hkl) hlt')
                      obtain rfl : E = 9 := HV.out 9 (by omega) (by rw [← HE1.out, if_neg (by have := F16.out; omega), if_neg (by simp), if_neg (by rw [FP.out]; simp), if_pos HT.out])
                      clear hx
                      go_wp2_with fail
                      go_region
                      go_wp2
                      go_ret
                      exact ⟨rfl, HB.out.drew⟩
                    · have hx1 : (ps[k].name.toList == ps[i].name.toList) = false := str_ne hx
                      have HF := Lib.hid (HA.out.succ (by rw [HPM.out]; exact hkl) (by rw [HKN.out]; exact hx))
                      clear hx
                      go_wp2_with fail
                      go_region
                      go_wp2
                      go_roundw
                      case rel => exact ⟨k + 1, by omega, by go_num, HF.out, HB0.out.drew⟩
                      case measure => simp [intOf]; omega
                  · have HIN : Hid ((ps.map PV.name)[i]'(by rw [HPM.out]; exact hlt) = ps[i].name) := List.getElem_map _
                    have hki : k = i := by omega
                    have HNX : Hid (((ps.map PV.name).take (i + 1)).Nodup) := nodup_succ HN.out (by rw [HPM.out]; exact hlt) (by rw [HIN.out]; exact not_mem_missed (hki ▸ HA.out))
                    clear hki
                    go_wp2
                    go_roundw
                    case rel => exact ⟨i + 1, by omega, by go_num, HNX.out, HB0.out⟩
                    case measure => simp [intOf]; omega
              · have FTp : Hid (twiceB (ps.map PV.name) = false) := twice_all HN.out (by rw [HPM.out]; exact hlt)
                have HB := Lib.hid (HB1.out.trans (HB0.out.mono (Nat.le_succ _)))
                go_wp2_with fail
                go_loopw [74] (fun i wr => ∃ k : Nat, k ≤ ks.length ∧ i = .int .i64 k ∧ ((ks.map Nd.name).take k).Nodup ∧ Below (w.heap.size + 1) (w.alloc (.cells #[Value.string nm, .slice pa ps.length pc, .slice ka ks.length kc] 27)) wr) (fun i _ => ks.length - (intOf i).toNat)
                case atStart => exact ⟨0, Nat.zero_le _, rfl, nodup_zero _, HB0.out⟩
                case round =>
                  clear bx0 bx1 bx2 HB0
                  obtain ⟨i, hi, rfl, hnd, hb⟩ := hrel
                  have HN := Lib.hid hnd
                  have HB0 := Lib.hid hb
                  obtain ⟨bx0, bx1, bx2⟩ := BX.out _ hb
                  clear hnd hb
                  by_cases hlt : i < ks.length
                  · go_wp2_with fail
                    go_loopw [78] (fun j wr => ∃ k : Nat, k ≤ i ∧ j = .int .i64 k ∧ Missed (ks.map Nd.name) ks[i].name k ∧ Below (w.heap.size + 1) (w.alloc (.cells #[Value.string nm, .slice pa ps.length pc, .slice ka ks.length kc] 27)) wr) (fun j _ => i - (intOf j).toNat)
                    case atStart => exact ⟨0, Nat.zero_le _, rfl, Missed.zero _ _, HB0.out⟩
                    case round =>
                      clear bx0 bx1 bx2 HB0
                      obtain ⟨k, hk, rfl, hmiss, hb⟩ := hrel
                      have HA := Lib.hid hmiss
                      have HB0 := Lib.hid hb
                      have HB := Lib.hid (HB1.out.trans (hb.mono (Nat.le_succ _)))
                      obtain ⟨bx0, bx1, bx2⟩ := BX.out _ hb
                      clear hmiss hb
                      by_cases hlt' : k < i
                      · have hkl : k < ks.length := by omega
                        have HKN : Hid ((ks.map Nd.name)[k]'(by rw [HKM.out]; exact hkl) = ks[k].name) := List.getElem_map _
                        have HIN : Hid ((ks.map Nd.name)[i]'(by rw [HKM.out]; exact hlt) = ks[i].name) := List.getElem_map _
                        obtain ⟨b, o, e, hb, c0, cc⟩ := (HI.out.under HB.out).kcell (i := k) hkl
                        obtain ⟨b', o', e', hb', d0, dd⟩ := (HI.out.under HB.out).kcell (i := i) hlt
                        replace e : ka = _ := e
                        replace e' : ka = _ := e'
                        obtain ⟨rfl, rfl⟩ : b' = b ∧ o' = o := by have := e'.symm.trans e; simpa using this
                        subst e
                        replace c0 : _ = some (Value.string ks[k].name) := c0
                        replace d0 : _ = some (Value.string ks[i].name) := d0
                        clear cc dd e'
                        by_cases hx : ks[k].name = ks[i].name
                        · have hx1 : (ks[k].name.toList == ks[i].name.toList) = true := by rw [hx]; simp
                          have HT : Hid (twiceB (ks.map Nd.name) = true) := twice_hit (k := i) (by rw [HKM.out]; exact hlt) (by rw [HIN.out, ← hx, ← HKN.out]; exact mem_take_at (by rw [HKM.out]; exact hkl) hlt')
                          obtain rfl : E = 9 := HV.out 9 (by omega) (by rw [← HE1.out, if_neg (by have := F16.out; omega), if_neg (by simp), if_neg (by rw [FP.out]; simp), if_neg (by rw [FTp.out]; simp), if_pos HT.out])
                          clear hx
                          go_wp2_with fail
                          go_region
                          go_wp2
                          go_ret
                          exact ⟨rfl, HB.out.drew⟩
                        · have hx1 : (ks[k].name.toList == ks[i].name.toList) = false := str_ne hx
                          have HF := Lib.hid (HA.out.succ (by rw [HKM.out]; exact hkl) (by rw [HKN.out]; exact hx))
                          clear hx
                          go_wp2_with fail
                          go_region
                          go_wp2
                          go_roundw
                          case rel => exact ⟨k + 1, by omega, by go_num, HF.out, HB0.out.drew⟩
                          case measure => simp [intOf]; omega
                      · have HIN : Hid ((ks.map Nd.name)[i]'(by rw [HKM.out]; exact hlt) = ks[i].name) := List.getElem_map _
                        have hki : k = i := by omega
                        have HNX : Hid (((ks.map Nd.name).take (i + 1)).Nodup) := nodup_succ HN.out (by rw [HKM.out]; exact hlt) (by rw [HIN.out]; exact not_mem_missed (hki ▸ HA.out))
                        clear hki
                        go_wp2
                        go_roundw
                        case rel => exact ⟨i + 1, by omega, by go_num, HNX.out, HB0.out⟩
                        case measure => simp [intOf]; omega
                  · have FTk : Hid (twiceB (ks.map Nd.name) = false) := twice_all HN.out (by rw [HKM.out]; exact hlt)
                    have HB := Lib.hid (HB1.out.trans (HB0.out.mono (Nat.le_succ _)))
                    go_wp2_with fail
                    have HF : Hid (wrongL ks (d + 1) = E) := by
                      have h0 : E1 = 0 := by rw [← HE1.out, if_neg (by have := F16.out; omega), if_neg (by simp), if_neg (by rw [FP.out]; simp), if_neg (by rw [FTp.out]; simp), if_neg (by rw [FTk.out]; simp)]
                      have := HE.out
                      rwa [if_pos h0] at this
                    go_loopw [99] (fun i wr => ∃ k : Nat, k ≤ ks.length ∧ i = .int .i64 k ∧ Fine ks (d + 1) k ∧ Below (w.heap.size + 1) (w.alloc (.cells #[Value.string nm, .slice pa ps.length pc, .slice ka ks.length kc] 27)) wr) (fun i _ => ks.length - (intOf i).toNat)
                    case atStart => exact ⟨0, Nat.zero_le _, rfl, Fine.zero _ _, HB0.out⟩
                    case round =>
                      clear bx0 bx1 bx2 HB0 HB
                      obtain ⟨k, hk, rfl, hfine, hb⟩ := hrel
                      have HA := Lib.hid hfine
                      have HB0 := Lib.hid hb
                      have HB := Lib.hid (HB1.out.trans (hb.mono (Nat.le_succ _)))
                      obtain ⟨bx0, bx1, bx2⟩ := BX.out _ hb
                      clear hfine hb
                      by_cases hlt : k < ks.length
                      · obtain ⟨b, o, e, hb, c0, c1, c2⟩ := (HI.out.under HB.out).kcell (i := k) hlt
                        obtain rfl : ka = _ := e
                        replace c0 : _ = some (Value.string ks[k].name) := c0
                        replace c1 : _ = some (Value.slice ks[k].pa ks[k].props.length ks[k].pc) := c1
                        replace c2 : _ = some (Value.slice ks[k].ka ks[k].kids.length ks[k].kc) := c2
                        obtain ⟨F, hF⟩ : ∃ F, wrongN ks[k] (d + 1) = F := ⟨_, rfl⟩
                        have C := Lib.hid (IH.out ks[k] (List.getElem_mem hlt) (d + 1) _ (((HI.out.kid (List.getElem_mem hlt)).under HB.out).more HB.out.size) (by omega) (by omega) F hF)
                        have HQ := Lib.hid hF
                        clear hF
                        go_wp2_with fail
                        refine C.out.mono ?_
                        rintro e w' ⟨rfl, hb'⟩
                        have HB3 := Lib.hid (HB0.out.trans (hb'.mono (by have := HB0.out.size; simpa using this)))
                        have HB4 := Lib.hid (HB.out.trans (hb'.mono HB.out.size))
                        clear hb'
                        by_cases hF0 : F = 0
                        · subst hF0
                          go_wp2
                          go_roundw
                          case rel => exact ⟨k + 1, by omega, by go_num, HA.out.succ hlt HQ.out, HB3.out⟩
                          case measure => simp [intOf]; omega
                        · have f1 : (F == 0) = false := by rw [beq_eq_false_iff_ne]; exact hF0
                          have f2 : (F != 0) = true := by rw [bne, f1]; rfl
                          obtain rfl : E = F := by rw [← HF.out, wrongL_hit (d + 1) ks k hlt HA.out (by rw [HQ.out]; exact hF0)]; exact HQ.out
                          clear hF0
                          go_wp2
                          go_ret
                          exact ⟨rfl, HB4.out⟩
                      · obtain rfl : E = 0 := by rw [← HF.out]; exact wrongL_all (d + 1) ks (fun j hj => HA.out j hj (by omega))
                        go_wp2
                        go_ret
                        exact ⟨rfl, HB.out⟩
end Go.Proofs.YtckdddbiffoolaaDoor
