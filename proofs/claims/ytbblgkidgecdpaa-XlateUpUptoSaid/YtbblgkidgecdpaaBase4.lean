/-
  Base, part 4: what the proofs of this claim lean on.
-/
import Derived.Test.YtbblgkidgecdpaaBase3
import Derived.BigQuiet
import Derived.Test.YtbblgkidgecdpaaBase2
import Derived.Deep.DrawnRows
import Derived.Laws.Bits64
import Derived.Laws.BitsAllLaws

/-! Layer 3: the document's first error of a node, and of those below it. -/
namespace Go.Proofs.Ytbblgkidgecdpaa
open Go.RowKit
set_option linter.unusedVariables false
set_option linter.unusedSimpArgs false

theorem mem_take_at {α : Type} {l : List α} {k i : Nat} (hk : k < l.length) (hki : k < i) : l[k] ∈ l.take i :=
  List.mem_iff_getElem.2 ⟨k, by rw [List.length_take]; omega, by rw [List.getElem_take]⟩
theorem not_mem_missed {l : List ByteArray} {s : ByteArray} {i : Nat} (h : Missed l s i) : s ∉ l.take i := fun hm => by
  obtain ⟨k, hk, he⟩ := List.mem_iff_getElem.1 hm
  rw [List.length_take] at hk
  rw [List.getElem_take] at he
  exact h.2 k (by omega) (by omega) he

set_option maxHeartbeats 8000000 in
theorem wrong_any : ∀ (n : Nd) (d : Int) (w : World), n.In w w.heap.size → 1 ≤ d → d ≤ 17 → ∀ E : Int, wrongN n d = E → Calls Try.prog 27 #[n.val, .int .i64 d] w fun e w' => e = .returned (.int .i64 E) ∧ Below w.heap.size w w' := by
  refine Nd.ind ?_
  intro n ih d w hin hd0 hd1 E hE
  obtain ⟨E1, h1⟩ : ∃ E1, aloneE n d = E1 := ⟨_, rfl⟩
  obtain ⟨r1, hr1⟩ : ∃ r, nameOk n d = r := ⟨_, rfl⟩
  have HE : Hid ((if E1 = 0 then wrongL n.kids (d + 1) else E1) = E) := by rw [← h1, ← wrongN_mk]; exact hE
  have HE1 : Hid ((if 16 < d then 6 else if r1 = false then 5 else if n.props.any misP = true then 5 else if twiceB (n.props.map PV.name) = true then 9 else if twiceB (n.kids.map Nd.name) = true then 9 else 0) = E1) := by
    rw [← hr1]; exact h1
  have HV : Hid (∀ v : Int, v ≠ 0 → E1 = v → E = v) := fun v hv h => by rw [← HE.out, if_neg (by rw [h]; exact hv), h]
  have HI := Lib.hid hin
  have IH := Lib.hid ih
  obtain ⟨hl, hm⟩ := hin.klen
  obtain ⟨hlp, hmp⟩ := hin.plen
  have hnz := hin.name_le.1
  clear hin ih hE h1
  obtain ⟨nm, pa, pc, ps, ka, kc, ks⟩ := n
  replace hl : ks.length ≤ kc := hl
  replace hm : kc ≤ 9223372036854775807 := hm
  replace hlp : ps.length ≤ pc := hlp
  replace hmp : pc ≤ 9223372036854775807 := hmp
  replace hnz : nm.size ≤ 140737488351232 := hnz
  replace HE : Hid ((if E1 = 0 then wrongL ks (d + 1) else E1) = E) := HE
  replace HE1 : Hid ((if 16 < d then 6 else if r1 = false then 5 else if ps.any misP = true then 5 else if twiceB (ps.map PV.name) = true then 9 else if twiceB (ks.map Nd.name) = true then 9 else 0) = E1) := HE1
  have HPM := Lib.hid (show (ps.map PV.name).length = ps.length from List.length_map _)
  have HKM := Lib.hid (show (ks.map Nd.name).length = ks.length from List.length_map _)
  show Calls _ _ #[.agg #[.string nm, .slice pa ps.length pc, .slice ka ks.length kc], .int .i64 d] _ _
  have HB1 := Lib.hid ((Below.refl w.heap.size w).alloc (Nat.le_refl _) (.cells #[Value.string nm, .slice pa ps.length pc, .slice ka ks.length kc] 25))
  by_cases h16 : 16 < d
  · obtain rfl : E = 6 := HV.out 6 (by omega) (by rw [← HE1.out, if_pos h16])
    go_enter Try.func27, Try.ntmps27
    go_wp2
    go_ret
    exact ⟨rfl, HB1.out⟩
  · have F16 := Lib.hid h16
    have hd16 : ¬ (16 < d) := h16
    clear h16
    have BX : Hid (∀ W : World, Below (w.heap.size + 1) (w.alloc (.cells #[Value.string nm, .slice pa ps.length pc, .slice ka ks.length kc] 25)) W → W.cell? ⟨w.heap.size, 0, none⟩ = some (.string nm) ∧ W.cell? ⟨w.heap.size, 1, none⟩ = some (.slice pa ps.length pc) ∧ W.cell? ⟨w.heap.size, 2, none⟩ = some (.slice ka ks.length kc)) := fun W h =>
      ⟨(h.cell (Nat.lt_succ_self _)).trans (World.cell?_alloc_new _ _ _ _), (h.cell (Nat.lt_succ_self _)).trans (World.cell?_alloc_new _ _ _ _), (h.cell (Nat.lt_succ_self _)).trans (World.cell?_alloc_new _ _ _ _)⟩
    by_cases hd : d = 1
    · subst hd
      have hr1' : nm.toList.isEmpty = r1 := by rw [← hr1, nameOk, if_pos rfl]; rfl
      clear hr1
      cases r1
      · obtain rfl : E = 5 := HV.out 5 (by omega) (by rw [← HE1.out, if_neg (by have := F16.out; omega), if_pos rfl])
        go_enter Try.func27, Try.ntmps27
        go_wp2
        go_ret
        exact ⟨rfl, HB1.out⟩
      · go_enter Try.func27, Try.ntmps27
        go_wp2_with fail
        clear hr1'
        go_loopw [34] (fun i wr => ∃ k : Nat, k ≤ ps.length ∧ i = .int .i64 k ∧ Good misP ps k ∧ Below (w.heap.size + 1) (w.alloc (.cells #[Value.string nm, .slice pa ps.length pc, .slice ka ks.length kc] 25)) wr) (fun i _ => ps.length - (intOf i).toNat)
        case atStart => exact ⟨0, Nat.zero_le _, rfl, Good.zero _ _, Below.refl _ _⟩
        case round =>
          obtain ⟨k, hk, rfl, hgood, hb⟩ := hrel
          have HA := Lib.hid hgood
          have HB0 := Lib.hid hb
          have HB := Lib.hid (HB1.out.trans (hb.mono (Nat.le_succ _)))
          obtain ⟨bx0, bx1, bx2⟩ := BX.out _ hb
          clear hgood hb
          by_cases hlt : k < ps.length
          · obtain ⟨b, o, e, hb, c0, c1⟩ := (HI.out.under HB.out).pcell (i := k) hlt
            obtain rfl : pa = _ := e
            replace c0 : _ = some (Value.string ps[k].name) := c0
            clear c1
            obtain ⟨q, hq⟩ : ∃ q, propB ps[k].name = q := ⟨_, rfl⟩
            have C := Lib.hid (refpropB_any ps[k].name wr (HI.out.prop (List.getElem_mem hlt)).1.1 q hq)
            have HQ : Hid (misP ps[k] = !q) := by show misP _ = _; rw [misP, hq]
            clear hq
            cases q
            · obtain rfl : E = 5 := HV.out 5 (by omega) (by rw [← HE1.out, if_neg (by have := F16.out; omega), if_neg (by simp), if_pos (any_at hlt HQ.out)])
              go_wp2_with fail
              refine C.out.mono ?_
              rintro e w' ⟨rfl, rfl⟩
              go_wp2
              go_ret
              exact ⟨rfl, HB.out⟩
            · go_wp2_with fail
              refine C.out.mono ?_
              rintro e w' ⟨rfl, rfl⟩
              go_wp2
              go_roundw
              case rel => exact ⟨k + 1, by omega, by go_num, HA.out.succ hlt HQ.out, HB0.out⟩
              case measure => simp [intOf]; omega
          · have FP : Hid (ps.any misP = false) := HA.out.all hlt
            go_wp2_with fail
            go_loopw [49] (fun i wr => ∃ k : Nat, k ≤ ps.length ∧ i = .int .i64 k ∧ ((ps.map PV.name).take k).Nodup ∧ Below (w.heap.size + 1) (w.alloc (.cells #[Value.string nm, .slice pa ps.length pc, .slice ka ks.length kc] 25)) wr) (fun i _ => ps.length - (intOf i).toNat)
            case atStart => exact ⟨0, Nat.zero_le _, rfl, nodup_zero _, HB0.out⟩
            case round =>
              clear bx0 bx1 bx2 HB0
              obtain ⟨i, hi, rfl, hnd, hb⟩ := hrel
              have HN := Lib.hid hnd
              have HB0 := Lib.hid hb
              obtain ⟨bx0, bx1, bx2⟩ := BX.out _ hb
              clear hnd hb
              by_cases hlt : i < ps.length
              · go_wp2_with fail
                go_loopw [53] (fun j wr => ∃ k : Nat, k ≤ i ∧ j = .int .i64 k ∧ Missed (ps.map PV.name) ps[i].name k ∧ Below (w.heap.size + 1) (w.alloc (.cells #[Value.string nm, .slice pa ps.length pc, .slice ka ks.length kc] 25)) wr) (fun j _ => i - (intOf j).toNat)
                case atStart => exact ⟨0, Nat.zero_le _, rfl, Missed.zero _ _, HB0.out⟩
                case round =>
                  clear bx0 bx1 bx2 HB0
                  obtain ⟨k, hk, rfl, hmiss, hb⟩ := hrel
                  have HA := Lib.hid hmiss
                  have HB0 := Lib.hid hb
                  have HB := Lib.hid (HB1.out.trans (hb.mono (Nat.le_succ _)))
                  obtain ⟨bx0, bx1, bx2⟩ := BX.out _ hb
                  clear hmiss hb
                  by_cases hlt' : k < i
                  · have hkl : k < ps.length := by omega
                    have HKN : Hid ((ps.map PV.name)[k]'(by rw [HPM.out]; exact hkl) = ps[k].name) := List.getElem_map _
                    have HIN : Hid ((ps.map PV.name)[i]'(by rw [HPM.out]; exact hlt) = ps[i].name) := List.getElem_map _
                    obtain ⟨b, o, e, hb, c0, cc⟩ := (HI.out.under HB.out).pcell (i := k) hkl
                    obtain ⟨b', o', e', hb', d0, dd⟩ := (HI.out.under HB.out).pcell (i := i) hlt
                    replace e : pa = _ := e
                    replace e' : pa = _ := e'
                    obtain ⟨rfl, rfl⟩ : b' = b ∧ o' = o := by have := e'.symm.trans e; simpa using this
                    subst e
                    replace c0 : _ = some (Value.string ps[k].name) := c0
                    replace d0 : _ = some (Value.string ps[i].name) := d0
                    clear cc dd e'
                    by_cases hx : ps[k].name = ps[i].name
                    · have hx1 : (ps[k].name.toList == ps[i].name.toList) = true := by rw [hx]; simp
                      have HT : Hid (twiceB (ps.map PV.name) = true) := twice_hit (k := i) (by rw [HPM.out]; exact hlt) (by rw [HIN.out, ← hx, ← HKN.out]; exact mem_take_at (by rw [HPM.out]; exact hkl) hlt')
                      obtain rfl : E = 9 := HV.out 9 (by omega) (by rw [← HE1.out, if_neg (by have := F16.out; omega), if_neg (by simp), if_neg (by rw [FP.out]; simp), if_pos HT.out])
                      clear hx
                      go_wp2_with fail
                      go_region
                      go_wp2
                      go_ret
                      exact ⟨rfl, HB.out.drew⟩
                    · have hx1 : (ps[k].name.toList == ps[i].name.toList) = false := str_ne hx
                      have HF := Lib.hid (HA.out.succ (by rw [HPM.out]; exact hkl) (by rw [HKN.out]; exact hx))
                      clear hx
                      go_wp2_with fail
                      go_region
                      go_wp2
                      go_roundw
                      case rel => exact ⟨k + 1, by omega, by go_num, HF.out, HB0.out.drew⟩
                      case measure => simp [intOf]; omega
                  · have HIN : Hid ((ps.map PV.name)[i]'(by rw [HPM.out]; exact hlt) = ps[i].name) := List.getElem_map _
                    have hki : k = i := by omega
                    have HNX : Hid (((ps.map PV.name).take (i + 1)).Nodup) := nodup_succ HN.out (by rw [HPM.out]; exact hlt) (by rw [HIN.out]; exact not_mem_missed (hki ▸ HA.out))
                    clear hki
                    go_wp2
                    go_roundw
                    case rel => exact ⟨i + 1, by omega, by go_num, HNX.out, HB0.out⟩
                    case measure => simp [intOf]; omega
              · have FTp : Hid (twiceB (ps.map PV.name) = false) := twice_all HN.out (by rw [HPM.out]; exact hlt)
                have HB := Lib.hid (HB1.out.trans (HB0.out.mono (Nat.le_succ _)))
                go_wp2_with fail
                go_loopw [74] (fun i wr => ∃ k : Nat, k ≤ ks.length ∧ i = .int .i64 k ∧ ((ks.map Nd.name).take k).Nodup ∧ Below (w.heap.size + 1) (w.alloc (.cells #[Value.string nm, .slice pa ps.length pc, .slice ka ks.length kc] 25)) wr) (fun i _ => ks.length - (intOf i).toNat)
                case atStart => exact ⟨0, Nat.zero_le _, rfl, nodup_zero _, HB0.out⟩
                case round =>
                  clear bx0 bx1 bx2 HB0
                  obtain ⟨i, hi, rfl, hnd, hb⟩ := hrel
                  have HN := Lib.hid hnd
                  have HB0 := Lib.hid hb
                  obtain ⟨bx0, bx1, bx2⟩ := BX.out _ hb
                  clear hnd hb
                  by_cases hlt : i < ks.length
                  · go_wp2_with fail
                    go_loopw [78] (fun j wr => ∃ k : Nat, k ≤ i ∧ j = .int .i64 k ∧ Missed (ks.map Nd.name) ks[i].name k ∧ Below (w.heap.size + 1) (w.alloc (.cells #[Value.string nm, .slice pa ps.length pc, .slice ka ks.length kc] 25)) wr) (fun j _ => i - (intOf j).toNat)
                    case atStart => exact ⟨0, Nat.zero_le _, rfl, Missed.zero _ _, HB0.out⟩
                    case round =>
                      clear bx0 bx1 bx2 HB0
                      obtain ⟨k, hk, rfl, hmiss, hb⟩ := hrel
                      have HA := Lib.hid hmiss
                      have HB0 := Lib.hid hb
                      have HB := Lib.hid (HB1.out.trans (hb.mono (Nat.le_succ _)))
                      obtain ⟨bx0, bx1, bx2⟩ := BX.out _ hb
                      clear hmiss hb
                      by_cases hlt' : k < i
                      · have hkl : k < ks.length := by omega
                        have HKN : Hid ((ks.map Nd.name)[k]'(by rw [HKM.out]; exact hkl) = ks[k].name) := List.getElem_map _
                        have HIN : Hid ((ks.map Nd.name)[i]'(by rw [HKM.out]; exact hlt) = ks[i].name) := List.getElem_map _
                        obtain ⟨b, o, e, hb, c0, cc⟩ := (HI.out.under HB.out).kcell (i := k) hkl
                        obtain ⟨b', o', e', hb', d0, dd⟩ := (HI.out.under HB.out).kcell (i := i) hlt
                        replace e : ka = _ := e
                        replace e' : ka = _ := e'
                        obtain ⟨rfl, rfl⟩ : b' = b ∧ o' = o := by have := e'.symm.trans e; simpa using this
                        subst e
                        replace c0 : _ = some (Value.string ks[k].name) := c0
                        replace d0 : _ = some (Value.string ks[i].name) := d0
                        clear cc dd e'
                        by_cases hx : ks[k].name = ks[i].name
                        · have hx1 : (ks[k].name.toList == ks[i].name.toList) = true := by rw [hx]; simp
                          have HT : Hid (twiceB (ks.map Nd.name) = true) := twice_hit (k := i) (by rw [HKM.out]; exact hlt) (by rw [HIN.out, ← hx, ← HKN.out]; exact mem_take_at (by rw [HKM.out]; exact hkl) hlt')
                          obtain rfl : E = 9 := HV.out 9 (by omega) (by rw [← HE1.out, if_neg (by have := F16.out; omega), if_neg (by simp), if_neg (by rw [FP.out]; simp), if_neg (by rw [FTp.out]; simp), if_pos HT.out])
                          clear hx
                          go_wp2_with fail
                          go_region
                          go_wp2
                          go_ret
                          exact ⟨rfl, HB.out.drew⟩
                        · have hx1 : (ks[k].name.toList == ks[i].name.toList) = false := str_ne hx
                          have HF := Lib.hid (HA.out.succ (by rw [HKM.out]; exact hkl) (by rw [HKN.out]; exact hx))
                          clear hx
                          go_wp2_with fail
                          go_region
                          go_wp2
                          go_roundw
                          case rel => exact ⟨k + 1, by omega, by go_num, HF.out, HB0.out.drew⟩
                          case measure => simp [intOf]; omega
                      · have HIN : Hid ((ks.map Nd.name)[i]'(by rw [HKM.out]; exact hlt) = ks[i].name) := List.getElem_map _
                        have hki : k = i := by omega
                        have HNX : Hid (((ks.map Nd.name).take (i + 1)).Nodup) := nodup_succ HN.out (by rw [HKM.out]; exact hlt) (by rw [HIN.out]; exact not_mem_missed (hki ▸ HA.out))
                        clear hki
                        go_wp2
                        go_roundw
                        case rel => exact ⟨i + 1, by omega, by go_num, HNX.out, HB0.out⟩
                        case measure => simp [intOf]; omega
                  · have FTk : Hid (twiceB (ks.map Nd.name) = false) := twice_all HN.out (by rw [HKM.out]; exact hlt)
                    have HB := Lib.hid (HB1.out.trans (HB0.out.mono (Nat.le_succ _)))
                    go_wp2_with fail
                    have HF : Hid (wrongL ks 2 = E) := by
                      have h0 : E1 = 0 := by rw [← HE1.out, if_neg (by have := F16.out; omega), if_neg (by simp), if_neg (by rw [FP.out]; simp), if_neg (by rw [FTp.out]; simp), if_neg (by rw [FTk.out]; simp)]
                      have := HE.out
                      rwa [if_pos h0] at this
                    go_loopw [99] (fun i wr => ∃ k : Nat, k ≤ ks.length ∧ i = .int .i64 k ∧ Fine ks 2 k ∧ Below (w.heap.size + 1) (w.alloc (.cells #[Value.string nm, .slice pa ps.length pc, .slice ka ks.length kc] 25)) wr) (fun i _ => ks.length - (intOf i).toNat)
                    case atStart => exact ⟨0, Nat.zero_le _, rfl, Fine.zero _ _, HB0.out⟩
                    case round =>
                      clear bx0 bx1 bx2 HB0 HB
                      obtain ⟨k, hk, rfl, hfine, hb⟩ := hrel
                      have HA := Lib.hid hfine
                      have HB0 := Lib.hid hb
                      have HB := Lib.hid (HB1.out.trans (hb.mono (Nat.le_succ _)))
                      obtain ⟨bx0, bx1, bx2⟩ := BX.out _ hb
                      clear hfine hb
                      by_cases hlt : k < ks.length
                      · obtain ⟨b, o, e, hb, c0, c1, c2⟩ := (HI.out.under HB.out).kcell (i := k) hlt
                        obtain rfl : ka = _ := e
                        replace c0 : _ = some (Value.string ks[k].name) := c0
                        replace c1 : _ = some (Value.slice ks[k].pa ks[k].props.length ks[k].pc) := c1
                        replace c2 : _ = some (Value.slice ks[k].ka ks[k].kids.length ks[k].kc) := c2
                        obtain ⟨F, hF⟩ : ∃ F, wrongN ks[k] 2 = F := ⟨_, rfl⟩
                        have C := Lib.hid (IH.out ks[k] (List.getElem_mem hlt) 2 _ (((HI.out.kid (List.getElem_mem hlt)).under HB.out).more HB.out.size) (by omega) (by omega) F hF)
                        have HQ := Lib.hid hF
                        clear hF
                        go_wp2_with fail
                        refine C.out.mono ?_
                        rintro e w' ⟨rfl, hb'⟩
                        have HB3 := Lib.hid (HB0.out.trans (hb'.mono (by have := HB0.out.size; simpa using this)))
                        have HB4 := Lib.hid (HB.out.trans (hb'.mono HB.out.size))
                        clear hb'
                        by_cases hF0 : F = 0
                        · subst hF0
                          go_wp2
                          go_roundw
                          case rel => exact ⟨k + 1, by omega, by go_num, HA.out.succ hlt HQ.out, HB3.out⟩
                          case measure => simp [intOf]; omega
                        · have f1 : (F == 0) = false := by rw [beq_eq_false_iff_ne]; exact hF0
                          have f2 : (F != 0) = true := by rw [bne, f1]; rfl
                          obtain rfl : E = F := by rw [← HF.out, wrongL_hit 2 ks k hlt HA.out (by rw [HQ.out]; exact hF0)]; exact HQ.out
                          clear hF0
                          go_wp2
                          go_ret
                          exact ⟨rfl, HB4.out⟩
                      · obtain rfl : E = 0 := by rw [← HF.out]; exact wrongL_all 2 ks (fun j hj => HA.out j hj (by omega))
                        go_wp2
                        go_ret
                        exact ⟨rfl, HB.out⟩
    · have hd2 : (d == 1) = false := by rw [beq_eq_false_iff_ne]; exact hd
      have hd3 : 1 < d := by omega
      have CN := Lib.hid (fun w => refnodeB_any nm w hnz r1 (by rw [← hr1, nameOk, if_neg hd]; rfl))
      clear hr1 hd
      cases r1
      · obtain rfl : E = 5 := HV.out 5 (by omega) (by rw [← HE1.out, if_neg (by have := F16.out; omega), if_pos rfl])
        go_enter Try.func27, Try.ntmps27
        go_wp2_with fail
        refine (CN.out _).mono ?_
        rintro e w' ⟨rfl, rfl⟩
        go_wp2
        go_ret
        exact ⟨rfl, HB1.out⟩
      · go_enter Try.func27, Try.ntmps27
        go_wp2_with fail
        refine (CN.out _).mono ?_
        rintro e w' ⟨rfl, rfl⟩
        go_wp2_with fail
        go_loopw [34] (fun i wr => ∃ k : Nat, k ≤ ps.length ∧ i = .int .i64 k ∧ Good misP ps k ∧ Below (w.heap.size + 1) (w.alloc (.cells #[Value.string nm, .slice pa ps.length pc, .slice ka ks.length kc] 25)) wr) (fun i _ => ps.length - (intOf i).toNat)
        case atStart => exact ⟨0, Nat.zero_le _, rfl, Good.zero _ _, Below.refl _ _⟩
        case round =>
          obtain ⟨k, hk, rfl, hgood, hb⟩ := hrel
          have HA := Lib.hid hgood
          have HB0 := Lib.hid hb
          have HB := Lib.hid (HB1.out.trans (hb.mono (Nat.le_succ _)))
          obtain ⟨bx0, bx1, bx2⟩ := BX.out _ hb
          clear hgood hb
          by_cases hlt : k < ps.length
          · obtain ⟨b, o, e, hb, c0, c1⟩ := (HI.out.under HB.out).pcell (i := k) hlt
            obtain rfl : pa = _ := e
            replace c0 : _ = some (Value.string ps[k].name) := c0
            clear c1
            obtain ⟨q, hq⟩ : ∃ q, propB ps[k].name = q := ⟨_, rfl⟩
            have C := Lib.hid (refpropB_any ps[k].name wr (HI.out.prop (List.getElem_mem hlt)).1.1 q hq)
            have HQ : Hid (misP ps[k] = !q) := by show misP _ = _; rw [misP, hq]
            clear hq
            cases q
            · obtain rfl : E = 5 := HV.out 5 (by omega) (by rw [← HE1.out, if_neg (by have := F16.out; omega), if_neg (by simp), if_pos (any_at hlt HQ.out)])
              go_wp2_with fail
              refine C.out.mono ?_
              rintro e w' ⟨rfl, rfl⟩
              go_wp2
              go_ret
              exact ⟨rfl, HB.out⟩
            · go_wp2_with fail
              refine C.out.mono ?_
              rintro e w' ⟨rfl, rfl⟩
              go_wp2
              go_roundw
              case rel => exact ⟨k + 1, by omega, by go_num, HA.out.succ hlt HQ.out, HB0.out⟩
              case measure => simp [intOf]; omega
          · have FP : Hid (ps.any misP = false) := HA.out.all hlt
            go_wp2_with fail
            go_loopw [49] (fun i wr => ∃ k : Nat, k ≤ ps.length ∧ i = .int .i64 k ∧ ((ps.map PV.name).take k).Nodup ∧ Below (w.heap.size + 1) (w.alloc (.cells #[Value.string nm, .slice pa ps.length pc, .slice ka ks.length kc] 25)) wr) (fun i _ => ps.length - (intOf i).toNat)
            case atStart => exact ⟨0, Nat.zero_le _, rfl, nodup_zero _, HB0.out⟩
            case round =>
              clear bx0 bx1 bx2 HB0
              obtain ⟨i, hi, rfl, hnd, hb⟩ := hrel
              have HN := Lib.hid hnd
              have HB0 := Lib.hid hb
              obtain ⟨bx0, bx1, bx2⟩ := BX.out _ hb
              clear hnd hb
              by_cases hlt : i < ps.length
              · go_wp2_with fail
                go_loopw [53] (fun j wr => ∃ k : Nat, k ≤ i ∧ j = .int .i64 k ∧ Missed (ps.map PV.name) ps[i].name k ∧ Below (w.heap.size + 1) (w.alloc (.cells #[Value.string nm, .slice pa ps.length pc, .slice ka ks.length kc] 25)) wr) (fun j _ => i - (intOf j).toNat)
                case atStart => exact ⟨0, Nat.zero_le _, rfl, Missed.zero _ _, HB0.out⟩
                case round =>
                  clear bx0 bx1 bx2 HB0
                  obtain ⟨k, hk, rfl, hmiss, hb⟩ := hrel
                  have HA := Lib.hid hmiss
                  have HB0 := Lib.hid hb
                  have HB := Lib.hid (HB1.out.trans (hb.mono (Nat.le_succ _)))
                  obtain ⟨bx0, bx1, bx2⟩ := BX.out _ hb
                  clear hmiss hb
                  by_cases hlt' : k < i
                  · have hkl : k < ps.length := by omega
                    have HKN : Hid ((ps.map PV.name)[k]'(by rw [HPM.out]; exact hkl) = ps[k].name) := List.getElem_map _
                    have HIN : Hid ((ps.map PV.name)[i]'(by rw [HPM.out]; exact hlt) = ps[i].name) := List.getElem_map _
                    obtain ⟨b, o, e, hb, c0, cc⟩ := (HI.out.under HB.out).pcell (i := k) hkl
                    obtain ⟨b', o', e', hb', d0, dd⟩ := (HI.out.under HB.out).pcell (i := i) hlt
                    replace e : pa = _ := e
                    replace e' : pa = _ := e'
                    obtain ⟨rfl, rfl⟩ : b' = b ∧ o' = o := by have := e'.symm.trans e; simpa using this
                    subst e
                    replace c0 : _ = some (Value.string ps[k].name) := c0
                    replace d0 : _ = some (Value.string ps[i].name) := d0
                    clear cc dd e'
                    by_cases hx : ps[k].name = ps[i].name
                    · have hx1 : (ps[k].name.toList == ps[i].name.toList) = true := by rw [hx]; simp
                      have HT : Hid (twiceB (ps.map PV.name) = true) := twice_hit (k := i) (by rw [HPM.out]; exact hlt) (by rw [HIN.out, ← hx, ← HKN.out]; exact mem_take_at (by rw [HPM.out]; exact hkl) hlt')
                      obtain rfl : E = 9 := HV.out 9 (by omega) (by rw [← HE1.out, if_neg (by have := F16.out; omega), if_neg (by simp), if_neg (by rw [FP.out]; simp), if_pos HT.out])
                      clear hx
                      go_wp2_with fail
                      go_region
                      go_wp2
                      go_ret
                      exact ⟨rfl, HB.out.drew⟩
                    · have hx1 : (ps[k].name.toList == ps[i].name.toList) = false := str_ne hx
                      have HF := Lib.hid (HA.out.succ (by rw [HPM.out]; exact hkl) (by rw [HKN.out]; exact hx))
                      clear hx
                      go_wp2_with fail
                      go_region
                      go_wp2
                      go_roundw
                      case rel => exact ⟨k + 1, by omega, by go_num, HF.out, HB0.out.drew⟩
                      case measure => simp [intOf]; omega
                  · have HIN : Hid ((ps.map PV.name)[i]'(by rw [HPM.out]; exact hlt) = ps[i].name) := List.getElem_map _
                    have hki : k = i := by omega
                    have HNX : Hid (((ps.map PV.name).take (i + 1)).Nodup) := nodup_succ HN.out (by rw [HPM.out]; exact hlt) (by rw [HIN.out]; exact not_mem_missed (hki ▸ HA.out))
                    clear hki
                    go_wp2
                    go_roundw
                    case rel => exact ⟨i + 1, by omega, by go_num, HNX.out, HB0.out⟩
                    case measure => simp [intOf]; omega
              · have FTp : Hid (twiceB (ps.map PV.name) = false) := twice_all HN.out (by rw [HPM.out]; exact hlt)
                have HB := Lib.hid (HB1.out.trans (HB0.out.mono (Nat.le_succ _)))
                go_wp2_with fail
                go_loopw [74] (fun i wr => ∃ k : Nat, k ≤ ks.length ∧ i = .int .i64 k ∧ ((ks.map Nd.name).take k).Nodup ∧ Below (w.heap.size + 1) (w.alloc (.cells #[Value.string nm, .slice pa ps.length pc, .slice ka ks.length kc] 25)) wr) (fun i _ => ks.length - (intOf i).toNat)
                case atStart => exact ⟨0, Nat.zero_le _, rfl, nodup_zero _, HB0.out⟩
                case round =>
                  clear bx0 bx1 bx2 HB0
                  obtain ⟨i, hi, rfl, hnd, hb⟩ := hrel
                  have HN := Lib.hid hnd
                  have HB0 := Lib.hid hb
                  obtain ⟨bx0, bx1, bx2⟩ := BX.out _ hb
                  clear hnd hb
                  by_cases hlt : i < ks.length
                  · go_wp2_with fail
                    go_loopw [78] (fun j wr => ∃ k : Nat, k ≤ i ∧ j = .int .i64 k ∧ Missed (ks.map Nd.name) ks[i].name k ∧ Below (w.heap.size + 1) (w.alloc (.cells #[Value.string nm, .slice pa ps.length pc, .slice ka ks.length kc] 25)) wr) (fun j _ => i - (intOf j).toNat)
                    case atStart => exact ⟨0, Nat.zero_le _, rfl, Missed.zero _ _, HB0.out⟩
                    case round =>
                      clear bx0 bx1 bx2 HB0
                      obtain ⟨k, hk, rfl, hmiss, hb⟩ := hrel
                      have HA := Lib.hid hmiss
                      have HB0 := Lib.hid hb
                      have HB := Lib.hid (HB1.out.trans (hb.mono (Nat.le_succ _)))
                      obtain ⟨bx0, bx1, bx2⟩ := BX.out _ hb
                      clear hmiss hb
                      by_cases hlt' : k < i
                      · have hkl : k < ks.length := by omega
                        have HKN : Hid ((ks.map Nd.name)[k]'(by rw [HKM.out]; exact hkl) = ks[k].name) := List.getElem_map _
                        have HIN : Hid ((ks.map Nd.name)[i]'(by rw [HKM.out]; exact hlt) = ks[i].name) := List.getElem_map _
                        obtain ⟨b, o, e, hb, c0, cc⟩ := (HI.out.under HB.out).kcell (i := k) hkl
                        obtain ⟨b', o', e', hb', d0, dd⟩ := (HI.out.under HB.out).kcell (i := i) hlt
                        replace e : ka = _ := e
                        replace e' : ka = _ := e'
                        obtain ⟨rfl, rfl⟩ : b' = b ∧ o' = o := by have := e'.symm.trans e; simpa using this
                        subst e
                        replace c0 : _ = some (Value.string ks[k].name) := c0
                        replace d0 : _ = some (Value.string ks[i].name) := d0
                        clear cc dd e'
                        by_cases hx : ks[k].name = ks[i].name
                        · have hx1 : (ks[k].name.toList == ks[i].name.toList) = true := by rw [hx]; simp
                          have HT : Hid (twiceB (ks.map Nd.name) = true) := twice_hit (k := i) (by rw [HKM.out]; exact hlt) (by rw [HIN.out, ← hx, ← HKN.out]; exact mem_take_at (by rw [HKM.out]; exact hkl) hlt')
                          obtain rfl : E = 9 := HV.out 9 (by omega) (by rw [← HE1.out, if_neg (by have := F16.out; omega), if_neg (by simp), if_neg (by rw [FP.out]; simp), if_neg (by rw [FTp.out]; simp), if_pos HT.out])
                          clear hx
                          go_wp2_with fail
                          go_region
                          go_wp2
                          go_ret
                          exact ⟨rfl, HB.out.drew⟩
                        · have hx1 : (ks[k].name.toList == ks[i].name.toList) = false := str_ne hx
                          have HF := Lib.hid (HA.out.succ (by rw [HKM.out]; exact hkl) (by rw [HKN.out]; exact hx))
                          clear hx
                          go_wp2_with fail
                          go_region
                          go_wp2
                          go_roundw
                          case rel => exact ⟨k + 1, by omega, by go_num, HF.out, HB0.out.drew⟩
                          case measure => simp [intOf]; omega
                      · have HIN : Hid ((ks.map Nd.name)[i]'(by rw [HKM.out]; exact hlt) = ks[i].name) := List.getElem_map _
                        have hki : k = i := by omega
                        have HNX : Hid (((ks.map Nd.name).take (i + 1)).Nodup) := nodup_succ HN.out (by rw [HKM.out]; exact hlt) (by rw [HIN.out]; exact not_mem_missed (hki ▸ HA.out))
                        clear hki
                        go_wp2
                        go_roundw
                        case rel => exact ⟨i + 1, by omega, by go_num, HNX.out, HB0.out⟩
                        case measure => simp [intOf]; omega
                  · have FTk : Hid (twiceB (ks.map Nd.name) = false) := twice_all HN.out (by rw [HKM.out]; exact hlt)
                    have HB := Lib.hid (HB1.out.trans (HB0.out.mono (Nat.le_succ _)))
                    go_wp2_with fail
                    have HF : Hid (wrongL ks (d + 1) = E) := by
                      have h0 : E1 = 0 := by rw [← HE1.out, if_neg (by have := F16.out; omega), if_neg (by simp), if_neg (by rw [FP.out]; simp), if_neg (by rw [FTp.out]; simp), if_neg (by rw [FTk.out]; simp)]
                      have := HE.out
                      rwa [if_pos h0] at this
                    go_loopw [99] (fun i wr => ∃ k : Nat, k ≤ ks.length ∧ i = .int .i64 k ∧ Fine ks (d + 1) k ∧ Below (w.heap.size + 1) (w.alloc (.cells #[Value.string nm, .slice pa ps.length pc, .slice ka ks.length kc] 25)) wr) (fun i _ => ks.length - (intOf i).toNat)
                    case atStart => exact ⟨0, Nat.zero_le _, rfl, Fine.zero _ _, HB0.out⟩
                    case round =>
                      clear bx0 bx1 bx2 HB0 HB
                      obtain ⟨k, hk, rfl, hfine, hb⟩ := hrel
                      have HA := Lib.hid hfine
                      have HB0 := Lib.hid hb
                      have HB := Lib.hid (HB1.out.trans (hb.mono (Nat.le_succ _)))
                      obtain ⟨bx0, bx1, bx2⟩ := BX.out _ hb
                      clear hfine hb
                      by_cases hlt : k < ks.length
                      · obtain ⟨b, o, e, hb, c0, c1, c2⟩ := (HI.out.under HB.out).kcell (i := k) hlt
                        obtain rfl : ka = _ := e
                        replace c0 : _ = some (Value.string ks[k].name) := c0
                        replace c1 : _ = some (Value.slice ks[k].pa ks[k].props.length ks[k].pc) := c1
                        replace c2 : _ = some (Value.slice ks[k].ka ks[k].kids.length ks[k].kc) := c2
                        obtain ⟨F, hF⟩ : ∃ F, wrongN ks[k] (d + 1) = F := ⟨_, rfl⟩
                        have C := Lib.hid (IH.out ks[k] (List.getElem_mem hlt) (d + 1) _ (((HI.out.kid (List.getElem_mem hlt)).under HB.out).more HB.out.size) (by omega) (by omega) F hF)
                        have HQ := Lib.hid hF
                        clear hF
                        go_wp2_with fail
                        refine C.out.mono ?_
                        rintro e w' ⟨rfl, hb'⟩
                        have HB3 := Lib.hid (HB0.out.trans (hb'.mono (by have := HB0.out.size; simpa using this)))
                        have HB4 := Lib.hid (HB.out.trans (hb'.mono HB.out.size))
                        clear hb'
                        by_cases hF0 : F = 0
                        · subst hF0
                          go_wp2
                          go_roundw
                          case rel => exact ⟨k + 1, by omega, by go_num, HA.out.succ hlt HQ.out, HB3.out⟩
                          case measure => simp [intOf]; omega
                        · have f1 : (F == 0) = false := by rw [beq_eq_false_iff_ne]; exact hF0
                          have f2 : (F != 0) = true := by rw [bne, f1]; rfl
                          obtain rfl : E = F := by rw [← HF.out, wrongL_hit (d + 1) ks k hlt HA.out (by rw [HQ.out]; exact hF0)]; exact HQ.out
                          clear hF0
                          go_wp2
                          go_ret
                          exact ⟨rfl, HB4.out⟩
                      · obtain rfl : E = 0 := by rw [← HF.out]; exact wrongL_all (d + 1) ks (fun j hj => HA.out j hj (by omega))
                        go_wp2
                        go_ret
                        exact ⟨rfl, HB.out⟩
end Go.Proofs.Ytbblgkidgecdpaa

/-! Layer 3: a tree as it lies in memory; whether there are too many. -/
namespace Go.Proofs.Ytbblgkidgecdpaa
open Go.RowKit Go.ChangeShapes Go.WideShapes Go.Deep
set_option linter.unusedVariables false
set_option linter.unusedSimpArgs false

/-- A tree as it lies: its reserves' slice, and its root. -/
structure Tr where
  boot : Int
  ra : Option Addr
  rc : Nat
  rs : List (Int × Int)
  root : Nd

def Tr.rv (t : Tr) : Value := .slice t.ra t.rs.length t.rc
def Tr.val (t : Tr) : Value := .agg #[.int .u32 t.boot, t.rv, .string t.root.name, t.root.pv, t.root.kv]

/-- The cells of a row of reserves. -/
def RRow (w : World) (B : Nat) (a : Option Addr) (l : List (Int × Int)) : Prop :=
  0 < l.length → ∃ b o, a = some ⟨b, o, none⟩ ∧ b < B ∧ ∀ i (h : i < l.length), w.cell? ⟨b, o + i * 2, none⟩ = some (.int .u64 l[i].1) ∧ w.cell? ⟨b, o + i * 2 + 1, none⟩ = some (.int .u64 l[i].2)

structure Tr.In (w : World) (B : Nat) (t : Tr) : Prop where
  boot : 0 ≤ t.boot ∧ t.boot ≤ 4294967295
  len : t.rs.length ≤ t.rc ∧ t.rc ≤ 9223372036854775807 ∧ t.rs.length * 16 ≤ 140737488351232
  row : RRow w B t.ra t.rs
  nums : ∀ r ∈ t.rs, (0 ≤ r.1 ∧ r.1 ≤ 18446744073709551615) ∧ (0 ≤ r.2 ∧ r.2 ≤ 18446744073709551615)
  root : t.root.In w B

section
variable {w w' : World} {B B' : Nat}
theorem RRow.keep {a : Option Addr} {l : List (Int × Int)} (h : RRow w B a l) (hk : ∀ a : Addr, a.block < B → w'.cell? a = w.cell? a) : RRow w' B a l := fun h0 => by
  obtain ⟨b, o, e, hb, hc⟩ := h h0
  exact ⟨b, o, e, hb, fun i hi => ⟨(hk _ hb).trans (hc i hi).1, (hk _ hb).trans (hc i hi).2⟩⟩
theorem RRow.more {a : Option Addr} {l : List (Int × Int)} (h : RRow w B a l) (hB : B ≤ B') : RRow w B' a l := fun h0 => by
  obtain ⟨b, o, e, hb, hc⟩ := h h0
  exact ⟨b, o, e, by omega, hc⟩
theorem Tr.In.under {t : Tr} (h : t.In w B) (hb : Below B w w') : t.In w' B := ⟨h.boot, h.len, h.row.keep (fun _ hp => hb.cell hp), h.nums, h.root.under hb⟩
theorem Tr.In.more {t : Tr} (h : t.In w B) (hB : B ≤ B') : t.In w B' := ⟨h.boot, h.len, h.row.more hB, h.nums, h.root.more hB⟩
theorem Tr.In.on {t : Tr} (h : t.In w w.heap.size) (hb : Below w.heap.size w w') : t.In w' w'.heap.size := (h.under hb).more hb.size
theorem Tr.In.rcell {t : Tr} (h : t.In w B) {i : Nat} (hi : i < t.rs.length) : ∃ b o, t.ra = some ⟨b, o, none⟩ ∧ b < B ∧ w.cell? ⟨b, o + i * 2, none⟩ = some (.int .u64 t.rs[i].1) ∧ w.cell? ⟨b, o + i * 2 + 1, none⟩ = some (.int .u64 t.rs[i].2) := by
  obtain ⟨b, o, e, hb, hc⟩ := h.row (by omega)
  exact ⟨b, o, e, hb, hc i hi⟩
end

theorem Try.cellsRes : Try.prog.cellsOf 86 = 2 := by kernel_rfl
theorem Try.cellsRess : Try.prog.cellsOf 29 = 1 := by kernel_rfl
theorem Try.cellsU64 : Try.prog.cellsOf 39 = 1 := by kernel_rfl
theorem Try.cellsU32 : Try.prog.cellsOf 28 = 1 := by kernel_rfl
theorem Try.cellsTree : Try.prog.cellsOf 31 = 5 := by kernel_rfl
theorem Try.bytesRes : Try.prog.bytesOf 86 = 16 := by kernel_rfl

section
variable {H : Type} {enc : TypeId × Value → H} {w : World} {base : Nat} {spare : Nat → Bool} {held : Bool}

theorem open_res {fuel : Nat} {cs : List Value} {x : DataW H × List MemPlace} (h : DataW.trod enc Try.prog w base spare held fuel 86 cs = some x) :
    ∃ r : Int × Int, cs = [.int .u64 r.1, .int .u64 r.2] ∧ (0 ≤ r.1 ∧ r.1 ≤ 18446744073709551615) ∧ (0 ≤ r.2 ∧ r.2 ≤ 18446744073709551615) := by
  obtain ⟨y0, y1, n, rfl, hl, h0, h1⟩ := trod_struct2 Try.underlying86 h
  rw [Try.cellsRes] at hl
  obtain ⟨c0, c1, rfl⟩ : ∃ c0 c1, cs = [c0, c1] := by
    exact two_of hl
  rw [Try.cellsU64] at h0 h1
  obtain ⟨a, e0, _, w0⟩ := DataW.trod_int Try.underlying39 h0
  obtain ⟨c, e1, _, w1⟩ := DataW.trod_int Try.underlying39 h1
  simp only [List.drop_succ_cons, List.drop_zero, List.take_succ_cons, List.take_zero, List.cons.injEq, and_true] at e0 e1
  subst e0 e1
  exact ⟨(a, c), rfl, bounds_u64 w0, bounds_u64 w1⟩

/-- A tree that came in is such a tree. -/
theorem open_tr {fuel : Nat} {cs : List Value} {x : DataW H × List MemPlace} (h : DataW.trod enc Try.prog w base spare held fuel 31 cs = some x) (hw : ∀ z ∈ DataW.weights Try.prog 31 x.1, z ≤ 140737488351232) :
    ∃ t : Tr, cs = [.int .u32 t.boot, t.rv, .string t.root.name, t.root.pv, t.root.kv] ∧ t.In w w.heap.size := by
  obtain ⟨y0, y1, y2, n, rfl, hl, h0, h1, h2⟩ := trod_struct3 Try.underlying31 h
  rw [Try.cellsTree] at hl
  obtain ⟨c0, c1, c2, c3, c4, rfl⟩ : ∃ c0 c1 c2 c3 c4, cs = [c0, c1, c2, c3, c4] := by
    exact five_of hl
  rw [Try.cellsU32] at h0
  rw [Try.cellsRess] at h1
  rw [Try.cellsNode] at h2
  simp only [List.drop_zero, List.drop_succ_cons, List.take_succ_cons, List.take_zero] at h0 h1 h2
  simp only [DataW.weights, DataW.weightsEach, Try.underlying31, List.map_cons, List.map_nil] at hw
  have hw1 := fun z hz => hw z (List.mem_append_right _ (List.mem_append_left _ hz))
  have hw2 := fun z hz => hw z (List.mem_append_right _ (List.mem_append_right _ (List.mem_append_left _ hz)))
  obtain ⟨boot, e0, _, wb⟩ := DataW.trod_int Try.underlying28 h0
  obtain ⟨ra, rc, rs, e1, hr1, hr2, hr3, hrg, hrow⟩ := open_row (c := 2) (fun r : Int × Int => [.int .u64 r.1, .int .u64 r.2]) (fun r => (0 ≤ r.1 ∧ r.1 ≤ 18446744073709551615) ∧ (0 ≤ r.2 ∧ r.2 ≤ 18446744073709551615)) Try.underlying29 Try.cellsRes (by omega) (fun _ => rfl) (fun n cs y _ hy _ => open_res hy) h1 hw1
  obtain ⟨root, e2, hin⟩ := open_nd _ n _ _ (Nat.le_refl _) h2 hw2
  simp only [List.cons.injEq, and_true] at e0 e1 e2
  obtain ⟨rfl, rfl, rfl⟩ := e2
  subst e0 e1
  rw [Try.bytesRes] at hr3
  exact ⟨⟨boot, ra, rc, rs, root⟩, rfl, bounds_u32 wb, ⟨hr1, hr2, hr3⟩, fun h0 => by
    obtain ⟨b, o, e, hb, hc⟩ := hrow h0
    exact ⟨b, o, e, hb, fun i hi => ⟨hc i hi 0 (by omega), hc i hi 1 (by omega)⟩⟩, hrg, hin⟩
end

/-- A reserve of noughts. -/
def zeroR (r : Int × Int) : Bool := decide (r.1 = 0) && decide (r.2 = 0)

/-- Are there too many? -/
def manyE (t : Tr) : Int := if 4096 < wrap64 (nodesN t.root) ∨ 8192 < wrap64 (propsN t.root) ∨ 64 < t.rs.length then 7 else if t.rs.any zeroR = true then 7 else 0

end Go.Proofs.Ytbblgkidgecdpaa

/-! Layer 3: the first error of a tree, the program's and the document's. -/
namespace Go.Proofs.Ytbblgkidgecdpaa
open Go.RowKit
set_option linter.unusedVariables false
set_option linter.unusedSimpArgs false
attribute [local go_sem ↓] Go.wp_at_zero Go.wp_at_succ

/-- The first error of a tree. -/
noncomputable def checkE (t : Tr) : Int := if wrongN t.root 1 = 0 then manyE t else wrongN t.root 1

set_option maxHeartbeats 8000000 in
theorem refcheck_any (t : Tr) (w : World) (hin : t.In w w.heap.size) (E : Int) (hE : checkE t = E) :
    Calls Try.prog 11 #[t.val] w fun e w' => e = .returned (.int .i64 E) ∧ Below w.heap.size w w' := by
  obtain ⟨F, hF⟩ : ∃ F, wrongN t.root 1 = F := ⟨_, rfl⟩
  obtain ⟨a, ha⟩ : ∃ a, a = wrap64 (nodesN t.root) := ⟨_, rfl⟩
  obtain ⟨c, hc⟩ : ∃ c, c = wrap64 (propsN t.root) := ⟨_, rfl⟩
  have HE : Hid ((if F = 0 then (if 4096 < a ∨ 8192 < c ∨ 64 < t.rs.length then 7 else if t.rs.any zeroR = true then 7 else 0) else F) = E) := by rw [← hF, ha, hc]; exact hE
  have C1 := Lib.hid (fun w h => wrong_any t.root 1 w h (by omega) (by omega) F hF)
  have C2 := Lib.hid (fun w h => (refcount_any t.root w h).mono fun e w' (h : Counted e t.root ∧ _) => show e = .returned (.tuple #[.int .i64 a, .int .i64 c]) ∧ Below w.heap.size w w' from ⟨by rw [ha, hc]; exact h.1, h.2⟩)
  have HI := Lib.hid hin
  obtain ⟨hl, hm, _⟩ := hin.len
  clear hE hF ha hc hin
  obtain ⟨boot, ra, rc, rs, ⟨nm, pa, pc, ps, ka, kc, ks⟩⟩ := t
  replace hl : rs.length ≤ rc := hl
  replace hm : rc ≤ 9223372036854775807 := hm
  replace HE : Hid ((if F = 0 then (if 4096 < a ∨ 8192 < c ∨ 64 < rs.length then 7 else if rs.any zeroR = true then 7 else 0) else F) = E) := HE
  show Calls _ _ #[.agg #[.int .u32 boot, .slice ra rs.length rc, .string nm, .slice pa ps.length pc, .slice ka ks.length kc]] _ _
  have HB := Lib.hid ((Below.refl w.heap.size w).alloc (Nat.le_refl _) (.cells #[.int .u32 boot, .slice ra rs.length rc, .string nm, .slice pa ps.length pc, .slice ka ks.length kc] 31))
  have BX : Hid (∀ W : World, Below (w.heap.size + 1) (w.alloc (.cells #[.int .u32 boot, .slice ra rs.length rc, .string nm, .slice pa ps.length pc, .slice ka ks.length kc] 31)) W → W.cell? ⟨w.heap.size, 1, none⟩ = some (.slice ra rs.length rc) ∧ W.cell? ⟨w.heap.size, 2, none⟩ = some (.string nm) ∧ W.cell? ⟨w.heap.size, 3, none⟩ = some (.slice pa ps.length pc) ∧ W.cell? ⟨w.heap.size, 4, none⟩ = some (.slice ka ks.length kc)) := fun W h =>
    ⟨(h.cell (Nat.lt_succ_self _)).trans (World.cell?_alloc_new _ _ _ _), (h.cell (Nat.lt_succ_self _)).trans (World.cell?_alloc_new _ _ _ _), (h.cell (Nat.lt_succ_self _)).trans (World.cell?_alloc_new _ _ _ _), (h.cell (Nat.lt_succ_self _)).trans (World.cell?_alloc_new _ _ _ _)⟩
  go_enter Try.func11, Try.ntmps11
  go_wp2_with fail
  refine (C1.out _ ((HI.out.on HB.out).root)).mono ?_
  rintro e w1 ⟨rfl, hb⟩
  have HB1 := Lib.hid (HB.out.trans (hb.mono HB.out.size))
  have HX1 := Lib.hid (hb.mono (B' := w.heap.size + 1) (by simp))
  obtain ⟨b1, b2, b3, b4⟩ := BX.out _ HX1.out
  clear hb
  by_cases h0 : F = 0
  · have HE2 : Hid ((if 4096 < a ∨ 8192 < c ∨ 64 < rs.length then 7 else if rs.any zeroR = true then 7 else 0) = E) := by have := HE.out; rwa [if_pos h0] at this
    subst h0
    clear HE
    go_wp2_with fail
    refine (C2.out _ ((HI.out.on HB1.out).root)).mono ?_
    rintro e w2 ⟨rfl, hb⟩
    have HB2 := Lib.hid (HB1.out.trans (hb.mono HB1.out.size))
    have HX2 := Lib.hid (HX1.out.trans (hb.mono (by have := HX1.out.size; simpa using this)))
    clear hb b1 b2 b3 b4
    obtain ⟨b1, b2, b3, b4⟩ := BX.out _ HX2.out
    by_cases h1 : 4096 < a
    · obtain rfl : E = 7 := by rw [← HE2.out, if_pos (.inl h1)]
      go_wp2
      go_ret
      exact ⟨rfl, HB2.out⟩
    · by_cases h2 : 8192 < c
      · obtain rfl : E = 7 := by rw [← HE2.out, if_pos (.inr (.inl h2))]
        go_wp2
        go_ret
        exact ⟨rfl, HB2.out⟩
      · by_cases h3 : 64 < (rs.length : Int)
        · obtain rfl : E = 7 := by rw [← HE2.out, if_pos (.inr (.inr (by omega)))]
          go_wp2
          go_ret
          exact ⟨rfl, HB2.out⟩
        · have HF : Hid ((if rs.any zeroR = true then 7 else 0) = E) := by have := HE2.out; rwa [if_neg (by omega)] at this
          go_wp2_with fail
          clear b1 b2 b3 b4
          go_loopw [34] (fun i wr => ∃ k : Nat, k ≤ rs.length ∧ i = .int .i64 k ∧ Good zeroR rs k ∧ Below (w.heap.size + 1) (w.alloc (.cells #[.int .u32 boot, .slice ra rs.length rc, .string nm, .slice pa ps.length pc, .slice ka ks.length kc] 31)) wr) (fun i _ => rs.length - (intOf i).toNat)
          case atStart => exact ⟨0, Nat.zero_le _, rfl, Good.zero _ _, HX2.out⟩
          case round =>
            obtain ⟨k, hk, rfl, hgood, hb⟩ := hrel
            have HA := Lib.hid hgood
            have HB0 := Lib.hid hb
            have HB' := Lib.hid (HB.out.trans (hb.mono (Nat.le_succ _)))
            obtain ⟨b1, _, _, _⟩ := BX.out _ hb
            clear hgood hb
            by_cases hlt : k < rs.length
            · obtain ⟨b, o, e, hb, c0, c1⟩ := (HI.out.under HB'.out).rcell (i := k) hlt
              obtain rfl : ra = _ := e
              replace c0 : _ = some (Value.int .u64 rs[k].1) := c0
              replace c1 : _ = some (Value.int .u64 rs[k].2) := c1
              obtain ⟨x, hx⟩ : ∃ x, x = rs[k].1 := ⟨_, rfl⟩
              obtain ⟨y, hy⟩ : ∃ y, y = rs[k].2 := ⟨_, rfl⟩
              have HZ : Hid (zeroR rs[k] = (decide (x = 0) && decide (y = 0))) := by show zeroR _ = _; rw [hx, hy]; rfl
              rw [← hx] at c0
              rw [← hy] at c1
              clear hx hy
              by_cases hx0 : x = 0
              · subst hx0
                by_cases hy0 : y = 0
                · subst hy0
                  obtain rfl : E = 7 := by rw [← HF.out, if_pos (any_at hlt HZ.out)]
                  go_wp2
                  go_ret
                  exact ⟨rfl, HB'.out⟩
                · have HG : Hid (zeroR rs[k] = false) := by have := HZ.out; rw [decide_eq_false hy0] at this; exact this
                  have hy1 : (y == 0) = false := by rw [beq_eq_false_iff_ne]; exact hy0
                  clear hy0
                  go_wp2
                  go_roundw
                  case rel => exact ⟨k + 1, by omega, by go_num, HA.out.succ hlt HG.out, HB0.out⟩
                  case measure => simp [intOf]; omega
              · have HG : Hid (zeroR rs[k] = false) := by have := HZ.out; rw [decide_eq_false hx0] at this; exact this
                have hx1 : (x == 0) = false := by rw [beq_eq_false_iff_ne]; exact hx0
                clear hx0
                go_wp2
                go_roundw
                case rel => exact ⟨k + 1, by omega, by go_num, HA.out.succ hlt HG.out, HB0.out⟩
                case measure => simp [intOf]; omega
            · obtain rfl : E = 0 := by rw [← HF.out, HA.out.all hlt]; rfl
              go_wp2
              go_ret
              exact ⟨rfl, HB'.out⟩
  · have f1 : (F == 0) = false := by rw [beq_eq_false_iff_ne]; exact h0
    have f2 : (F != 0) = true := by rw [bne, f1]; rfl
    obtain rfl : E = F := by rw [← HE.out, if_neg h0]
    clear h0
    go_wp2
    go_ret
    exact ⟨rfl, HB1.out⟩

set_option maxHeartbeats 4000000 in
theorem few_any (t : Tr) (w : World) (hin : t.In w w.heap.size) :
    Calls Try.prog 8 #[t.val] w fun e w' => (∃ r : Bool, e = .returned (.bool r)) ∧ Below w.heap.size w w' := by
  have C1 := Lib.hid (fun w h => size_any t.root 0 w h (by omega) (by omega))
  have HI := Lib.hid hin
  clear hin
  obtain ⟨boot, ra, rc, rs, ⟨nm, pa, pc, ps, ka, kc, ks⟩⟩ := t
  show Calls _ _ #[.agg #[.int .u32 boot, .slice ra rs.length rc, .string nm, .slice pa ps.length pc, .slice ka ks.length kc]] _ _
  have HB := Lib.hid ((Below.refl w.heap.size w).alloc (Nat.le_refl _) (.cells #[.int .u32 boot, .slice ra rs.length rc, .string nm, .slice pa ps.length pc, .slice ka ks.length kc] 31))
  go_enter Try.func8, Try.ntmps8
  go_wp2_with fail
  refine (C1.out _ ((HI.out.on HB.out).root)).mono ?_
  rintro e w1 ⟨⟨z, rfl⟩, hb⟩
  have HB1 := Lib.hid (HB.out.trans (hb.mono HB.out.size))
  have b1 := (hb.cell (p := ⟨w.heap.size, 1, none⟩) (by simp)).trans (World.cell?_alloc_new _ _ _ _)
  replace b1 : _ = some (Value.slice ra rs.length rc) := b1
  clear hb
  by_cases hz : z ≤ 100000
  · go_wp2
    go_ret
    exact ⟨⟨_, rfl⟩, HB1.out⟩
  · go_wp2
    go_ret
    first | exact ⟨⟨_, rfl⟩, HB1.out⟩ | exact ⟨.inl rfl, HB1.out⟩

end Go.Proofs.Ytbblgkidgecdpaa

/-! Layer 12, RegionCounts: out of what the program's Counts answers. -/
namespace Go.Proofs.Ytbblgkidgecdpaa
open Go.RowKit
set_option linter.unusedVariables false
set_option linter.unusedSimpArgs false

def okCounts (n : Nd) : Bool := decide (0 ≤ cntV n nmAddr 2) && decide (0 ≤ cntV n nmSize 1)
def CountsOK : Prop := ∀ (n : Nd) (w : World), n.In w w.heap.size → Calls Try.prog 20 #[n.val] w fun e w' =>
  (okCounts n = true → e = .returned (.tuple #[.int .i64 (cntV n nmAddr 2), .int .i64 (cntV n nmSize 1), .int .i64 0])) ∧ (okCounts n = false → e = .returned (.tuple #[.int .i64 0, .int .i64 0, .int .i64 10])) ∧ Below w.heap.size w w'

end Go.Proofs.Ytbblgkidgecdpaa

/-! Layer 12, RegionReg: out of what the program's Reg answers. -/
namespace Go.Proofs.Ytbblgkidgecdpaa
open Go.RowKit
set_option linter.unusedVariables false
set_option linter.unusedSimpArgs false

/-- What the program's Reg answers. -/
def RegOK : Prop := ∀ (parent n : Nd) (w : World), parent.In w w.heap.size → n.In w w.heap.size → heftN parent ≤ 1073741824 → heftN n ≤ 1073741824 → Calls Try.prog 34 #[parent.val, n.val] w fun e w' =>
  ((regV parent n).1 = true → ∃ A m c, e = .returned (.tuple #[.slice A m c, .int .i64 0]) ∧ Cel2 w' w'.heap.size A m ((regV parent n).2.map winV) ∧ m ≤ c ∧ c ≤ 9223372036854775807) ∧ ((regV parent n).1 = false → ∃ A c, e = .returned (.tuple #[.slice A 0 c, .int .i64 10]) ∧ c ≤ 9223372036854775807) ∧ Below w.heap.size w w'


end Go.Proofs.Ytbblgkidgecdpaa

/-! Layer 7, PropReads, PropOne, PropWide: out of what the program's functions answer. -/
namespace Go.Proofs.Ytbblgkidgecdpaa
open Go.RowKit
set_option linter.unusedVariables false
set_option linter.unusedSimpArgs false

/-- What Cells, Text and Texts answer: what they read, and the error. -/
def cellsL (zs : List Int) : List Int := if zs.length % 4 = 0 then (List.range (zs.length / 4)).map fun i => numTo zs (4 * i) 4 else []
def cellsE (zs : List Int) : Int := if zs.length % 4 = 0 then 0 else 4
noncomputable def textS (zs : List Int) : ByteArray := match textV zs with | none => ⟨#[]⟩ | some s => strOfNums s
noncomputable def textE (zs : List Int) : Int := match textV zs with | none => 4 | some _ => 0
noncomputable def txtsL (zs : List Int) : List ByteArray := match textsV zs with | none => [] | some l => l.map strOfNums
noncomputable def txtsE (zs : List Int) : Int := match textsV zs with | none => 4 | some _ => 0
abbrev u32s (l : List Int) : List Value := l.map (Value.int .u32)
abbrev strs6 (l : List ByteArray) : List Value := l.map Value.string
/-- A row of values, and an error. -/
def RowOut (w' : World) (R : List Value) (E : Int) (e : Ending) : Prop := ∃ A c, e = .returned (.tuple #[.slice A R.length c, .int .i64 E]) ∧ Cel w' w'.heap.size A R.length R ∧ R.length ≤ c ∧ c ≤ 9223372036854775807

theorem rowOut_of {w w' : World} {e : Ending} {t : TypeId} {R : List Value} {A : Option Addr} {m c : Nat} (hm : m = R.length) (he : e = .returned (.tuple #[.slice A m c, .int .i64 0])) (h : w'.ownsRow w.heap.size t 1 (.slice A m c) m R) : RowOut w' R 0 e := by
  subst hm
  obtain ⟨A', c', e', h1, h2, h3, _⟩ := owned_cel h
  simp only [Value.slice.injEq, true_and] at e'
  obtain ⟨rfl, rfl⟩ := e'
  exact ⟨A, c, he, h1, h2, h3⟩
theorem rowOut_nil {w' : World} {e : Ending} {E : Int} (he : e = .returned (.tuple #[.slice none 0 0, .int .i64 E])) : RowOut w' [] E e := ⟨none, 0, he, Cel.nil _ _ _, Nat.le_refl _, by omega⟩

theorem refcellsR (A : Option Addr) (n c : Nat) (zs : List Int) (w : World) (hs : Shows w w.heap.size A n zs) (hn : n ≤ 140737488351232) (hnc : n ≤ c) (hc : c ≤ 9223372036854775807) :
    Calls Try.prog 57 #[.slice A n c] w fun e w' => RowOut w' (u32s (cellsL zs)) (cellsE zs) e ∧ Below w.heap.size w w' := by
  obtain rfl := hs.1
  refine (refcells_any A _ c zs w hs hn hnc hc).mono fun e w' h => ⟨?_, h.2⟩
  obtain ⟨⟨h1, h2⟩, _⟩ := h
  by_cases h4 : zs.length % 4 = 0
  · obtain ⟨A', c', he, ho⟩ := h2 h4
    have e1 : cellRow zs (zs.length / 4) = u32s (cellsL zs) := by
      rw [cellsL, if_pos h4]; exact (List.map_map (l := List.range (zs.length / 4))).symm
    rw [cellsE, if_pos h4]
    rw [e1] at ho
    exact rowOut_of (by rw [List.length_map, cellsL, if_pos h4, List.length_map, List.length_range]) he ho
  · rw [cellsE, if_neg h4, cellsL, if_neg h4]
    exact rowOut_nil (h1 h4)
/-! ### What the program's functions answer -/
def CellsOK : Prop := ∀ (A : Option Addr) (n c : Nat) (zs : List Int) (w : World), Shows w w.heap.size A n zs → n ≤ 5000 → n ≤ c → c ≤ 9223372036854775807 → Calls Try.prog 21 #[.slice A n c] w fun e w' => RowOut w' (u32s (cellsL zs)) (cellsE zs) e ∧ Below w.heap.size w w'
def OneOK : Prop := ∀ (n : Nd) (s : ByteArray) (w : World), n.In w w.heap.size → s.size ≤ 140737488351232 → Calls Try.prog 49 #[n.val, .string s] w fun e w' => e = .returned (oneVal (oneV n s)) ∧ Below w.heap.size w w'

theorem u32_cell {w : World} {B n : Nat} {A : Option Addr} {l : List Int} (h : Cel w B A n (u32s l)) (hn : l.length = n) (k : Nat) (hk : k < n) : ∃ b o, A = some ⟨b, o, none⟩ ∧ b < B ∧ w.cell? ⟨b, o + k, none⟩ = some (.int .u32 (l.getD k 0)) := by
  obtain ⟨b, o, e, hb, hc⟩ := h.2 (by omega)
  refine ⟨b, o, e, hb, ?_⟩
  rw [hc k hk, List.getElem?_map, List.getElem?_eq_getElem (by omega)]
  simp [List.getD, List.getElem?_eq_getElem (show k < l.length by omega)]
theorem str_cell {w : World} {B n : Nat} {A : Option Addr} {l : List ByteArray} (h : Cel w B A n (strs6 l)) (hn : l.length = n) (k : Nat) (hk : k < n) : ∃ b o, A = some ⟨b, o, none⟩ ∧ b < B ∧ w.cell? ⟨b, o + k, none⟩ = some (.string (l.getD k ⟨#[]⟩)) := by
  obtain ⟨b, o, e, hb, hc⟩ := h.2 (by omega)
  refine ⟨b, o, e, hb, ?_⟩
  rw [hc k hk, List.getElem?_map, List.getElem?_eq_getElem (by omega)]
  simp [List.getD, List.getElem?_eq_getElem (show k < l.length by omega)]

end Go.Proofs.Ytbblgkidgecdpaa

/-! Layer 7, PropWide: out of what the program's Wide answers. -/
namespace Go.Proofs.Ytbblgkidgecdpaa
open Go.RowKit
set_option linter.unusedVariables false
set_option linter.unusedSimpArgs false

/-- The number that cells are, the greatest first. -/
def wideV (zs : List Int) : Int := zs.foldl (fun v z => v * 4294967296 + z) 0
theorem wideV_next (zs : List Int) (k : Nat) (h : k < zs.length) : wideV (zs.take (k + 1)) = wideV (zs.take k) * 4294967296 + zs.getD k 0 := by
  unfold wideV
  rw [take_next zs k h, List.foldl_append]
  simp [List.getD, List.getElem?_eq_getElem h]
theorem wideV_bound (zs : List Int) (hz : ∀ z ∈ zs, 0 ≤ z ∧ z ≤ 4294967295) : ∀ k, k ≤ zs.length → 0 ≤ wideV (zs.take k) ∧ wideV (zs.take k) < 4294967296 ^ k
  | 0, _ => by simp [wideV]
  | k + 1, h => by
    have h1 := wideV_bound zs hz k (by omega)
    have h2 := hz zs[k] (List.getElem_mem (by omega))
    have e : zs.getD k 0 = zs[k] := by simp [List.getD, List.getElem?_eq_getElem (show k < zs.length by omega)]
    rw [wideV_next zs k (by omega), e, Int.pow_succ]
    omega
def WideOK : Prop := ∀ (A : Option Addr) (n c : Nat) (zs : List Int) (w : World), zs.length = n → Cel w w.heap.size A n (u32s zs) → (∀ z ∈ zs, 0 ≤ z ∧ z ≤ 4294967295) → n ≤ 100 → n ≤ c → c ≤ 9223372036854775807 →
  Calls Try.prog 41 #[.slice A n c] w fun e w' => e = .returned (.tuple #[.int .u64 (if n ≤ 2 then wideV zs else 0), .int .i64 (if n ≤ 2 then 0 else 10)]) ∧ Below w.heap.size w w'

end Go.Proofs.Ytbblgkidgecdpaa

/-! Layer 7: the program's Wide; the law's first question. -/
namespace Go.Proofs.Ytbblgkidgecdpaa
open Go.RowKit
set_option linter.unusedVariables false
set_option linter.unusedSimpArgs false

theorem or_wide (v z : Int) (h0 : 0 ≤ v) (h1 : v ≤ 4294967295) (h2 : 0 ≤ z) (h3 : z ≤ 4294967295) : bits .or .u64 (v * 4294967296) z = v * 4294967296 + z := by
  obtain ⟨a, rfl⟩ := Int.eq_ofNat_of_zero_le h0
  obtain ⟨b, rfl⟩ := Int.eq_ofNat_of_zero_le h2
  have e : ((a : Int) * 4294967296) = ((a * 4294967296 : Nat) : Int) := by omega
  rw [e, u64_or_nat (a * 4294967296) b (by omega) (by omega), nat_join 32 (a * 4294967296) b (by omega) (by omega)]
  omega

set_option maxRecDepth 20000 in
set_option maxHeartbeats 4000000 in
theorem wide_any (A : Option Addr) (n c : Nat) (zs : List Int) (w : World) (hl : zs.length = n) (hs : Cel w w.heap.size A n (u32s zs)) (hz : ∀ z ∈ zs, 0 ≤ z ∧ z ≤ 4294967295) (hn : n ≤ 1099511627776) (hnc : n ≤ c) (hc : c ≤ 9223372036854775807) :
    Calls Try.prog 41 #[.slice A n c] w fun e w' => e = .returned (.tuple #[.int .u64 (if n ≤ 2 then wideV zs else 0), .int .i64 (if n ≤ 2 then 0 else 10)]) ∧ w' = w := by
  have HS := Lib.hid hs
  have HL := Lib.hid hl
  have HZ := Lib.hid hz
  clear hs hl hz
  by_cases h2 : n ≤ 2
  · have k2 : decide ((2 : Int) < (n : Int)) = false := decide_eq_false (by omega)
    rw [if_pos h2, if_pos h2]
    have H2 := Lib.hid h2
    clear h2
    obtain ⟨V, hV⟩ : ∃ V, wideV zs = V := ⟨_, rfl⟩
    rw [hV]
    have HV := Lib.hid hV
    clear hV
    go_enter Try.func41, Try.ntmps41
    go_wp2_with fail
    go_loop [4, 12] (fun x i => ∃ (k : Nat) (v : Int), k ≤ n ∧ i = .int .i64 k ∧ x = .int .u64 v ∧ Hid (v = wideV (zs.take k))) (fun _ i => n - (intOf i).toNat)
    case atStart => exact ⟨0, 0, Nat.zero_le _, rfl, rfl, Lib.hid rfl⟩
    case round =>
      obtain ⟨k, v, hk, rfl, rfl, HW⟩ := hrel
      by_cases hlt : k < n
      · obtain ⟨b, o, e, _, cc⟩ := u32_cell HS.out HL.out k hlt
        obtain rfl : A = _ := e
        obtain ⟨x, hx⟩ : ∃ x, zs.getD k 0 = x := ⟨_, rfl⟩
        rw [hx] at cc
        have hkz : k < zs.length := by rw [HL.out]; exact hlt
        have hn2 : n ≤ 2 := H2.out
        have hb1 := wideV_bound zs HZ.out k (by omega)
        have hxb : 0 ≤ x ∧ x ≤ 4294967295 := by
          rw [← hx]
          have := HZ.out zs[k] (List.getElem_mem hkz)
          simpa [List.getD, List.getElem?_eq_getElem hkz] using this
        have hnx := wideV_next zs k hkz
        rw [hx] at hnx
        rw [← HW.out] at hb1 hnx
        have hp : (4294967296 : Int) ^ k ≤ 4294967296 := by
          have := H2.out
          rcases (by omega : k = 0 ∨ k = 1) with rfl | rfl <;> decide
        have hv0 : 0 ≤ v := hb1.1
        have hv1 : v ≤ 4294967295 := by omega
        have HNX := Lib.hid hnx.symm
        have w2' : IntKind.u64.wrap x = x := IntWalk.u64_in _ (by omega)
        have w3' := or_wide v x hv0 hv1 hxb.1 hxb.2
        clear hb1 hx hnx hp hkz
        go_wp2
        go_round
        case rel => exact ⟨k + 1, v * 4294967296 + x, by omega, by go_num, by first | rfl | rw [w3'], Lib.hid HNX.out⟩
        case measure => simp [intOf]; omega
      · have HE : Hid (v = V) := Lib.hid (by rw [HW.out, List.take_of_length_le (by rw [HL.out]; omega), HV.out])
        obtain rfl := HE.out
        go_wp2
        go_ret2
        exact ⟨rfl, rfl⟩
  · have k2 : decide ((2 : Int) < (n : Int)) = true := decide_eq_true (by omega)
    rw [if_neg h2, if_neg h2]
    clear h2
    go_enter Try.func41, Try.ntmps41
    go_wp2
    go_ret2
    exact ⟨rfl, rfl⟩
theorem wideOK : WideOK := fun A n c zs w hl hs hz hn hnc hc => (wide_any A n c zs w hl hs hz (by omega) hnc hc).mono fun e w' ⟨h1, h2⟩ => ⟨h1, by rw [h2]; exact Below.refl _ _⟩

end Go.Proofs.Ytbblgkidgecdpaa

/-! Layer 12: the program's window; the numbers of a chunk of cells. -/
namespace Go.Proofs.Ytbblgkidgecdpaa
open Go.RowKit
set_option linter.unusedVariables false
set_option linter.unusedSimpArgs false

theorem size_u32w (w : World) : (Go.sizeOf 28).run Try.prog w = .ok 1 w := by kernel_rfl
theorem u32s_take (cs : List Int) (k : Nat) : u32s (cs.take k) = (u32s cs).take k := by simp [u32s, List.map_take]
theorem u32s_drop (cs : List Int) (k : Nat) : u32s (cs.drop k) = (u32s cs).drop k := by simp [u32s, List.map_drop]

set_option maxRecDepth 20000 in
set_option maxHeartbeats 4000000 in
theorem window_any (A : Option Addr) (k c a : Nat) (cs : List Int) (w : World) (hl : cs.length = k) (hs : Cel w w.heap.size A k (u32s cs)) (hz : ∀ z ∈ cs, 0 ≤ z ∧ z ≤ 4294967295) (hak : a ≤ k) (ha : a ≤ 2) (hka : k - a ≤ 2) (hkc : k ≤ c) (hc : c ≤ 9223372036854775807) :
    Calls Try.prog 48 #[.slice A k c, .int .i64 a] w fun e w' => e = .returned (.agg #[.int .u64 (wideV (cs.take a)), .int .u64 (wideV (cs.drop a))]) ∧ Below w.heap.size w w' := by
  obtain ⟨W0, hW0⟩ : ∃ W0, W0 = w.alloc (.cells #[.int .u64 0, .int .u64 0] 61) := ⟨_, rfl⟩
  have hb0 : Below w.heap.size w W0 := by rw [hW0]; exact (Below.refl w.heap.size w).alloc (Nat.le_refl _) _
  have hs0 : Cel W0 W0.heap.size A k (u32s cs) := hs.on hb0
  obtain ⟨x, hx⟩ : ∃ x, wideV (cs.take a) = x := ⟨_, rfl⟩
  obtain ⟨y, hy⟩ : ∃ y, wideV (cs.drop a) = y := ⟨_, rfl⟩
  have C1 : Calls Try.prog 41 #[.slice A a c] W0 fun e w' => e = .returned (.tuple #[.int .u64 x, .int .i64 0]) ∧ w' = W0 := by
    have h := wide_any A a c (cs.take a) W0 (by rw [List.length_take, hl]; omega) (by rw [u32s_take]; exact hs0.upto hak) (fun z h => hz z (List.mem_of_mem_take h)) (by omega) (by omega) hc
    rwa [if_pos ha, if_pos ha, hx] at h
  have C2 : Calls Try.prog 41 #[.slice (cutAt A c a) (k - a) (c - a)] W0 fun e w' => e = .returned (.tuple #[.int .u64 y, .int .i64 0]) ∧ w' = W0 := by
    have h := wide_any (cutAt A c a) (k - a) (c - a) (cs.drop a) W0 (by rw [List.length_drop, hl]) (by rw [u32s_drop]; exact hs0.from_ hak hkc) (fun z h => hz z (List.mem_of_mem_drop h)) (by omega) (by omega) (by omega)
    rwa [if_pos hka, if_pos hka, hy] at h
  rw [hx, hy]
  have R1 : ∀ W : World, (Instr.slice 70 (.slice A k c) none (some (.int .i64 (a : Int))) none).run Try.prog W = .ok (.slice A a c) W := fun W => run_upto Try.underlying70 size_u32w A k c _ a rfl (by omega) W
  have R2 : ∀ W : World, (Instr.slice 70 (.slice A k c) (some (.int .i64 (a : Int))) none none).run Try.prog W = .ok (.slice (cutAt A c a) (k - a) (c - a)) W := fun W => run_from Try.underlying70 size_u32w A k c _ a rfl hak W
  rw [hW0] at C1 C2
  have C1 := Lib.hid C1
  have C2 := Lib.hid C2
  have HB : Hid (Below w.heap.size w (w.alloc (.cells #[.int .u64 x, .int .u64 y] 61))) := Lib.hid ((Below.refl w.heap.size w).alloc (Nat.le_refl _) _)
  clear hW0 hb0 hs0 hs hz hl hx hy
  go_enter Try.func48, Try.ntmps48
  go_wp2_with fail
  refine C1.out.mono ?_
  rintro e w1 ⟨rfl, rfl⟩
  clear C1 R1
  go_wp2_with fail
  refine C2.out.mono ?_
  rintro e w1 ⟨rfl, rfl⟩
  clear C2 R2
  go_wp2_with fail
  have d0 : (w.alloc (.cells #[.int .u64 x, .int .u64 y] 61)).cell? ⟨w.heap.size, 0, none⟩ = some (.int .u64 x) := World.cell?_alloc_new _ _ _ _
  have d1 : (w.alloc (.cells #[.int .u64 x, .int .u64 y] 61)).cell? ⟨w.heap.size, 1, none⟩ = some (.int .u64 y) := World.cell?_alloc_new _ _ _ _
  refine bodyPost_ret (v := .agg #[.int .u64 x, .int .u64 y]) (by simp [results, Try.results48, go_sem, d0, d1]; try rfl) rfl ?_
  exact ⟨rfl, HB.out⟩

theorem cut_num (zs : List Int) (x m : Nat) : ∀ k, k ≤ m → numTo ((zs.drop x).take m) 0 k = numTo zs x k
  | 0, _ => rfl
  | k + 1, h => by
    rw [numTo, numTo, cut_num zs x m k (by omega), Nat.zero_add]
    simp [List.getD, List.getElem?_take_of_lt (show k < m by omega), List.getElem?_drop]
theorem cutN_num (zs : List Int) (x m : Nat) : cutN zs x m = numTo zs x m := cut_num zs x m m (Nat.le_refl _)
theorem num_eight (zs : List Int) (x : Nat) : numTo zs x 8 = numTo zs x 4 * 4294967296 + numTo zs (x + 4) 4 := by
  simp only [numTo, Nat.add_zero, Nat.add_assoc, Nat.reduceAdd]
  generalize zs.getD x 0 = a0
  generalize zs.getD (x + 1) 0 = a1
  generalize zs.getD (x + 2) 0 = a2
  generalize zs.getD (x + 3) 0 = a3
  generalize zs.getD (x + 4) 0 = a4
  generalize zs.getD (x + 5) 0 = a5
  generalize zs.getD (x + 6) 0 = a6
  generalize zs.getD (x + 7) 0 = a7
  omega
theorem cells_drop (zs : List Int) (N b : Nat) (hN : zs.length = 4 * N) (hb : b < N) : (cellsL zs).drop b = numTo zs (4 * b) 4 :: (cellsL zs).drop (b + 1) := by
  have e : cellsL zs = (List.range N).map fun i => numTo zs (4 * i) 4 := by
    rw [cellsL, if_pos (by omega), show zs.length / 4 = N by omega]
  rw [e, List.drop_eq_getElem_cons (by simpa using hb)]
  simp
theorem chunk_num (zs : List Int) (N b m : Nat) (hN : zs.length = 4 * N) (hb : b + m ≤ N) (hm : m ≤ 2) : wideV (((cellsL zs).drop b).take m) = numTo zs (4 * b) (4 * m) := by
  rcases (by omega : m = 0 ∨ m = 1 ∨ m = 2) with rfl | rfl | rfl
  · rfl
  · rw [cells_drop zs N b hN (by omega)]
    simp [wideV]
  · rw [cells_drop zs N b hN (by omega), cells_drop zs N (b + 1) hN (by omega)]
    have := num_eight zs (4 * b)
    rw [show 4 * (b + 1) = 4 * b + 4 by omega]
    simp [wideV]
    omega
/-- The window of chunk j. -/
theorem chunk_win (zs : List Int) (N j a s : Nat) (hN : zs.length = 4 * N) (hj : j * (a + s) + (a + s) ≤ N) (ha : a ≤ 2) (hs : s ≤ 2) (cs : List Int) (hcs : cs = ((cellsL zs).drop (j * (a + s))).take (a + s)) :
    wideV (cs.take a) = cutN zs (j * (4 * a + 4 * s)) (4 * a) ∧ wideV (cs.drop a) = cutN zs (j * (4 * a + 4 * s) + 4 * a) (4 * s) := by
  subst hcs
  have e : j * (4 * a + 4 * s) = 4 * (j * (a + s)) := by rw [← Nat.mul_add]; exact Nat.mul_left_comm j 4 (a + s)
  rw [cutN_num, cutN_num, e]
  generalize j * (a + s) = b at *
  refine ⟨?_, ?_⟩
  · rw [List.take_take, Nat.min_eq_left (by omega)]
    exact chunk_num zs N b a hN (by omega) ha
  · rw [List.drop_take, List.drop_drop, show a + s - a = s by omega, show 4 * b + 4 * a = 4 * (b + a) by omega]
    exact chunk_num zs N (b + a) s hN (by omega) hs
end Go.Proofs.Ytbblgkidgecdpaa

/-! Rows of three cells an element: what a call has made shows them; append of one literal. -/
namespace Go.Proofs.Ytbblgkidgecdpaa
open Go.RowKit
set_option linter.unusedVariables false
set_option linter.unusedSimpArgs false

/-- A slice shows these triples of values, three cells each, in a block below B. -/
def Cel3 (w : World) (B : Nat) (A : Option Addr) (n : Nat) (xs : List (Value × Value × Value)) : Prop :=
  xs.length = n ∧ (0 < n → ∃ b o, A = some ⟨b, o, none⟩ ∧ b < B ∧ ∀ i (h : i < xs.length), w.cell? ⟨b, o + i * 3, none⟩ = some xs[i].1 ∧ w.cell? ⟨b, o + i * 3 + 1, none⟩ = some xs[i].2.1 ∧ w.cell? ⟨b, o + i * 3 + 2, none⟩ = some xs[i].2.2)
section
variable {w w' : World} {B B' n : Nat} {A : Option Addr} {xs : List (Value × Value × Value)}
theorem Cel3.nil (w : World) (B : Nat) (A : Option Addr) : Cel3 w B A 0 [] := ⟨rfl, fun h => absurd h (Nat.lt_irrefl 0)⟩
theorem Cel3.keep (h : Cel3 w B A n xs) (hk : ∀ p : Addr, p.block < B → w'.cell? p = w.cell? p) : Cel3 w' B A n xs :=
  ⟨h.1, fun hn => by
    obtain ⟨b, o, e, hb, hc⟩ := h.2 hn
    exact ⟨b, o, e, hb, fun i hi => ⟨(hk _ hb).trans (hc i hi).1, (hk _ hb).trans (hc i hi).2.1, (hk _ hb).trans (hc i hi).2.2⟩⟩⟩
theorem Cel3.below (h : Cel3 w B A n xs) (hb : Below B w w') : Cel3 w' B A n xs := h.keep fun _ hp => hb.cell hp
theorem Cel3.more (h : Cel3 w B A n xs) (hB : B ≤ B') : Cel3 w B' A n xs :=
  ⟨h.1, fun hn => by
    obtain ⟨b, o, e, hb, hc⟩ := h.2 hn
    exact ⟨b, o, e, by omega, hc⟩⟩
theorem Cel3.on (h : Cel3 w w.heap.size A n xs) (hb : Below w.heap.size w w') : Cel3 w' w'.heap.size A n xs := (h.below hb).more hb.size
end
/-- Triples, cell by cell. -/
def flatT (xs : List (Value × Value × Value)) : List Value := xs.flatMap fun x => [x.1, x.2.1, x.2.2]
theorem flatT_length (xs : List (Value × Value × Value)) : (flatT xs).length = xs.length * 3 := by
  induction xs with
  | nil => rfl
  | cons x r ih =>
    have e : flatT (x :: r) = [x.1, x.2.1, x.2.2] ++ flatT r := by simp [flatT]
    rw [e, List.length_append, ih]; simp; omega
theorem flatT_app (xs : List (Value × Value × Value)) (x : Value × Value × Value) : flatT (xs ++ [x]) = flatT xs ++ [x.1, x.2.1, x.2.2] := by simp [flatT]
theorem flatT_at : ∀ (xs : List (Value × Value × Value)) (i : Nat) (h : i < xs.length), (flatT xs)[i * 3]? = some xs[i].1 ∧ (flatT xs)[i * 3 + 1]? = some xs[i].2.1 ∧ (flatT xs)[i * 3 + 2]? = some xs[i].2.2
  | x :: r, 0, _ => by simp [flatT]
  | x :: r, i + 1, h => by
    have e : flatT (x :: r) = x.1 :: x.2.1 :: x.2.2 :: flatT r := by simp [flatT]
    have ih := flatT_at r i (by simpa using h)
    rw [e, show (i + 1) * 3 = i * 3 + 1 + 1 + 1 by omega]
    simpa using ih
/-- What a call has made shows its triples. -/
theorem owned_cel3 {w : World} {base n : Nat} {e : TypeId} {v : Value} {xs : List (Value × Value × Value)} (h : w.ownsRow base e 3 v n (flatT xs)) : ∃ A c, v = .slice A n c ∧ Cel3 w w.heap.size A n xs ∧ n ≤ c ∧ c ≤ 9223372036854775807 ∧ (∀ b, v.ownBlock = some b → base ≤ b ∧ b < w.heap.size) := by
  obtain ⟨hl, ⟨rfl, rfl⟩ | ⟨g, cap, cur, rfl, hb, hg, hnc, hcm, hsz, htk⟩⟩ := h
  · rw [flatT_length] at hl
    obtain rfl : xs = [] := List.eq_nil_of_length_eq_zero (by omega)
    exact ⟨none, 0, rfl, Cel3.nil _ _ _, Nat.le_refl _, by omega, fun b h => by simp [Value.ownBlock] at h⟩
  · rw [flatT_length] at hl
    have hlz : xs.length = n := by omega
    have hlt := (Array.getElem?_eq_some_iff.1 hg).1
    have hcell : ∀ k, k < n * 3 → w.cell? ⟨g, k, none⟩ = (flatT xs)[k]? := fun k hk => by
      have h1 : (flatT xs)[k]? = cur[k]? := by
        rw [← htk, List.getElem?_take_of_lt hk, Array.getElem?_toList]
      rw [h1]
      simp [World.cell?, hg]
    refine ⟨_, cap, rfl, ⟨hlz, fun hn => ⟨g, 0, rfl, hlt, fun i hi => ?_⟩⟩, hnc, hcm, fun b h => ?_⟩
    · obtain ⟨a1, a2, a3⟩ := flatT_at xs i hi
      rw [Nat.zero_add, hcell _ (by omega), hcell _ (by omega), hcell _ (by omega)]
      exact ⟨a1, a2, a3⟩
    · simp [Value.ownBlock] at h
      omega
/-- A literal of one triple. -/
theorem row_triple (W : World) (B : Nat) (hB : B ≤ W.heap.size) (e : TypeId) (x : Value × Value × Value) : (W.alloc (.cells #[x.1, x.2.1, x.2.2] e)).ownsRow B e 3 (.slice (some ⟨W.heap.size, 0, none⟩) 1 1) 1 (flatT [x]) :=
  ⟨by simp [flatT], .inr ⟨W.heap.size, 1, _, rfl, hB, heap_alloc_new W _, Nat.le_refl _, by unfold maxLen; omega, rfl, by simp [flatT]⟩⟩
/-- append of one triple, laid by the call itself. -/
theorem app_triple {t e : TypeId} {i0 : TypeInfo} {z : Value} {bytes : Nat} (ht : Try.prog.underlying t = some (.slice e)) (hi : Try.prog.info? e = some i0) (hz : i0.zero = some z) (hs1 : i0.size = 3) (hby : i0.bytes = bytes) (hzs : z.cells.size = 3)
    {w : World} {B n : Nat} {v : Value} {xs : List (Value × Value × Value)} (h : w.ownsRow B e 3 v n (flatT xs)) (x : Value × Value × Value) (hx : x.1.oneCell' = true) (hx2 : x.2.1.oneCell' = true) (hx3 : x.2.2.oneCell' = true) (hbig : (n + 1) * bytes ≤ 140737488355328) (hlen : n + 1 ≤ 140737488355328) (hB : B ≤ w.heap.size) (ty : TypeId) :
    ∃ A' c' w', (Builtin.append_ #[t, t] ty #[v, .slice (some ⟨w.heap.size, 0, none⟩) 1 1]).run Try.prog (w.alloc (.cells #[x.1, x.2.1, x.2.2] e)) = .ok (.slice A' (n + 1) c') w' ∧ w'.ownsRow B e 3 (.slice A' (n + 1) c') (n + 1) (flatT (xs ++ [x])) ∧ Below B w w' ∧ w.grownBy w' v.ownBlock ∧ ((Value.slice A' (n + 1) c').ownBlock = v.ownBlock ∨ (Value.slice A' (n + 1) c').ownBlock = some (w.heap.size + 1)) := by
  have h1 : (w.alloc (.cells #[x.1, x.2.1, x.2.2] e)).ownsRow B e 3 v n (flatT xs) := h.alloc _
  have hb1 := (Below.refl B w).alloc hB (.cells #[x.1, x.2.1, x.2.2] e)
  obtain ⟨v', w', r1, r2, r3, _, r5⟩ := run_append_own_at (P := Try.prog) (w.alloc (.cells #[x.1, x.2.1, x.2.2] e)) B t ty e i0 z 3 bytes ht hi hz hs1 hby hzs (by omega) v _ (flatT xs) h1 ⟨w.heap.size, 0, none⟩ 1 1 [x.1, x.2.1, x.2.2] rfl
    (fun j u hu => by
      rw [addr_add, Nat.zero_add, World.cell?_alloc_new]
      rcases j with _ | _ | _ | j
      · simpa using hu
      · simpa using hu
      · simpa using hu
      · simp at hu)
    (fun u hu => by
      simp only [List.mem_cons, List.not_mem_nil, or_false] at hu
      rcases hu with rfl | rfl | rfl
      · exact hx
      · exact hx2
      · exact hx3) (by unfold maxLen; omega) hbig (by simp; omega)
  have r2' : w'.ownsRow B e 3 v' (n + 1) (flatT (xs ++ [x])) := by rw [flatT_app]; exact r2
  obtain ⟨A', c', rfl, _⟩ := owned_cel3 r2'
  refine ⟨A', c', w', r1, r2', hb1.grown r3 (by simp; omega) (fun q hq => (h1.lt q hq).1), ?_, by simpa using r5⟩
  have hg0 := World.grownBy_alloc w (.cells #[x.1, x.2.1, x.2.2] e) v.ownBlock
  exact ⟨r3.os.trans hg0.os, r3.tape.trans hg0.tape, r3.output.trans hg0.output, Nat.le_trans hg0.size r3.size, fun k hk hne => (r3.block k (Nat.lt_of_lt_of_le hk hg0.size) hne).trans (hg0.block k hk hne)⟩
end Go.Proofs.Ytbblgkidgecdpaa
