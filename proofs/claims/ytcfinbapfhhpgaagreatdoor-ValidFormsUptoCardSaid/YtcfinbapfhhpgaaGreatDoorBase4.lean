/-
  Base, part 4.
-/
import Derived.Test.YtcfinbapfhhpgaaGreatDoorBase3
import Derived.BigQuiet
import Derived.Test.YtcfinbapfhhpgaaGreatDoorBase1
import Derived.Deep.DrawnRows
namespace Go.Proofs.YtcfinbapfhhpgaaGreatDoor
open Go.RowKit
set_option linter.unusedVariables false
set_option linter.unusedSimpArgs false
set_option maxRecDepth 20000
set_option maxHeartbeats 16000000
theorem qdk_ {α : Type} {l : List α} {k i : Nat} (hk : k < l.length) (hki : k < i) : l[k] ∈ l.take i :=
 List.mem_iff_getElem.2 ⟨k, by rw [List.length_take]; omega, by rw [List.getElem_take]⟩
theorem qb7_ {l : List ByteArray} {s : ByteArray} {i : Nat} (h : Missed l s i) : s ∉ l.take i := fun hm => by
 obtain ⟨k, hk, he⟩ := List.mem_iff_getElem.1 hm
 rw [List.length_take] at hk
 rw [List.getElem_take] at he
 exact h.2 k (by omega) (by omega) he
theorem wrong_any : ∀ (n : Nd) (d : Int) (w : World), n.In w w.heap.size -> 1 <= d -> d <= 17 -> ∀ E : Int, qbj_ n d = E -> Calls Tryz.prog 12 #[n.val, .int .i64 d] w fun e w' => e = .returned (.int .i64 E) /\ Below w.heap.size w w' := by
 refine Nd.ind ?_
 intro n ih d w hin hd0 hd1 E hE
 obtain ⟨E1, h1⟩ : ∃ E1, qey_ n d = E1 := ⟨_, rfl⟩
 obtain ⟨r1, hr1⟩ : ∃ r, qgg_ n d = r := ⟨_, rfl⟩
 have HE : Hid ((if E1 = 0 then qde_ n.kids (d + 1) else E1) = E) := by rw [<- h1, <- qfj_]; exact hE
 have HE1 : Hid ((if 16 < d then 6 else if r1 = false then 5 else if n.props.any misP = true then 5 else if qb0_ (n.props.map PV.name) = true then 9 else if qb0_ (n.kids.map Nd.name) = true then 9 else 0) = E1) := by
  rw [<- hr1]; exact h1
 have HV : Hid (∀ v : Int, v ≠ 0 -> E1 = v -> E = v) := fun v hv h => by rw [<- HE.out, if_neg (by rw [h]; exact hv), h]
 have HI := Lib.hid hin
 have IH := Lib.hid ih
 obtain ⟨hl, hm⟩ := hin.klen
 obtain ⟨hlp, hmp⟩ := hin.plen
 have hnz := hin.name_le.1
 clear hin ih hE h1
 obtain ⟨nm, pa, pc, ps, ka, kc, ks⟩ := n
 replace hl : ks.length <= kc := hl
 replace hm : kc <= 9223372036854775807 := hm
 replace hlp : ps.length <= pc := hlp
 replace hmp : pc <= 9223372036854775807 := hmp
 replace hnz : nm.size <= 140737488351232 := hnz
 replace HE : Hid ((if E1 = 0 then qde_ ks (d + 1) else E1) = E) := HE
 replace HE1 : Hid ((if 16 < d then 6 else if r1 = false then 5 else if ps.any misP = true then 5 else if qb0_ (ps.map PV.name) = true then 9 else if qb0_ (ks.map Nd.name) = true then 9 else 0) = E1) := HE1
 have HPM := Lib.hid (show (ps.map PV.name).length = ps.length from List.length_map _)
 have HKM := Lib.hid (show (ks.map Nd.name).length = ks.length from List.length_map _)
 show Calls _ _ #[.agg #[.string nm, .slice pa ps.length pc, .slice ka ks.length kc], .int .i64 d] _ _
 have HB1 := Lib.hid ((Below.refl w.heap.size w).alloc (Nat.le_refl _) (.cells #[Value.string nm, .slice pa ps.length pc, .slice ka ks.length kc] 27))
 by_cases h16 : 16 < d
 ·obtain rfl : E = 6 := HV.out 6 (by omega) (by rw [<- HE1.out, if_pos h16])
  go_enter Tryz.func12, Tryz.ntmps12
  go_wp2
  go_ret
  exact ⟨rfl, HB1.out⟩
 ·have F16 := Lib.hid h16
  have hd16 : ¬ (16 < d) := h16
  clear h16
  have BX : Hid (∀ W : World, Below (w.heap.size + 1) (w.alloc (.cells #[Value.string nm, .slice pa ps.length pc, .slice ka ks.length kc] 27)) W -> W.cell? ⟨w.heap.size, 0, none⟩ = some (.string nm) /\ W.cell? ⟨w.heap.size, 1, none⟩ = some (.slice pa ps.length pc) /\ W.cell? ⟨w.heap.size, 2, none⟩ = some (.slice ka ks.length kc)) := fun W h =>
   ⟨(h.cell (Nat.lt_succ_self _)).trans (World.cell?_alloc_new _ _ _ _), (h.cell (Nat.lt_succ_self _)).trans (World.cell?_alloc_new _ _ _ _), (h.cell (Nat.lt_succ_self _)).trans (World.cell?_alloc_new _ _ _ _)⟩
  by_cases hd : d = 1
  ·subst hd
   have hr1' : nm.toList.isEmpty = r1 := by rw [<- hr1, qgg_, if_pos rfl]; rfl
   clear hr1
   cases r1
   ·obtain rfl : E = 5 := HV.out 5 (by omega) (by rw [<- HE1.out, if_neg (by have := F16.out; omega), if_pos rfl])
    go_enter Tryz.func12, Tryz.ntmps12
    go_wp2
    go_ret
    exact ⟨rfl, HB1.out⟩
   ·go_enter Tryz.func12, Tryz.ntmps12
    go_wp2_with fail
    clear hr1'
    go_loopw [34] (fun i wr => ∃ k : Nat, k <= ps.length /\ i = .int .i64 k /\ Good misP ps k /\ Below (w.heap.size + 1) (w.alloc (.cells #[Value.string nm, .slice pa ps.length pc, .slice ka ks.length kc] 27)) wr) (fun i _ => ps.length - (intOf i).toNat)
    case atStart => exact ⟨0, Nat.zero_le _, rfl, Good.zero _ _, Below.refl _ _⟩
    case round =>
     obtain ⟨k, hk, rfl, hgood, hb⟩ := hrel
     have HA := Lib.hid hgood
     have HB0 := Lib.hid hb
     have HB := Lib.hid (HB1.out.trans (hb.mono (Nat.le_succ _)))
     obtain ⟨bx0, bx1, bx2⟩ := BX.out _ hb
     clear hgood hb
     by_cases hlt : k < ps.length
     ·obtain ⟨b, o, e, hb, c0, c1⟩ := (HI.out.under HB.out).pcell (i := k) hlt
      obtain rfl : pa = _ := e
      replace c0 : _ = some (Value.string ps[k].name) := c0
      clear c1
      obtain ⟨q, hq⟩ : ∃ q, propB ps[k].name = q := ⟨_, rfl⟩
      have C := Lib.hid (qfu_ ps[k].name wr (HI.out.prop (List.getElem_mem hlt)).1.1 q hq)
      have HQ : Hid (misP ps[k] = !q) := by show misP _ = _; rw [misP, hq]
      clear hq
      cases q
      ·obtain rfl : E = 5 := HV.out 5 (by omega) (by rw [<- HE1.out, if_neg (by have := F16.out; omega), if_neg (by simp), if_pos (qoa_ hlt HQ.out)])
       go_wp2_with fail
       refine C.out.mono ?_
       rintro e w' ⟨rfl, rfl⟩
       go_wp2
       go_ret
       exact ⟨rfl, HB.out⟩
      ·go_wp2_with fail
       refine C.out.mono ?_
       rintro e w' ⟨rfl, rfl⟩
       go_wp2
       go_roundw
       case rel => exact ⟨k + 1, by omega, by go_num, HA.out.succ hlt HQ.out, HB0.out⟩
       case measure => simp [intOf]; omega
     ·have FP : Hid (ps.any misP = false) := HA.out.all hlt
      go_wp2_with fail
      go_loopw [49] (fun i wr => ∃ k : Nat, k <= ps.length /\ i = .int .i64 k /\ ((ps.map PV.name).take k).Nodup /\ Below (w.heap.size + 1) (w.alloc (.cells #[Value.string nm, .slice pa ps.length pc, .slice ka ks.length kc] 27)) wr) (fun i _ => ps.length - (intOf i).toNat)
      case atStart => exact ⟨0, Nat.zero_le _, rfl, qcr_ _, HB0.out⟩
      case round =>
       clear bx0 bx1 bx2 HB0
       obtain ⟨i, hi, rfl, hnd, hb⟩ := hrel
       have HN := Lib.hid hnd
       have HB0 := Lib.hid hb
       obtain ⟨bx0, bx1, bx2⟩ := BX.out _ hb
       clear hnd hb
       by_cases hlt : i < ps.length
       ·go_wp2_with fail
        go_loopw [53] (fun j wr => ∃ k : Nat, k <= i /\ j = .int .i64 k /\ Missed (ps.map PV.name) ps[i].name k /\ Below (w.heap.size + 1) (w.alloc (.cells #[Value.string nm, .slice pa ps.length pc, .slice ka ks.length kc] 27)) wr) (fun j _ => i - (intOf j).toNat)
        case atStart => exact ⟨0, Nat.zero_le _, rfl, Missed.zero _ _, HB0.out⟩
        case round =>
         clear bx0 bx1 bx2 HB0
         obtain ⟨k, hk, rfl, hmiss, hb⟩ := hrel
         have HA := Lib.hid hmiss
         have HB0 := Lib.hid hb
         have HB := Lib.hid (HB1.out.trans (hb.mono (Nat.le_succ _)))
         obtain ⟨bx0, bx1, bx2⟩ := BX.out _ hb
         clear hmiss hb
         by_cases hlt' : k < i
         ·have hkl : k < ps.length := by omega
          have HKN : Hid ((ps.map PV.name)[k]'(by rw [HPM.out]; exact hkl) = ps[k].name) := List.getElem_map _
          have HIN : Hid ((ps.map PV.name)[i]'(by rw [HPM.out]; exact hlt) = ps[i].name) := List.getElem_map _
          obtain ⟨b, o, e, hb, c0, cc⟩ := (HI.out.under HB.out).pcell (i := k) hkl
          obtain ⟨b', o', e', hb', d0, dd⟩ := (HI.out.under HB.out).pcell (i := i) hlt
          replace e : pa = _ := e
          replace e' : pa = _ := e'
          obtain ⟨rfl, rfl⟩ : b' = b /\ o' = o := by have := e'.symm.trans e; simpa using this
          subst e
          replace c0 : _ = some (Value.string ps[k].name) := c0
          replace d0 : _ = some (Value.string ps[i].name) := d0
          clear cc dd e'
          by_cases hx : ps[k].name = ps[i].name
          ·have hx1 : (ps[k].name.toList == ps[i].name.toList) = true := by rw [hx]; simp
           have HT : Hid (qb0_ (ps.map PV.name) = true) := qdm_ (k := i) (by rw [HPM.out]; exact hlt) (by rw [HIN.out, <- hx, <- HKN.out]; exact qdk_ (by rw [HPM.out]; exact hkl) hlt')
           obtain rfl : E = 9 := HV.out 9 (by omega) (by rw [<- HE1.out, if_neg (by have := F16.out; omega), if_neg (by simp), if_neg (by rw [FP.out]; simp), if_pos HT.out])
           clear hx
           go_wp2_with fail
           go_region
           go_wp2
           go_ret
           exact ⟨rfl, HB.out.drew⟩
          ·have hx1 : (ps[k].name.toList == ps[i].name.toList) = false := qjq_ hx
           have HF := Lib.hid (HA.out.succ (by rw [HPM.out]; exact hkl) (by rw [HKN.out]; exact hx))
           clear hx
           go_wp2_with fail
           go_region
           go_wp2
           go_roundw
           case rel => exact ⟨k + 1, by omega, by go_num, HF.out, HB0.out.drew⟩
           case measure => simp [intOf]; omega
         ·have HIN : Hid ((ps.map PV.name)[i]'(by rw [HPM.out]; exact hlt) = ps[i].name) := List.getElem_map _
          have hki : k = i := by omega
          have HNX : Hid (((ps.map PV.name).take (i + 1)).Nodup) := qcp_ HN.out (by rw [HPM.out]; exact hlt) (by rw [HIN.out]; exact qb7_ (hki ▸ HA.out))
          clear hki
          go_wp2
          go_roundw
          case rel => exact ⟨i + 1, by omega, by go_num, HNX.out, HB0.out⟩
          case measure => simp [intOf]; omega
       ·have FTp : Hid (qb0_ (ps.map PV.name) = false) := qdh_ HN.out (by rw [HPM.out]; exact hlt)
        have HB := Lib.hid (HB1.out.trans (HB0.out.mono (Nat.le_succ _)))
        go_wp2_with fail
        go_loopw [74] (fun i wr => ∃ k : Nat, k <= ks.length /\ i = .int .i64 k /\ ((ks.map Nd.name).take k).Nodup /\ Below (w.heap.size + 1) (w.alloc (.cells #[Value.string nm, .slice pa ps.length pc, .slice ka ks.length kc] 27)) wr) (fun i _ => ks.length - (intOf i).toNat)
        case atStart => exact ⟨0, Nat.zero_le _, rfl, qcr_ _, HB0.out⟩
        case round =>
         clear bx0 bx1 bx2 HB0
         obtain ⟨i, hi, rfl, hnd, hb⟩ := hrel
         have HN := Lib.hid hnd
         have HB0 := Lib.hid hb
         obtain ⟨bx0, bx1, bx2⟩ := BX.out _ hb
         clear hnd hb
         by_cases hlt : i < ks.length
         ·go_wp2_with fail
          go_loopw [78] (fun j wr => ∃ k : Nat, k <= i /\ j = .int .i64 k /\ Missed (ks.map Nd.name) ks[i].name k /\ Below (w.heap.size + 1) (w.alloc (.cells #[Value.string nm, .slice pa ps.length pc, .slice ka ks.length kc] 27)) wr) (fun j _ => i - (intOf j).toNat)
          case atStart => exact ⟨0, Nat.zero_le _, rfl, Missed.zero _ _, HB0.out⟩
          case round =>
           clear bx0 bx1 bx2 HB0
           obtain ⟨k, hk, rfl, hmiss, hb⟩ := hrel
           have HA := Lib.hid hmiss
           have HB0 := Lib.hid hb
           have HB := Lib.hid (HB1.out.trans (hb.mono (Nat.le_succ _)))
           obtain ⟨bx0, bx1, bx2⟩ := BX.out _ hb
           clear hmiss hb
           by_cases hlt' : k < i
           ·have hkl : k < ks.length := by omega
            have HKN : Hid ((ks.map Nd.name)[k]'(by rw [HKM.out]; exact hkl) = ks[k].name) := List.getElem_map _
            have HIN : Hid ((ks.map Nd.name)[i]'(by rw [HKM.out]; exact hlt) = ks[i].name) := List.getElem_map _
            obtain ⟨b, o, e, hb, c0, cc⟩ := (HI.out.under HB.out).kcell (i := k) hkl
            obtain ⟨b', o', e', hb', d0, dd⟩ := (HI.out.under HB.out).kcell (i := i) hlt
            replace e : ka = _ := e
            replace e' : ka = _ := e'
            obtain ⟨rfl, rfl⟩ : b' = b /\ o' = o := by have := e'.symm.trans e; simpa using this
            subst e
            replace c0 : _ = some (Value.string ks[k].name) := c0
            replace d0 : _ = some (Value.string ks[i].name) := d0
            clear cc dd e'
            by_cases hx : ks[k].name = ks[i].name
            ·have hx1 : (ks[k].name.toList == ks[i].name.toList) = true := by rw [hx]; simp
             have HT : Hid (qb0_ (ks.map Nd.name) = true) := qdm_ (k := i) (by rw [HKM.out]; exact hlt) (by rw [HIN.out, <- hx, <- HKN.out]; exact qdk_ (by rw [HKM.out]; exact hkl) hlt')
             obtain rfl : E = 9 := HV.out 9 (by omega) (by rw [<- HE1.out, if_neg (by have := F16.out; omega), if_neg (by simp), if_neg (by rw [FP.out]; simp), if_neg (by rw [FTp.out]; simp), if_pos HT.out])
             clear hx
             go_wp2_with fail
             go_region
             go_wp2
             go_ret
             exact ⟨rfl, HB.out.drew⟩
            ·have hx1 : (ks[k].name.toList == ks[i].name.toList) = false := qjq_ hx
             have HF := Lib.hid (HA.out.succ (by rw [HKM.out]; exact hkl) (by rw [HKN.out]; exact hx))
             clear hx
             go_wp2_with fail
             go_region
             go_wp2
             go_roundw
             case rel => exact ⟨k + 1, by omega, by go_num, HF.out, HB0.out.drew⟩
             case measure => simp [intOf]; omega
           ·have HIN : Hid ((ks.map Nd.name)[i]'(by rw [HKM.out]; exact hlt) = ks[i].name) := List.getElem_map _
            have hki : k = i := by omega
            have HNX : Hid (((ks.map Nd.name).take (i + 1)).Nodup) := qcp_ HN.out (by rw [HKM.out]; exact hlt) (by rw [HIN.out]; exact qb7_ (hki ▸ HA.out))
            clear hki
            go_wp2
            go_roundw
            case rel => exact ⟨i + 1, by omega, by go_num, HNX.out, HB0.out⟩
            case measure => simp [intOf]; omega
         ·have FTk : Hid (qb0_ (ks.map Nd.name) = false) := qdh_ HN.out (by rw [HKM.out]; exact hlt)
          have HB := Lib.hid (HB1.out.trans (HB0.out.mono (Nat.le_succ _)))
          go_wp2_with fail
          have HF : Hid (qde_ ks 2 = E) := by
           have h0 : E1 = 0 := by rw [<- HE1.out, if_neg (by have := F16.out; omega), if_neg (by simp), if_neg (by rw [FP.out]; simp), if_neg (by rw [FTp.out]; simp), if_neg (by rw [FTk.out]; simp)]
           have := HE.out
           rwa [if_pos h0] at this
          go_loopw [99] (fun i wr => ∃ k : Nat, k <= ks.length /\ i = .int .i64 k /\ Fine ks 2 k /\ Below (w.heap.size + 1) (w.alloc (.cells #[Value.string nm, .slice pa ps.length pc, .slice ka ks.length kc] 27)) wr) (fun i _ => ks.length - (intOf i).toNat)
          case atStart => exact ⟨0, Nat.zero_le _, rfl, Fine.zero _ _, HB0.out⟩
          case round =>
           clear bx0 bx1 bx2 HB0 HB
           obtain ⟨k, hk, rfl, hfine, hb⟩ := hrel
           have HA := Lib.hid hfine
           have HB0 := Lib.hid hb
           have HB := Lib.hid (HB1.out.trans (hb.mono (Nat.le_succ _)))
           obtain ⟨bx0, bx1, bx2⟩ := BX.out _ hb
           clear hfine hb
           by_cases hlt : k < ks.length
           ·obtain ⟨b, o, e, hb, c0, c1, c2⟩ := (HI.out.under HB.out).kcell (i := k) hlt
            obtain rfl : ka = _ := e
            replace c0 : _ = some (Value.string ks[k].name) := c0
            replace c1 : _ = some (Value.slice ks[k].pa ks[k].props.length ks[k].pc) := c1
            replace c2 : _ = some (Value.slice ks[k].ka ks[k].kids.length ks[k].kc) := c2
            obtain ⟨F, hF⟩ : ∃ F, qbj_ ks[k] 2 = F := ⟨_, rfl⟩
            have C := Lib.hid (IH.out ks[k] (List.getElem_mem hlt) 2 _ (((HI.out.kid (List.getElem_mem hlt)).under HB.out).more HB.out.size) (by omega) (by omega) F hF)
            have HQ := Lib.hid hF
            clear hF
            go_wp2_with fail
            refine C.out.mono ?_
            rintro e w' ⟨rfl, hb'⟩
            have HB3 := Lib.hid (HB0.out.trans (hb'.mono (by have := HB0.out.size; simpa using this)))
            have HB4 := Lib.hid (HB.out.trans (hb'.mono HB.out.size))
            clear hb'
            by_cases hF0 : F = 0
            ·subst hF0
             go_wp2
             go_roundw
             case rel => exact ⟨k + 1, by omega, by go_num, HA.out.succ hlt HQ.out, HB3.out⟩
             case measure => simp [intOf]; omega
            ·have f1 : (F == 0) = false := by rw [beq_eq_false_iff_ne]; exact hF0
             have f2 : (F != 0) = true := by rw [bne, f1]; rfl
             obtain rfl : E = F := by rw [<- HF.out, qeh_ 2 ks k hlt HA.out (by rw [HQ.out]; exact hF0)]; exact HQ.out
             clear hF0
             go_wp2
             go_ret
             exact ⟨rfl, HB4.out⟩
           ·obtain rfl : E = 0 := by rw [<- HF.out]; exact qef_ 2 ks (fun j hj => HA.out j hj (by omega))
            go_wp2
            go_ret
            exact ⟨rfl, HB.out⟩
  ·have hd2 : (d == 1) = false := by rw [beq_eq_false_iff_ne]; exact hd
   have hd3 : 1 < d := by omega
   have CN := Lib.hid (fun w => qjr_ nm w hnz r1 (by rw [<- hr1, qgg_, if_neg hd]; rfl))
   clear hr1 hd
   cases r1
   ·obtain rfl : E = 5 := HV.out 5 (by omega) (by rw [<- HE1.out, if_neg (by have := F16.out; omega), if_pos rfl])
    go_enter Tryz.func12, Tryz.ntmps12
    go_wp2_with fail
    refine (CN.out _).mono ?_
    rintro e w' ⟨rfl, rfl⟩
    go_wp2
    go_ret
    exact ⟨rfl, HB1.out⟩
   ·go_enter Tryz.func12, Tryz.ntmps12
    go_wp2_with fail
    refine (CN.out _).mono ?_
    rintro e w' ⟨rfl, rfl⟩
    go_wp2_with fail
    go_loopw [34] (fun i wr => ∃ k : Nat, k <= ps.length /\ i = .int .i64 k /\ Good misP ps k /\ Below (w.heap.size + 1) (w.alloc (.cells #[Value.string nm, .slice pa ps.length pc, .slice ka ks.length kc] 27)) wr) (fun i _ => ps.length - (intOf i).toNat)
    case atStart => exact ⟨0, Nat.zero_le _, rfl, Good.zero _ _, Below.refl _ _⟩
    case round =>
     obtain ⟨k, hk, rfl, hgood, hb⟩ := hrel
     have HA := Lib.hid hgood
     have HB0 := Lib.hid hb
     have HB := Lib.hid (HB1.out.trans (hb.mono (Nat.le_succ _)))
     obtain ⟨bx0, bx1, bx2⟩ := BX.out _ hb
     clear hgood hb
     by_cases hlt : k < ps.length
     ·obtain ⟨b, o, e, hb, c0, c1⟩ := (HI.out.under HB.out).pcell (i := k) hlt
      obtain rfl : pa = _ := e
      replace c0 : _ = some (Value.string ps[k].name) := c0
      clear c1
      obtain ⟨q, hq⟩ : ∃ q, propB ps[k].name = q := ⟨_, rfl⟩
      have C := Lib.hid (qfu_ ps[k].name wr (HI.out.prop (List.getElem_mem hlt)).1.1 q hq)
      have HQ : Hid (misP ps[k] = !q) := by show misP _ = _; rw [misP, hq]
      clear hq
      cases q
      ·obtain rfl : E = 5 := HV.out 5 (by omega) (by rw [<- HE1.out, if_neg (by have := F16.out; omega), if_neg (by simp), if_pos (qoa_ hlt HQ.out)])
       go_wp2_with fail
       refine C.out.mono ?_
       rintro e w' ⟨rfl, rfl⟩
       go_wp2
       go_ret
       exact ⟨rfl, HB.out⟩
      ·go_wp2_with fail
       refine C.out.mono ?_
       rintro e w' ⟨rfl, rfl⟩
       go_wp2
       go_roundw
       case rel => exact ⟨k + 1, by omega, by go_num, HA.out.succ hlt HQ.out, HB0.out⟩
       case measure => simp [intOf]; omega
     ·have FP : Hid (ps.any misP = false) := HA.out.all hlt
      go_wp2_with fail
      go_loopw [49] (fun i wr => ∃ k : Nat, k <= ps.length /\ i = .int .i64 k /\ ((ps.map PV.name).take k).Nodup /\ Below (w.heap.size + 1) (w.alloc (.cells #[Value.string nm, .slice pa ps.length pc, .slice ka ks.length kc] 27)) wr) (fun i _ => ps.length - (intOf i).toNat)
      case atStart => exact ⟨0, Nat.zero_le _, rfl, qcr_ _, HB0.out⟩
      case round =>
       clear bx0 bx1 bx2 HB0
       obtain ⟨i, hi, rfl, hnd, hb⟩ := hrel
       have HN := Lib.hid hnd
       have HB0 := Lib.hid hb
       obtain ⟨bx0, bx1, bx2⟩ := BX.out _ hb
       clear hnd hb
       by_cases hlt : i < ps.length
       ·go_wp2_with fail
        go_loopw [53] (fun j wr => ∃ k : Nat, k <= i /\ j = .int .i64 k /\ Missed (ps.map PV.name) ps[i].name k /\ Below (w.heap.size + 1) (w.alloc (.cells #[Value.string nm, .slice pa ps.length pc, .slice ka ks.length kc] 27)) wr) (fun j _ => i - (intOf j).toNat)
        case atStart => exact ⟨0, Nat.zero_le _, rfl, Missed.zero _ _, HB0.out⟩
        case round =>
         clear bx0 bx1 bx2 HB0
         obtain ⟨k, hk, rfl, hmiss, hb⟩ := hrel
         have HA := Lib.hid hmiss
         have HB0 := Lib.hid hb
         have HB := Lib.hid (HB1.out.trans (hb.mono (Nat.le_succ _)))
         obtain ⟨bx0, bx1, bx2⟩ := BX.out _ hb
         clear hmiss hb
         by_cases hlt' : k < i
         ·have hkl : k < ps.length := by omega
          have HKN : Hid ((ps.map PV.name)[k]'(by rw [HPM.out]; exact hkl) = ps[k].name) := List.getElem_map _
          have HIN : Hid ((ps.map PV.name)[i]'(by rw [HPM.out]; exact hlt) = ps[i].name) := List.getElem_map _
          obtain ⟨b, o, e, hb, c0, cc⟩ := (HI.out.under HB.out).pcell (i := k) hkl
          obtain ⟨b', o', e', hb', d0, dd⟩ := (HI.out.under HB.out).pcell (i := i) hlt
          replace e : pa = _ := e
          replace e' : pa = _ := e'
          obtain ⟨rfl, rfl⟩ : b' = b /\ o' = o := by have := e'.symm.trans e; simpa using this
          subst e
          replace c0 : _ = some (Value.string ps[k].name) := c0
          replace d0 : _ = some (Value.string ps[i].name) := d0
          clear cc dd e'
          by_cases hx : ps[k].name = ps[i].name
          ·have hx1 : (ps[k].name.toList == ps[i].name.toList) = true := by rw [hx]; simp
           have HT : Hid (qb0_ (ps.map PV.name) = true) := qdm_ (k := i) (by rw [HPM.out]; exact hlt) (by rw [HIN.out, <- hx, <- HKN.out]; exact qdk_ (by rw [HPM.out]; exact hkl) hlt')
           obtain rfl : E = 9 := HV.out 9 (by omega) (by rw [<- HE1.out, if_neg (by have := F16.out; omega), if_neg (by simp), if_neg (by rw [FP.out]; simp), if_pos HT.out])
           clear hx
           go_wp2_with fail
           go_region
           go_wp2
           go_ret
           exact ⟨rfl, HB.out.drew⟩
          ·have hx1 : (ps[k].name.toList == ps[i].name.toList) = false := qjq_ hx
           have HF := Lib.hid (HA.out.succ (by rw [HPM.out]; exact hkl) (by rw [HKN.out]; exact hx))
           clear hx
           go_wp2_with fail
           go_region
           go_wp2
           go_roundw
           case rel => exact ⟨k + 1, by omega, by go_num, HF.out, HB0.out.drew⟩
           case measure => simp [intOf]; omega
         ·have HIN : Hid ((ps.map PV.name)[i]'(by rw [HPM.out]; exact hlt) = ps[i].name) := List.getElem_map _
          have hki : k = i := by omega
          have HNX : Hid (((ps.map PV.name).take (i + 1)).Nodup) := qcp_ HN.out (by rw [HPM.out]; exact hlt) (by rw [HIN.out]; exact qb7_ (hki ▸ HA.out))
          clear hki
          go_wp2
          go_roundw
          case rel => exact ⟨i + 1, by omega, by go_num, HNX.out, HB0.out⟩
          case measure => simp [intOf]; omega
       ·have FTp : Hid (qb0_ (ps.map PV.name) = false) := qdh_ HN.out (by rw [HPM.out]; exact hlt)
        have HB := Lib.hid (HB1.out.trans (HB0.out.mono (Nat.le_succ _)))
        go_wp2_with fail
        go_loopw [74] (fun i wr => ∃ k : Nat, k <= ks.length /\ i = .int .i64 k /\ ((ks.map Nd.name).take k).Nodup /\ Below (w.heap.size + 1) (w.alloc (.cells #[Value.string nm, .slice pa ps.length pc, .slice ka ks.length kc] 27)) wr) (fun i _ => ks.length - (intOf i).toNat)
        case atStart => exact ⟨0, Nat.zero_le _, rfl, qcr_ _, HB0.out⟩
        case round =>
         clear bx0 bx1 bx2 HB0
         obtain ⟨i, hi, rfl, hnd, hb⟩ := hrel
         have HN := Lib.hid hnd
         have HB0 := Lib.hid hb
         obtain ⟨bx0, bx1, bx2⟩ := BX.out _ hb
         clear hnd hb
         by_cases hlt : i < ks.length
         ·go_wp2_with fail
          go_loopw [78] (fun j wr => ∃ k : Nat, k <= i /\ j = .int .i64 k /\ Missed (ks.map Nd.name) ks[i].name k /\ Below (w.heap.size + 1) (w.alloc (.cells #[Value.string nm, .slice pa ps.length pc, .slice ka ks.length kc] 27)) wr) (fun j _ => i - (intOf j).toNat)
          case atStart => exact ⟨0, Nat.zero_le _, rfl, Missed.zero _ _, HB0.out⟩
          case round =>
           clear bx0 bx1 bx2 HB0
           obtain ⟨k, hk, rfl, hmiss, hb⟩ := hrel
           have HA := Lib.hid hmiss
           have HB0 := Lib.hid hb
           have HB := Lib.hid (HB1.out.trans (hb.mono (Nat.le_succ _)))
           obtain ⟨bx0, bx1, bx2⟩ := BX.out _ hb
           clear hmiss hb
           by_cases hlt' : k < i
           ·have hkl : k < ks.length := by omega
            have HKN : Hid ((ks.map Nd.name)[k]'(by rw [HKM.out]; exact hkl) = ks[k].name) := List.getElem_map _
            have HIN : Hid ((ks.map Nd.name)[i]'(by rw [HKM.out]; exact hlt) = ks[i].name) := List.getElem_map _
            obtain ⟨b, o, e, hb, c0, cc⟩ := (HI.out.under HB.out).kcell (i := k) hkl
            obtain ⟨b', o', e', hb', d0, dd⟩ := (HI.out.under HB.out).kcell (i := i) hlt
            replace e : ka = _ := e
            replace e' : ka = _ := e'
            obtain ⟨rfl, rfl⟩ : b' = b /\ o' = o := by have := e'.symm.trans e; simpa using this
            subst e
            replace c0 : _ = some (Value.string ks[k].name) := c0
            replace d0 : _ = some (Value.string ks[i].name) := d0
            clear cc dd e'
            by_cases hx : ks[k].name = ks[i].name
            ·have hx1 : (ks[k].name.toList == ks[i].name.toList) = true := by rw [hx]; simp
             have HT : Hid (qb0_ (ks.map Nd.name) = true) := qdm_ (k := i) (by rw [HKM.out]; exact hlt) (by rw [HIN.out, <- hx, <- HKN.out]; exact qdk_ (by rw [HKM.out]; exact hkl) hlt')
             obtain rfl : E = 9 := HV.out 9 (by omega) (by rw [<- HE1.out, if_neg (by have := F16.out; omega), if_neg (by simp), if_neg (by rw [FP.out]; simp), if_neg (by rw [FTp.out]; simp), if_pos HT.out])
             clear hx
             go_wp2_with fail
             go_region
             go_wp2
             go_ret
             exact ⟨rfl, HB.out.drew⟩
            ·have hx1 : (ks[k].name.toList == ks[i].name.toList) = false := qjq_ hx
             have HF := Lib.hid (HA.out.succ (by rw [HKM.out]; exact hkl) (by rw [HKN.out]; exact hx))
             clear hx
             go_wp2_with fail
             go_region
             go_wp2
             go_roundw
             case rel => exact ⟨k + 1, by omega, by go_num, HF.out, HB0.out.drew⟩
             case measure => simp [intOf]; omega
           ·have HIN : Hid ((ks.map Nd.name)[i]'(by rw [HKM.out]; exact hlt) = ks[i].name) := List.getElem_map _
            have hki : k = i := by omega
            have HNX : Hid (((ks.map Nd.name).take (i + 1)).Nodup) := qcp_ HN.out (by rw [HKM.out]; exact hlt) (by rw [HIN.out]; exact qb7_ (hki ▸ HA.out))
            clear hki
            go_wp2
            go_roundw
            case rel => exact ⟨i + 1, by omega, by go_num, HNX.out, HB0.out⟩
            case measure => simp [intOf]; omega
         ·have FTk : Hid (qb0_ (ks.map Nd.name) = false) := qdh_ HN.out (by rw [HKM.out]; exact hlt)
          have HB := Lib.hid (HB1.out.trans (HB0.out.mono (Nat.le_succ _)))
          go_wp2_with fail
          have HF : Hid (qde_ ks (d + 1) = E) := by
           have h0 : E1 = 0 := by rw [<- HE1.out, if_neg (by have := F16.out; omega), if_neg (by simp), if_neg (by rw [FP.out]; simp), if_neg (by rw [FTp.out]; simp), if_neg (by rw [FTk.out]; simp)]
           have := HE.out
           rwa [if_pos h0] at this
          go_loopw [99] (fun i wr => ∃ k : Nat, k <= ks.length /\ i = .int .i64 k /\ Fine ks (d + 1) k /\ Below (w.heap.size + 1) (w.alloc (.cells #[Value.string nm, .slice pa ps.length pc, .slice ka ks.length kc] 27)) wr) (fun i _ => ks.length - (intOf i).toNat)
          case atStart => exact ⟨0, Nat.zero_le _, rfl, Fine.zero _ _, HB0.out⟩
          case round =>
           clear bx0 bx1 bx2 HB0 HB
           obtain ⟨k, hk, rfl, hfine, hb⟩ := hrel
           have HA := Lib.hid hfine
           have HB0 := Lib.hid hb
           have HB := Lib.hid (HB1.out.trans (hb.mono (Nat.le_succ _)))
           obtain ⟨bx0, bx1, bx2⟩ := BX.out _ hb
           clear hfine hb
           by_cases hlt : k < ks.length
           ·obtain ⟨b, o, e, hb, c0, c1, c2⟩ := (HI.out.under HB.out).kcell (i := k) hlt
            obtain rfl : ka = _ := e
            replace c0 : _ = some (Value.string ks[k].name) := c0
            replace c1 : _ = some (Value.slice ks[k].pa ks[k].props.length ks[k].pc) := c1
            replace c2 : _ = some (Value.slice ks[k].ka ks[k].kids.length ks[k].kc) := c2
            obtain ⟨F, hF⟩ : ∃ F, qbj_ ks[k] (d + 1) = F := ⟨_, rfl⟩
            have C := Lib.hid (IH.out ks[k] (List.getElem_mem hlt) (d + 1) _ (((HI.out.kid (List.getElem_mem hlt)).under HB.out).more HB.out.size) (by omega) (by omega) F hF)
            have HQ := Lib.hid hF
            clear hF
            go_wp2_with fail
            refine C.out.mono ?_
            rintro e w' ⟨rfl, hb'⟩
            have HB3 := Lib.hid (HB0.out.trans (hb'.mono (by have := HB0.out.size; simpa using this)))
            have HB4 := Lib.hid (HB.out.trans (hb'.mono HB.out.size))
            clear hb'
            by_cases hF0 : F = 0
            ·subst hF0
             go_wp2
             go_roundw
             case rel => exact ⟨k + 1, by omega, by go_num, HA.out.succ hlt HQ.out, HB3.out⟩
             case measure => simp [intOf]; omega
            ·have f1 : (F == 0) = false := by rw [beq_eq_false_iff_ne]; exact hF0
             have f2 : (F != 0) = true := by rw [bne, f1]; rfl
             obtain rfl : E = F := by rw [<- HF.out, qeh_ (d + 1) ks k hlt HA.out (by rw [HQ.out]; exact hF0)]; exact HQ.out
             clear hF0
             go_wp2
             go_ret
             exact ⟨rfl, HB4.out⟩
           ·obtain rfl : E = 0 := by rw [<- HF.out]; exact qef_ (d + 1) ks (fun j hj => HA.out j hj (by omega))
            go_wp2
            go_ret
            exact ⟨rfl, HB.out⟩
section
open Go.RowKit Go.ChangeShapes Go.WideShapes Go.Deep
structure Tr where
 boot : Int
 ra : Option Addr
 rc : Nat
 rs : List (Int × Int)
 root : Nd
def Tr.rv (t : Tr) : Value := .slice t.ra t.rs.length t.rc
def Tr.val (t : Tr) : Value := .agg #[.int .u32 t.boot, t.rv, .string t.root.name, t.root.pv, t.root.kv]
def RRow (w : World) (B : Nat) (a : Option Addr) (l : List (Int × Int)) : Prop :=
 0 < l.length -> ∃ b o, a = some ⟨b, o, none⟩ /\ b < B /\ ∀ i (h : i < l.length), w.cell? ⟨b, o + i * 2, none⟩ = some (.int .u64 l[i].1) /\ w.cell? ⟨b, o + i * 2 + 1, none⟩ = some (.int .u64 l[i].2)
structure Tr.In (w : World) (B : Nat) (t : Tr) : Prop where
 boot : 0 <= t.boot /\ t.boot <= 4294967295
 len : t.rs.length <= t.rc /\ t.rc <= 9223372036854775807 /\ t.rs.length * 16 <= 140737488351232
 row : RRow w B t.ra t.rs
 nums : ∀ r ∈ t.rs, (0 <= r.1 /\ r.1 <= 18446744073709551615) /\ (0 <= r.2 /\ r.2 <= 18446744073709551615)
 root : t.root.In w B
section
variable {w w' : World} {B B' : Nat}
theorem RRow.keep {a : Option Addr} {l : List (Int × Int)} (h : RRow w B a l) (hk : ∀ a : Addr, a.block < B -> w'.cell? a = w.cell? a) : RRow w' B a l := fun h0 => by
 obtain ⟨b, o, e, hb, hc⟩ := h h0
 exact ⟨b, o, e, hb, fun i hi => ⟨(hk _ hb).trans (hc i hi).1, (hk _ hb).trans (hc i hi).2⟩⟩
theorem RRow.more {a : Option Addr} {l : List (Int × Int)} (h : RRow w B a l) (hB : B <= B') : RRow w B' a l := fun h0 => by
 obtain ⟨b, o, e, hb, hc⟩ := h h0
 exact ⟨b, o, e, by omega, hc⟩
theorem Tr.In.under {t : Tr} (h : t.In w B) (hb : Below B w w') : t.In w' B := ⟨h.boot, h.len, h.row.keep (fun _ hp => hb.cell hp), h.nums, h.root.under hb⟩
theorem Tr.In.more {t : Tr} (h : t.In w B) (hB : B <= B') : t.In w B' := ⟨h.boot, h.len, h.row.more hB, h.nums, h.root.more hB⟩
theorem Tr.In.on {t : Tr} (h : t.In w w.heap.size) (hb : Below w.heap.size w w') : t.In w' w'.heap.size := (h.under hb).more hb.size
theorem Tr.In.rcell {t : Tr} (h : t.In w B) {i : Nat} (hi : i < t.rs.length) : ∃ b o, t.ra = some ⟨b, o, none⟩ /\ b < B /\ w.cell? ⟨b, o + i * 2, none⟩ = some (.int .u64 t.rs[i].1) /\ w.cell? ⟨b, o + i * 2 + 1, none⟩ = some (.int .u64 t.rs[i].2) := by
 obtain ⟨b, o, e, hb, hc⟩ := h.row (by omega)
 exact ⟨b, o, e, hb, hc i hi⟩
end
theorem Tryz.cellsRes : Tryz.prog.cellsOf 51 = 2 := by kernel_rfl
theorem Tryz.cellsRess : Tryz.prog.cellsOf 23 = 1 := by kernel_rfl
theorem Tryz.cellsU64 : Tryz.prog.cellsOf 49 = 1 := by kernel_rfl
theorem Tryz.cellsU32 : Tryz.prog.cellsOf 22 = 1 := by kernel_rfl
theorem Tryz.cellsTree : Tryz.prog.cellsOf 29 = 5 := by kernel_rfl
theorem Tryz.bytesRes : Tryz.prog.bytesOf 51 = 16 := by kernel_rfl
section
variable {H : Type} {enc : TypeId × Value -> H} {w : World} {base : Nat} {spare : Nat -> Bool} {held : Bool}
theorem open_res {fuel : Nat} {cs : List Value} {x : DataW H × List MemPlace} (h : DataW.trod enc Tryz.prog w base spare held fuel 51 cs = some x) :
  ∃ r : Int × Int, cs = [.int .u64 r.1, .int .u64 r.2] /\ (0 <= r.1 /\ r.1 <= 18446744073709551615) /\ (0 <= r.2 /\ r.2 <= 18446744073709551615) := by
 obtain ⟨y0, y1, n, rfl, hl, h0, h1⟩ := trod_struct2 Tryz.underlying51 h
 rw [Tryz.cellsRes] at hl
 obtain ⟨c0, c1, rfl⟩ : ∃ c0 c1, cs = [c0, c1] := by
  exact two_of hl
 rw [Tryz.cellsU64] at h0 h1
 obtain ⟨a, e0, _, w0⟩ := DataW.trod_int Tryz.underlying49 h0
 obtain ⟨c, e1, _, w1⟩ := DataW.trod_int Tryz.underlying49 h1
 simp only [List.drop_succ_cons, List.drop_zero, List.take_succ_cons, List.take_zero, List.cons.injEq, and_true] at e0 e1
 subst e0 e1
 exact ⟨(a, c), rfl, bounds_u64 w0, bounds_u64 w1⟩
end
def zeroR (r : Int × Int) : Bool := decide (r.1 = 0) && decide (r.2 = 0)
theorem qmt_ (t : Tr) (w : World) (hin : t.In w w.heap.size) (r : Bool) (hr : t.rs.any zeroR = r) :
  Calls Tryz.prog 100 #[t.rv, .agg #[.int .u64 0, .int .u64 0]] w fun e w' => (∃ i : Int, e = .returned (.int .i64 i) /\ decide (0 <= i) = r) /\ Below w.heap.size w w' := by
 obtain ⟨boot, ra, rc, rs, root⟩ := t
 have HI := Lib.hid hin
 have HR := Lib.hid (show rs.any zeroR = r from hr)
 obtain ⟨hl, hm, _⟩ : rs.length <= rc /\ rc <= 9223372036854775807 /\ _ := hin.len
 clear hin hr
 show Calls _ _ #[.slice ra rs.length rc, _] _ _
 go_enter Tryz.func100, Tryz.ntmps100
 go_wp2_with fail
 go_loopw [8] (fun i wr => ∃ k : Nat, k <= rs.length /\ i = .int .i64 k /\ Good zeroR rs k /\ Below (w.heap.size + 1) (w.alloc (.cells #[.int .u64 0, .int .u64 0] 51)) wr) (fun i _ => rs.length - (intOf i).toNat)
 case atStart => exact ⟨0, Nat.zero_le _, rfl, Good.zero _ _, Below.refl _ _⟩
 case round =>
  obtain ⟨k, hk, rfl, hgood, hb⟩ := hrel
  have HA := Lib.hid hgood
  have HB0 := Lib.hid hb
  have HB := Lib.hid (((Below.refl w.heap.size w).alloc (Nat.le_refl _) _).trans (hb.mono (Nat.le_succ _)))
  have b0 : wr.cell? ⟨w.heap.size, 0, none⟩ = some (.int .u64 0) := (hb.cell (Nat.lt_succ_self _)).trans (World.cell?_alloc_new _ _ _ _)
  have b1 : wr.cell? ⟨w.heap.size, 1, none⟩ = some (.int .u64 0) := (hb.cell (Nat.lt_succ_self _)).trans (World.cell?_alloc_new _ _ _ _)
  clear hgood hb
  by_cases hlt : k < rs.length
  ·obtain ⟨b, o, e, hb, c0, c1⟩ := (HI.out.under HB.out).rcell (i := k) hlt
   obtain rfl : ra = _ := e
   replace c0 : _ = some (Value.int .u64 rs[k].1) := c0
   replace c1 : _ = some (Value.int .u64 rs[k].2) := c1
   obtain ⟨x, hx⟩ : ∃ x, x = rs[k].1 := ⟨_, rfl⟩
   obtain ⟨y, hy⟩ : ∃ y, y = rs[k].2 := ⟨_, rfl⟩
   have HZ : Hid (zeroR rs[k] = (decide (x = 0) && decide (y = 0))) := by show zeroR _ = _; rw [hx, hy]; rfl
   rw [<- hx] at c0
   rw [<- hy] at c1
   clear hx hy
   by_cases hx0 : x = 0
   ·subst hx0
    by_cases hy0 : y = 0
    ·subst hy0
     obtain rfl : r = true := by rw [<- HR.out]; exact qoa_ hlt HZ.out
     go_wp2_with fail
     go_region
     go_wp2
     go_ret
     exact ⟨⟨k, rfl, by simp⟩, HB.out.drew⟩
    ·have HF : Hid (zeroR rs[k] = false) := by have := HZ.out; rw [decide_eq_false hy0] at this; exact this
     have hy1 : ¬ (0 = y) := fun h => hy0 h.symm
     clear hy0
     go_wp2_with fail
     go_region
     go_wp2
     go_roundw
     case rel => exact ⟨k + 1, by omega, by go_num, HA.out.succ hlt HF.out, HB0.out.drew⟩
     case measure => simp [intOf]; omega
   ·have HF : Hid (zeroR rs[k] = false) := by have := HZ.out; rw [decide_eq_false hx0] at this; exact this
    have hx1 : ¬ (0 = x) := fun h => hx0 h.symm
    clear hx0
    go_wp2_with fail
    go_region
    go_wp2
    go_roundw
    case rel => exact ⟨k + 1, by omega, by go_num, HA.out.succ hlt HF.out, HB0.out.drew⟩
    case measure => simp [intOf]; omega
  ·obtain rfl : r = false := by rw [<- HR.out]; exact HA.out.all hlt
   go_wp2
   go_ret
   exact ⟨⟨-1, rfl, by simp⟩, HB.out⟩
theorem qgl_ (t : Tr) (w : World) (hin : t.In w w.heap.size) (r : Bool) (hr : t.rs.any zeroR = r) :
  Calls Tryz.prog 63 #[t.rv, .agg #[.int .u64 0, .int .u64 0]] w fun e w' => e = .returned (.bool r) /\ Below w.heap.size w w' := by
 have HB := Lib.hid ((Below.refl w.heap.size w).alloc (Nat.le_refl _) (.cells #[.int .u64 0, .int .u64 0] 51))
 have C := Lib.hid (fun w h => qmt_ t w h r hr)
 have HI := Lib.hid hin
 clear hin hr
 obtain ⟨boot, ra, rc, rs, root⟩ := t
 show Calls _ _ #[.slice ra rs.length rc, _] _ _
 go_enter Tryz.func63, Tryz.ntmps63
 go_wp2_with fail
 refine (C.out _ (HI.out.on HB.out)).mono ?_
 rintro e w' ⟨⟨i, rfl, hi⟩, hb⟩
 have HB2 := Lib.hid (HB.out.trans (hb.mono HB.out.size))
 have HV := Lib.hid hi
 clear hb hi
 go_wp2
 go_ret
 exact ⟨congrArg (fun b => Ending.returned (.bool b)) HV.out, HB2.out⟩
def manyE (t : Tr) : Int := if 4096 < wrap64 (qih_ t.root) \/ 8192 < wrap64 (qi8_ t.root) \/ 64 < t.rs.length then 7 else if t.rs.any zeroR = true then 7 else 0
theorem many_any (t : Tr) (w : World) (hin : t.In w w.heap.size) (E : Int) (hE : manyE t = E) :
  Calls Tryz.prog 38 #[t.val] w fun e w' => e = .returned (.int .i64 E) /\ Below w.heap.size w w' := by
 obtain ⟨a, ha⟩ : ∃ a, a = wrap64 (qih_ t.root) := ⟨_, rfl⟩
 obtain ⟨c, hc⟩ : ∃ c, c = wrap64 (qi8_ t.root) := ⟨_, rfl⟩
 obtain ⟨r, hr⟩ : ∃ r, t.rs.any zeroR = r := ⟨_, rfl⟩
 have HE : Hid ((if 4096 < a \/ 8192 < c \/ 64 < t.rs.length then 7 else if r = true then 7 else 0) = E) := by rw [ha, hc, <- hr]; exact hE
 have C1 := Lib.hid (fun w h => (count_any t.root w h).mono fun e w' (h : qg5_ e t.root /\ _) => show e = .returned (.tuple #[.int .i64 a, .int .i64 c]) /\ Below w.heap.size w w' from ⟨by rw [ha, hc]; exact h.1, h.2⟩)
 have C2 := Lib.hid (fun w h => qgl_ t w h r hr)
 have HI := Lib.hid hin
 clear hE ha hc hr hin
 obtain ⟨boot, ra, rc, rs, root⟩ := t
 replace HE : Hid ((if 4096 < a \/ 8192 < c \/ 64 < rs.length then 7 else if r = true then 7 else 0) = E) := HE
 obtain ⟨nm, pa, pc, ps, ka, kc, ks⟩ := root
 show Calls _ _ #[.agg #[.int .u32 boot, .slice ra rs.length rc, .string nm, .slice pa ps.length pc, .slice ka ks.length kc]] _ _
 have HB := Lib.hid ((Below.refl w.heap.size w).alloc (Nat.le_refl _) (.cells #[.int .u32 boot, .slice ra rs.length rc, .string nm, .slice pa ps.length pc, .slice ka ks.length kc] 29))
 go_enter Tryz.func38, Tryz.ntmps38
 go_wp2_with fail
 refine (C1.out _ ((HI.out.on HB.out).root)).mono ?_
 rintro e w1 ⟨rfl, hb⟩
 have HB1 := Lib.hid (HB.out.trans (hb.mono HB.out.size))
 have b1 := (hb.cell (p := ⟨w.heap.size, 1, none⟩) (by simp)).trans (World.cell?_alloc_new _ _ _ _)
 replace b1 : _ = some (Value.slice ra rs.length rc) := b1
 clear hb
 by_cases h1 : 4096 < a
 ·obtain rfl : E = 7 := by rw [<- HE.out, if_pos (.inl h1)]
  go_wp2
  go_ret
  exact ⟨rfl, HB1.out⟩
 ·by_cases h2 : 8192 < c
  ·obtain rfl : E = 7 := by rw [<- HE.out, if_pos (.inr (.inl h2))]
   go_wp2
   go_ret
   exact ⟨rfl, HB1.out⟩
  ·by_cases h3 : 64 < (rs.length : Int)
   ·obtain rfl : E = 7 := by rw [<- HE.out, if_pos (.inr (.inr (by omega)))]
    go_wp2
    go_ret
    exact ⟨rfl, HB1.out⟩
   ·have HF : Hid ((if r = true then 7 else 0) = E) := by have := HE.out; rwa [if_neg (by omega)] at this
    go_wp2_with fail
    refine (C2.out _ (HI.out.on HB1.out)).mono ?_
    rintro e w2 ⟨rfl, hb⟩
    have HB2 := Lib.hid (HB1.out.trans (hb.mono HB1.out.size))
    clear hb
    cases r
    ·obtain rfl : E = 0 := HF.out.symm
     go_wp2
     go_ret
     exact ⟨rfl, HB2.out⟩
    ·obtain rfl : E = 7 := HF.out.symm
     go_wp2
     go_ret
     exact ⟨rfl, HB2.out⟩
end
section
attribute [local go_sem ↓] Go.wp_at_zero Go.wp_at_succ
noncomputable def qb5_ (t : Tr) : Int := if qbj_ t.root 1 = 0 then manyE t else qbj_ t.root 1
theorem qli_ (t : Tr) (w : World) (hin : t.In w w.heap.size) (E : Int) (hE : qb5_ t = E) :
  Calls Tryz.prog 20 #[t.val] w fun e w' => e = .returned (.int .i64 E) /\ Below w.heap.size w w' := by
 obtain ⟨F, hF⟩ : ∃ F, qbj_ t.root 1 = F := ⟨_, rfl⟩
 obtain ⟨M, hM⟩ : ∃ M, manyE t = M := ⟨_, rfl⟩
 have HE : Hid ((if F = 0 then M else F) = E) := by rw [<- hF, <- hM]; exact hE
 have C1 := Lib.hid (fun w h => qir_ t.root 1 w h (by omega) (by omega) F hF)
 have C2 := Lib.hid (fun w h => many_any t w h M hM)
 have HI := Lib.hid hin
 clear hE hF hM hin
 obtain ⟨boot, ra, rc, rs, ⟨nm, pa, pc, ps, ka, kc, ks⟩⟩ := t
 show Calls _ _ #[.agg #[.int .u32 boot, .slice ra rs.length rc, .string nm, .slice pa ps.length pc, .slice ka ks.length kc]] _ _
 have HB := Lib.hid ((Below.refl w.heap.size w).alloc (Nat.le_refl _) (.cells #[.int .u32 boot, .slice ra rs.length rc, .string nm, .slice pa ps.length pc, .slice ka ks.length kc] 29))
 go_enter Tryz.func20, Tryz.ntmps20
 go_wp2_with fail
 refine (C1.out _ ((HI.out.on HB.out).root)).mono ?_
 rintro e w1 ⟨rfl, hb⟩
 have HB1 := Lib.hid (HB.out.trans (hb.mono HB.out.size))
 have b0 := (hb.cell (p := ⟨w.heap.size, 0, none⟩) (by simp)).trans (World.cell?_alloc_new _ _ _ _)
 have b1 := (hb.cell (p := ⟨w.heap.size, 1, none⟩) (by simp)).trans (World.cell?_alloc_new _ _ _ _)
 have b2 := (hb.cell (p := ⟨w.heap.size, 2, none⟩) (by simp)).trans (World.cell?_alloc_new _ _ _ _)
 have b3 := (hb.cell (p := ⟨w.heap.size, 3, none⟩) (by simp)).trans (World.cell?_alloc_new _ _ _ _)
 have b4 := (hb.cell (p := ⟨w.heap.size, 4, none⟩) (by simp)).trans (World.cell?_alloc_new _ _ _ _)
 replace b0 : _ = some (Value.int .u32 boot) := b0
 replace b1 : _ = some (Value.slice ra rs.length rc) := b1
 replace b2 : _ = some (Value.string nm) := b2
 replace b3 : _ = some (Value.slice pa ps.length pc) := b3
 replace b4 : _ = some (Value.slice ka ks.length kc) := b4
 clear hb
 by_cases h0 : F = 0
 ·obtain rfl : E = M := by rw [<- HE.out, if_pos h0]
  subst h0
  go_wp2_with fail
  refine (C2.out _ (HI.out.on HB1.out)).mono ?_
  rintro e w2 ⟨rfl, hb⟩
  have HB2 := Lib.hid (HB1.out.trans (hb.mono HB1.out.size))
  clear hb
  go_wp2
  go_ret
  exact ⟨rfl, HB2.out⟩
 ·have f1 : (F == 0) = false := by rw [beq_eq_false_iff_ne]; exact h0
  have f2 : (F != 0) = true := by rw [bne, f1]; rfl
  obtain rfl : E = F := by rw [<- HE.out, if_neg h0]
  clear h0
  go_wp2
  go_ret
  exact ⟨rfl, HB1.out⟩
theorem qkg_ (t : Tr) (w : World) (hin : t.In w w.heap.size) (E : Int) (hE : qb5_ t = E) :
  Calls Tryz.prog 6 #[t.val] w fun e w' => e = .returned (.int .i64 E) /\ Below w.heap.size w w' := by
 obtain ⟨F, hF⟩ : ∃ F, qbj_ t.root 1 = F := ⟨_, rfl⟩
 obtain ⟨a, ha⟩ : ∃ a, a = wrap64 (qih_ t.root) := ⟨_, rfl⟩
 obtain ⟨c, hc⟩ : ∃ c, c = wrap64 (qi8_ t.root) := ⟨_, rfl⟩
 have HE : Hid ((if F = 0 then (if 4096 < a \/ 8192 < c \/ 64 < t.rs.length then 7 else if t.rs.any zeroR = true then 7 else 0) else F) = E) := by rw [<- hF, ha, hc]; exact hE
 have C1 := Lib.hid (fun w h => wrong_any t.root 1 w h (by omega) (by omega) F hF)
 have C2 := Lib.hid (fun w h => (qjx_ t.root w h).mono fun e w' (h : qg5_ e t.root /\ _) => show e = .returned (.tuple #[.int .i64 a, .int .i64 c]) /\ Below w.heap.size w w' from ⟨by rw [ha, hc]; exact h.1, h.2⟩)
 have HI := Lib.hid hin
 obtain ⟨hl, hm, _⟩ := hin.len
 clear hE hF ha hc hin
 obtain ⟨boot, ra, rc, rs, ⟨nm, pa, pc, ps, ka, kc, ks⟩⟩ := t
 replace hl : rs.length <= rc := hl
 replace hm : rc <= 9223372036854775807 := hm
 replace HE : Hid ((if F = 0 then (if 4096 < a \/ 8192 < c \/ 64 < rs.length then 7 else if rs.any zeroR = true then 7 else 0) else F) = E) := HE
 show Calls _ _ #[.agg #[.int .u32 boot, .slice ra rs.length rc, .string nm, .slice pa ps.length pc, .slice ka ks.length kc]] _ _
 have HB := Lib.hid ((Below.refl w.heap.size w).alloc (Nat.le_refl _) (.cells #[.int .u32 boot, .slice ra rs.length rc, .string nm, .slice pa ps.length pc, .slice ka ks.length kc] 29))
 have BX : Hid (∀ W : World, Below (w.heap.size + 1) (w.alloc (.cells #[.int .u32 boot, .slice ra rs.length rc, .string nm, .slice pa ps.length pc, .slice ka ks.length kc] 29)) W -> W.cell? ⟨w.heap.size, 1, none⟩ = some (.slice ra rs.length rc) /\ W.cell? ⟨w.heap.size, 2, none⟩ = some (.string nm) /\ W.cell? ⟨w.heap.size, 3, none⟩ = some (.slice pa ps.length pc) /\ W.cell? ⟨w.heap.size, 4, none⟩ = some (.slice ka ks.length kc)) := fun W h =>
  ⟨(h.cell (Nat.lt_succ_self _)).trans (World.cell?_alloc_new _ _ _ _), (h.cell (Nat.lt_succ_self _)).trans (World.cell?_alloc_new _ _ _ _), (h.cell (Nat.lt_succ_self _)).trans (World.cell?_alloc_new _ _ _ _), (h.cell (Nat.lt_succ_self _)).trans (World.cell?_alloc_new _ _ _ _)⟩
 go_enter Tryz.func6, Tryz.ntmps6
 go_wp2_with fail
 refine (C1.out _ ((HI.out.on HB.out).root)).mono ?_
 rintro e w1 ⟨rfl, hb⟩
 have HB1 := Lib.hid (HB.out.trans (hb.mono HB.out.size))
 have HX1 := Lib.hid (hb.mono (B' := w.heap.size + 1) (by simp))
 obtain ⟨b1, b2, b3, b4⟩ := BX.out _ HX1.out
 clear hb
 by_cases h0 : F = 0
 ·have HE2 : Hid ((if 4096 < a \/ 8192 < c \/ 64 < rs.length then 7 else if rs.any zeroR = true then 7 else 0) = E) := by have := HE.out; rwa [if_pos h0] at this
  subst h0
  clear HE
  go_wp2_with fail
  refine (C2.out _ ((HI.out.on HB1.out).root)).mono ?_
  rintro e w2 ⟨rfl, hb⟩
  have HB2 := Lib.hid (HB1.out.trans (hb.mono HB1.out.size))
  have HX2 := Lib.hid (HX1.out.trans (hb.mono (by have := HX1.out.size; simpa using this)))
  clear hb b1 b2 b3 b4
  obtain ⟨b1, b2, b3, b4⟩ := BX.out _ HX2.out
  by_cases h1 : 4096 < a
  ·obtain rfl : E = 7 := by rw [<- HE2.out, if_pos (.inl h1)]
   go_wp2
   go_ret
   exact ⟨rfl, HB2.out⟩
  ·by_cases h2 : 8192 < c
   ·obtain rfl : E = 7 := by rw [<- HE2.out, if_pos (.inr (.inl h2))]
    go_wp2
    go_ret
    exact ⟨rfl, HB2.out⟩
   ·by_cases h3 : 64 < (rs.length : Int)
    ·obtain rfl : E = 7 := by rw [<- HE2.out, if_pos (.inr (.inr (by omega)))]
     go_wp2
     go_ret
     exact ⟨rfl, HB2.out⟩
    ·have HF : Hid ((if rs.any zeroR = true then 7 else 0) = E) := by have := HE2.out; rwa [if_neg (by omega)] at this
     go_wp2_with fail
     clear b1 b2 b3 b4
     go_loopw [34] (fun i wr => ∃ k : Nat, k <= rs.length /\ i = .int .i64 k /\ Good zeroR rs k /\ Below (w.heap.size + 1) (w.alloc (.cells #[.int .u32 boot, .slice ra rs.length rc, .string nm, .slice pa ps.length pc, .slice ka ks.length kc] 29)) wr) (fun i _ => rs.length - (intOf i).toNat)
     case atStart => exact ⟨0, Nat.zero_le _, rfl, Good.zero _ _, HX2.out⟩
     case round =>
      obtain ⟨k, hk, rfl, hgood, hb⟩ := hrel
      have HA := Lib.hid hgood
      have HB0 := Lib.hid hb
      have HB' := Lib.hid (HB.out.trans (hb.mono (Nat.le_succ _)))
      obtain ⟨b1, _, _, _⟩ := BX.out _ hb
      clear hgood hb
      by_cases hlt : k < rs.length
      ·obtain ⟨b, o, e, hb, c0, c1⟩ := (HI.out.under HB'.out).rcell (i := k) hlt
       obtain rfl : ra = _ := e
       replace c0 : _ = some (Value.int .u64 rs[k].1) := c0
       replace c1 : _ = some (Value.int .u64 rs[k].2) := c1
       obtain ⟨x, hx⟩ : ∃ x, x = rs[k].1 := ⟨_, rfl⟩
       obtain ⟨y, hy⟩ : ∃ y, y = rs[k].2 := ⟨_, rfl⟩
       have HZ : Hid (zeroR rs[k] = (decide (x = 0) && decide (y = 0))) := by show zeroR _ = _; rw [hx, hy]; rfl
       rw [<- hx] at c0
       rw [<- hy] at c1
       clear hx hy
       by_cases hx0 : x = 0
       ·subst hx0
        by_cases hy0 : y = 0
        ·subst hy0
         obtain rfl : E = 7 := by rw [<- HF.out, if_pos (qoa_ hlt HZ.out)]
         go_wp2
         go_ret
         exact ⟨rfl, HB'.out⟩
        ·have HG : Hid (zeroR rs[k] = false) := by have := HZ.out; rw [decide_eq_false hy0] at this; exact this
         have hy1 : (y == 0) = false := by rw [beq_eq_false_iff_ne]; exact hy0
         clear hy0
         go_wp2
         go_roundw
         case rel => exact ⟨k + 1, by omega, by go_num, HA.out.succ hlt HG.out, HB0.out⟩
         case measure => simp [intOf]; omega
       ·have HG : Hid (zeroR rs[k] = false) := by have := HZ.out; rw [decide_eq_false hx0] at this; exact this
        have hx1 : (x == 0) = false := by rw [beq_eq_false_iff_ne]; exact hx0
        clear hx0
        go_wp2
        go_roundw
        case rel => exact ⟨k + 1, by omega, by go_num, HA.out.succ hlt HG.out, HB0.out⟩
        case measure => simp [intOf]; omega
      ·obtain rfl : E = 0 := by rw [<- HF.out, HA.out.all hlt]; rfl
       go_wp2
       go_ret
       exact ⟨rfl, HB'.out⟩
 ·have f1 : (F == 0) = false := by rw [beq_eq_false_iff_ne]; exact h0
  have f2 : (F != 0) = true := by rw [bne, f1]; rfl
  obtain rfl : E = F := by rw [<- HE.out, if_neg h0]
  clear h0
  go_wp2
  go_ret
  exact ⟨rfl, HB1.out⟩
theorem few_any (t : Tr) (w : World) (hin : t.In w w.heap.size) :
  Calls Tryz.prog 5 #[t.val] w fun e w' => (∃ r : Bool, e = .returned (.bool r)) /\ Below w.heap.size w w' := by
 have C1 := Lib.hid (fun w h => size_any t.root 0 w h (by omega) (by omega))
 have HI := Lib.hid hin
 clear hin
 obtain ⟨boot, ra, rc, rs, ⟨nm, pa, pc, ps, ka, kc, ks⟩⟩ := t
 show Calls _ _ #[.agg #[.int .u32 boot, .slice ra rs.length rc, .string nm, .slice pa ps.length pc, .slice ka ks.length kc]] _ _
 have HB := Lib.hid ((Below.refl w.heap.size w).alloc (Nat.le_refl _) (.cells #[.int .u32 boot, .slice ra rs.length rc, .string nm, .slice pa ps.length pc, .slice ka ks.length kc] 29))
 go_enter Tryz.func5, Tryz.ntmps5
 go_wp2_with fail
 refine (C1.out _ ((HI.out.on HB.out).root)).mono ?_
 rintro e w1 ⟨⟨z, rfl⟩, hb⟩
 have HB1 := Lib.hid (HB.out.trans (hb.mono HB.out.size))
 have b1 := (hb.cell (p := ⟨w.heap.size, 1, none⟩) (by simp)).trans (World.cell?_alloc_new _ _ _ _)
 replace b1 : _ = some (Value.slice ra rs.length rc) := b1
 clear hb
 by_cases hz : z <= 100000
 ·go_wp2
  go_ret
  exact ⟨⟨_, rfl⟩, HB1.out⟩
 ·go_wp2
  go_ret
  first | exact ⟨⟨_, rfl⟩, HB1.out⟩ | exact ⟨.inl rfl, HB1.out⟩
end
end Go.Proofs.YtcfinbapfhhpgaaGreatDoor
