/-
  Layer 3: whether one name is there twice, by a map of the names that were seen.
-/
import Derived.Test.YtmgokplpkmndoaaGreatTIdx
import Derived.Maps.Own
import Derived.Maps.OwnSet
import Derived.Maps.OwnOps
import Derived.Maps.Views
namespace Go.Proofs.YtmgokplpkmndoaaGreat
open Go.RowKit Go.Maps Go.WideMaps
set_option linter.unusedVariables false
set_option linter.unusedSimpArgs false

/-- One name is there twice. -/
def twiceB (l : List ByteArray) : Bool := !decide l.Nodup

/-- The key that a name is, and the set of the first k names. -/
def keyL (s : ByteArray) : Lit := .string s.data.toList
def Sn (l : List ByteArray) (k : Nat) : DataW Unit := setOf (.agg []) ((l.take k).map keyL)

theorem Sn_zero (l : List ByteArray) : Sn l 0 = .map [] := by simp [Sn, setOf]
theorem Sn_succ (l : List ByteArray) (k : Nat) (hk : k < l.length) : Sn l (k + 1) = (Sn l k).put (keyL l[k]) (.agg []) := by
  unfold Sn
  rw [List.take_add_one, List.getElem?_eq_getElem hk, List.map_append, ← setOf_snoc]
  rfl
theorem has_Sn (l : List ByteArray) (k : Nat) (s : ByteArray) : Maps.has (Sn l k) (keyL s) = true ↔ s ∈ l.take k := by
  unfold Sn
  rw [has_setOf _ _ _ (fun y hy => by obtain ⟨_, _, rfl⟩ := List.mem_map.1 hy; trivial), List.any_map, List.any_eq_true]
  constructor
  · rintro ⟨x, hx, h⟩
    have e : x.data.toList = s.data.toList := by
      have h' : (keyL x).sameKey (keyL s) = true := h
      by_cases e : keyL x = keyL s
      · exact (Lit.string.inj e)
      · rw [sameKey_ne e] at h'; cases h'
    rw [← WideShapes.bytes_inj e]
    exact hx
  · intro h
    refine ⟨s, h, ?_⟩
    show (keyL s).sameKey (keyL s) = true
    simp [keyL, Lit.sameKey]
theorem has_no {l : List ByteArray} {k : Nat} {s : ByteArray} (h : s ∉ l.take k) : Maps.has (Sn l k) (keyL s) = false := by
  rcases e : Maps.has (Sn l k) (keyL s) with _ | _
  · rfl
  · exact absurd ((has_Sn l k s).1 e) h

theorem nodup_zero (l : List ByteArray) : (l.take 0).Nodup := by simp
theorem nodup_succ {l : List ByteArray} {k : Nat} (h : (l.take k).Nodup) (hk : k < l.length) (hn : l[k] ∉ l.take k) : (l.take (k + 1)).Nodup := by
  rw [List.take_add_one, List.getElem?_eq_getElem hk]
  rw [List.nodup_append]
  refine ⟨h, by simp, ?_⟩
  intro a ha b hb hab
  simp at hb
  subst hb hab
  exact hn ha
theorem twice_hit {l : List ByteArray} {k : Nat} (hk : k < l.length) (hn : l[k] ∈ l.take k) : twiceB l = true := by
  have : ¬ l.Nodup := fun h => by
    have h1 : (l.take k ++ l.drop k).Nodup := by rw [List.take_append_drop]; exact h
    rw [List.nodup_append] at h1
    exact h1.2.2 _ hn l[k] (by rw [List.drop_eq_getElem_cons hk]; exact List.mem_cons_self ..) rfl
  simp [twiceB, this]
theorem twice_all {l : List ByteArray} {k : Nat} (h : (l.take k).Nodup) (hk : ¬ k < l.length) : twiceB l = false := by
  rw [List.take_of_length_le (by omega)] at h
  simp [twiceB, h]

theorem ownsMap_below {w w' : World} {B b n : Nat} {k : TypeId} {R : Value → Option (DataW Unit × List MemPlace)} {D : DataW Unit} (h : w.ownsMap Tryz.prog k R b n D) (hb : Below B w w') (hlt : b < B) : w'.ownsMap Tryz.prog k R b n D := by
  obtain ⟨es, clock, h1, h2⟩ := h
  exact ⟨es, clock, (hb.block b hlt).trans h1, h2⟩

theorem lawS : Keyed Tryz.prog 9 := string_keyed Tryz.underlying9
theorem zeroS (w : World) : (zeroValue 94).run Tryz.prog w = .ok (.agg #[]) w := by kernel_rfl
theorem key_ok {s : ByteArray} (hs : s.size ≤ 140737488351232) : keyOf Tryz.prog 9 (.string s) = some (keyL s) := keyOf_string_mk Tryz.underlying9 (by unfold maxLen; omega)

theorem propName_any (p : PV) (w : World) : Calls Tryz.prog 67 #[.agg #[.string p.name, p.val]] w fun e w' => e = .returned (.string p.name) ∧ Below w.heap.size w w' := by
  obtain ⟨x, a, c, zs⟩ := p
  show Calls _ _ #[.agg #[.string x, .slice a zs.length c]] _ _
  go_enter Tryz.func67, Tryz.ntmps67
  go_wp2
  go_ret
  exact ⟨rfl, (Below.refl _ _).alloc (Nat.le_refl _) _⟩

theorem nodeName_any (n : Nd) (w : World) : Calls Tryz.prog 69 #[n.val] w fun e w' => e = .returned (.string n.name) ∧ Below w.heap.size w w' := by
  obtain ⟨nm, pa, pc, ps, ka, kc, ks⟩ := n
  show Calls _ _ #[.agg #[.string nm, .slice pa ps.length pc, .slice ka ks.length kc]] _ _
  go_enter Tryz.func69, Tryz.ntmps69
  go_wp2
  go_ret
  exact ⟨rfl, (Below.refl _ _).alloc (Nat.le_refl _) _⟩

set_option maxHeartbeats 2000000 in
theorem twiceP_any (n : Nd) (w : World) (hin : n.In w w.heap.size) (r : Bool) (hr : twiceB (n.props.map PV.name) = r) :
    Calls Tryz.prog 66 #[n.pv, .func (.func 67) #[] #[]] w fun e w' => e = .returned (.bool r) ∧ Below w.heap.size w w' := by
  have hmm := @run_makeMap Tryz.prog
  obtain ⟨nm, pa, pc, ps, ka, kc, ks⟩ := n
  have HI := Lib.hid hin
  have HR := Lib.hid (show twiceB (ps.map PV.name) = r from hr)
  obtain ⟨hl, hm⟩ : ps.length ≤ pc ∧ pc ≤ 9223372036854775807 := hin.plen
  obtain ⟨_, hsz, _⟩ : nm.size ≤ 140737488351232 ∧ ps.length * 40 ≤ 140737488351232 ∧ _ := hin.name_le
  have HM := Lib.hid (show (ps.map PV.name).length = ps.length from List.length_map _)
  clear hin hr
  show Calls _ _ #[.slice pa ps.length pc, _] _ _
  go_enter Tryz.func66, Tryz.ntmps66
  go_wp2_with fail
  go_loopw [13] (fun i wr => ∃ k : Nat, k ≤ ps.length ∧ i = .int .i64 k ∧ ((ps.map PV.name).take k).Nodup ∧ wr.ownsMap Tryz.prog 9 unitElem w.heap.size k (Sn (ps.map PV.name) k) ∧ Below w.heap.size w wr ∧ w.heap.size < wr.heap.size) (fun i _ => ps.length - (intOf i).toNat)
  case atStart => exact ⟨0, Nat.zero_le _, rfl, nodup_zero _, by rw [Sn_zero]; exact World.ownsMap_made _ _ _ _, (Below.refl _ _).alloc (Nat.le_refl _) _, by simp⟩
  case round =>
    obtain ⟨k, hk, rfl, hnd, hown, hb, hz⟩ := hrel
    have HN := Lib.hid hnd
    have HB := Lib.hid hb
    have HO := Lib.hid hown
    have HZ := Lib.hid hz
    clear hnd hb hown hz
    by_cases hlt : k < ps.length
    · obtain ⟨b, o, e, hb, c0, c1⟩ := (HI.out.under HB.out).pcell (i := k) hlt
      obtain rfl : pa = _ := e
      replace c0 : _ = some (Value.string ps[k].name) := c0
      replace c1 : _ = some (Value.slice ps[k].addr ps[k].zs.length ps[k].cap) := c1
      have hxm : Hid ((ps.map PV.name)[k]'(by rw [HM.out]; exact hlt) = ps[k].name) := List.getElem_map _
      have HK := Lib.hid (key_ok (HI.out.prop (List.getElem_mem hlt)).1.1)
      have HA := Lib.hid (Below.alloc (Below.refl wr.heap.size wr) (Nat.le_refl _) (.cells #[Value.string ps[k].name, .slice ps[k].addr ps[k].zs.length ps[k].cap] 148))
      have HC := Lib.hid (propName_any ps[k])
      by_cases hmem : ps[k].name ∈ (ps.map PV.name).take k
      · have hhas := (has_Sn (ps.map PV.name) k ps[k].name).2 hmem
        obtain rfl : r = true := by rw [← HR.out]; exact twice_hit (k := k) (by rw [HM.out]; exact hlt) (by rw [hxm.out]; exact hmem)
        clear hmem
        go_wp2_with fail
        refine (HC.out _).mono ?_
        rintro e w1 ⟨rfl, hb1⟩
        have HB1 := Lib.hid (HA.out.trans (hb1.mono HA.out.size))
        have HO1 := Lib.hid (ownsMap_below HO.out HB1.out HZ.out)
        clear hb1
        go_wp2_with (first | (at_lookup; refine wpList_lookup_own_unit _ rfl _ _ 209 rfl 9 94 lawS Tryz.underlying209 (zeroS _) w.heap.size k _ rfl HO1.out _ _ rfl HK.out ?_) | fail)
        go_ret
        exact ⟨rfl, (HB.out.trans (HB1.out.mono HB.out.size)).alloc (by have h1 := HB.out.size; have h2 := HB1.out.size; omega) _⟩
      · have hhas := has_no hmem
        have HN1 := Lib.hid (nodup_succ HN.out (by rw [HM.out]; exact hlt) (by rw [hxm.out]; exact hmem))
        clear hmem
        go_wp2_with fail
        refine (HC.out _).mono ?_
        rintro e w1 ⟨rfl, hb1⟩
        have HB1 := Lib.hid (HA.out.trans (hb1.mono HA.out.size))
        have HO1 := Lib.hid (ownsMap_below HO.out HB1.out HZ.out)
        have d0 : ∀ o, (w1.alloc o).cell? ⟨wr.heap.size, 0, none⟩ = some (Value.string ps[k].name) := fun o => Lib.cell?_alloc_some o ((hb1.cell (p := ⟨wr.heap.size, 0, none⟩) (by simp)).trans (World.cell?_alloc_new _ _ _ _))
        have d1 : ∀ o, (w1.alloc o).cell? ⟨wr.heap.size, 1, none⟩ = some (Value.slice ps[k].addr ps[k].zs.length ps[k].cap) := fun o => Lib.cell?_alloc_some o ((hb1.cell (p := ⟨wr.heap.size, 1, none⟩) (by simp)).trans (World.cell?_alloc_new _ _ _ _))
        clear hb1
        go_wp2_with (first | (at_lookup; refine wpList_lookup_own_unit _ rfl _ _ 209 rfl 9 94 lawS Tryz.underlying209 (zeroS _) w.heap.size k _ rfl HO1.out _ _ rfl HK.out ?_) | fail)
        refine (HC.out _).mono ?_
        rintro e w2 ⟨rfl, hb2⟩
        have HB2 := Lib.hid ((HB1.out.alloc HB1.out.size (.cells #[] 94)).trans (hb2.mono (by have := HB1.out.size; simp; omega)))
        have HO2 := Lib.hid (ownsMap_below HO.out HB2.out HZ.out)
        clear hb2
        go_wp2_with (first | (at_mapUpdate; refine wpList_mapUpdate_own _ rfl _ _ _ 209 rfl 9 94 lawS Tryz.underlying209 unitElem w.heap.size k _ rfl HO2.out (by unfold maxLen; omega) _ _ _ rfl rfl HK.out (.agg []) [] unitElem_mk ?_; intro w3 hown3 hgrow3) | fail)
        go_roundw
        case rel => exact ⟨k + 1, by omega, by go_num, HN1.out, by have h := hown3; rw [← hxm.out, ← Sn_succ] at h; exact h, (HB.out.trans (HB2.out.mono HB.out.size)).grown hgrow3 (by have h1 := HB.out.size; have h2 := HB2.out.size; omega) (fun j hj => by cases hj; exact Nat.le_refl _), by have h1 := HZ.out; have h2 := HB2.out.size; have h3 := hgrow3.size; omega⟩
        case measure => simp [intOf]; omega
    · obtain rfl : r = false := by rw [← HR.out]; exact twice_all HN.out (by rw [HM.out]; exact hlt)
      go_wp2
      go_ret
      exact ⟨rfl, HB.out⟩
set_option maxHeartbeats 2000000 in
theorem twiceN_any (n : Nd) (w : World) (hin : n.In w w.heap.size) (r : Bool) (hr : twiceB (n.kids.map Nd.name) = r) :
    Calls Tryz.prog 68 #[n.kv, .func (.func 69) #[] #[]] w fun e w' => e = .returned (.bool r) ∧ Below w.heap.size w w' := by
  have hmm := @run_makeMap Tryz.prog
  obtain ⟨nm, pa, pc, ps, ka, kc, ks⟩ := n
  have HI := Lib.hid hin
  have HR := Lib.hid (show twiceB (ks.map Nd.name) = r from hr)
  obtain ⟨hl, hm⟩ : ks.length ≤ kc ∧ kc ≤ 9223372036854775807 := hin.klen
  obtain ⟨_, _, hsz⟩ : nm.size ≤ 140737488351232 ∧ _ ∧ ks.length * 64 ≤ 140737488351232 := hin.name_le
  have HM := Lib.hid (show (ks.map Nd.name).length = ks.length from List.length_map _)
  clear hin hr
  show Calls _ _ #[.slice ka ks.length kc, _] _ _
  go_enter Tryz.func68, Tryz.ntmps68
  go_wp2_with fail
  go_loopw [13] (fun i wr => ∃ k : Nat, k ≤ ks.length ∧ i = .int .i64 k ∧ ((ks.map Nd.name).take k).Nodup ∧ wr.ownsMap Tryz.prog 9 unitElem w.heap.size k (Sn (ks.map Nd.name) k) ∧ Below w.heap.size w wr ∧ w.heap.size < wr.heap.size) (fun i _ => ks.length - (intOf i).toNat)
  case atStart => exact ⟨0, Nat.zero_le _, rfl, nodup_zero _, by rw [Sn_zero]; exact World.ownsMap_made _ _ _ _, (Below.refl _ _).alloc (Nat.le_refl _) _, by simp⟩
  case round =>
    obtain ⟨k, hk, rfl, hnd, hown, hb, hz⟩ := hrel
    have HN := Lib.hid hnd
    have HB := Lib.hid hb
    have HO := Lib.hid hown
    have HZ := Lib.hid hz
    clear hnd hb hown hz
    by_cases hlt : k < ks.length
    · obtain ⟨b, o, e, hb, c0, c1, c2⟩ := (HI.out.under HB.out).kcell (i := k) hlt
      obtain rfl : ka = _ := e
      replace c0 : _ = some (Value.string ks[k].name) := c0
      replace c1 : _ = some (Value.slice ks[k].pa ks[k].props.length ks[k].pc) := c1
      replace c2 : _ = some (Value.slice ks[k].ka ks[k].kids.length ks[k].kc) := c2
      have hxm : Hid ((ks.map Nd.name)[k]'(by rw [HM.out]; exact hlt) = ks[k].name) := List.getElem_map _
      have HK := Lib.hid (key_ok (HI.out.kid (List.getElem_mem hlt)).name_le.1)
      have HA := Lib.hid (Below.alloc (Below.refl wr.heap.size wr) (Nat.le_refl _) (.cells #[Value.string ks[k].name, .slice ks[k].pa ks[k].props.length ks[k].pc, .slice ks[k].ka ks[k].kids.length ks[k].kc] 33))
      have HC := Lib.hid (nodeName_any ks[k])
      by_cases hmem : ks[k].name ∈ (ks.map Nd.name).take k
      · have hhas := (has_Sn (ks.map Nd.name) k ks[k].name).2 hmem
        obtain rfl : r = true := by rw [← HR.out]; exact twice_hit (k := k) (by rw [HM.out]; exact hlt) (by rw [hxm.out]; exact hmem)
        clear hmem
        go_wp2_with fail
        refine (HC.out _).mono ?_
        rintro e w1 ⟨rfl, hb1⟩
        have HB1 := Lib.hid (HA.out.trans (hb1.mono HA.out.size))
        have HO1 := Lib.hid (ownsMap_below HO.out HB1.out HZ.out)
        clear hb1
        go_wp2_with (first | (at_lookup; refine wpList_lookup_own_unit _ rfl _ _ 209 rfl 9 94 lawS Tryz.underlying209 (zeroS _) w.heap.size k _ rfl HO1.out _ _ rfl HK.out ?_) | fail)
        go_ret
        exact ⟨rfl, (HB.out.trans (HB1.out.mono HB.out.size)).alloc (by have h1 := HB.out.size; have h2 := HB1.out.size; omega) _⟩
      · have hhas := has_no hmem
        have HN1 := Lib.hid (nodup_succ HN.out (by rw [HM.out]; exact hlt) (by rw [hxm.out]; exact hmem))
        clear hmem
        go_wp2_with fail
        refine (HC.out _).mono ?_
        rintro e w1 ⟨rfl, hb1⟩
        have HB1 := Lib.hid (HA.out.trans (hb1.mono HA.out.size))
        have HO1 := Lib.hid (ownsMap_below HO.out HB1.out HZ.out)
        have d0 : ∀ o, (w1.alloc o).cell? ⟨wr.heap.size, 0, none⟩ = some (Value.string ks[k].name) := fun o => Lib.cell?_alloc_some o ((hb1.cell (p := ⟨wr.heap.size, 0, none⟩) (by simp)).trans (World.cell?_alloc_new _ _ _ _))
        have d1 : ∀ o, (w1.alloc o).cell? ⟨wr.heap.size, 1, none⟩ = some (Value.slice ks[k].pa ks[k].props.length ks[k].pc) := fun o => Lib.cell?_alloc_some o ((hb1.cell (p := ⟨wr.heap.size, 1, none⟩) (by simp)).trans (World.cell?_alloc_new _ _ _ _))
        have d2 : ∀ o, (w1.alloc o).cell? ⟨wr.heap.size, 2, none⟩ = some (Value.slice ks[k].ka ks[k].kids.length ks[k].kc) := fun o => Lib.cell?_alloc_some o ((hb1.cell (p := ⟨wr.heap.size, 2, none⟩) (by simp)).trans (World.cell?_alloc_new _ _ _ _))
        clear hb1
        go_wp2_with (first | (at_lookup; refine wpList_lookup_own_unit _ rfl _ _ 209 rfl 9 94 lawS Tryz.underlying209 (zeroS _) w.heap.size k _ rfl HO1.out _ _ rfl HK.out ?_) | fail)
        refine (HC.out _).mono ?_
        rintro e w2 ⟨rfl, hb2⟩
        have HB2 := Lib.hid ((HB1.out.alloc HB1.out.size (.cells #[] 94)).trans (hb2.mono (by have := HB1.out.size; simp; omega)))
        have HO2 := Lib.hid (ownsMap_below HO.out HB2.out HZ.out)
        clear hb2
        go_wp2_with (first | (at_mapUpdate; refine wpList_mapUpdate_own _ rfl _ _ _ 209 rfl 9 94 lawS Tryz.underlying209 unitElem w.heap.size k _ rfl HO2.out (by unfold maxLen; omega) _ _ _ rfl rfl HK.out (.agg []) [] unitElem_mk ?_; intro w3 hown3 hgrow3) | fail)
        go_roundw
        case rel => exact ⟨k + 1, by omega, by go_num, HN1.out, by have h := hown3; rw [← hxm.out, ← Sn_succ] at h; exact h, (HB.out.trans (HB2.out.mono HB.out.size)).grown hgrow3 (by have h1 := HB.out.size; have h2 := HB2.out.size; omega) (fun j hj => by cases hj; exact Nat.le_refl _), by have h1 := HZ.out; have h2 := HB2.out.size; have h3 := hgrow3.size; omega⟩
        case measure => simp [intOf]; omega
    · obtain rfl : r = false := by rw [← HR.out]; exact twice_all HN.out (by rw [HM.out]; exact hlt)
      go_wp2
      go_ret
      exact ⟨rfl, HB.out⟩
end Go.Proofs.YtmgokplpkmndoaaGreat
