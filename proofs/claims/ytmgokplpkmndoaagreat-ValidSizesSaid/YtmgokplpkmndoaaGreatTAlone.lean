/-
  Layer 3: what is asked of a node itself.
-/
import Derived.Test.YtmgokplpkmndoaaGreatTTwice
import Derived.Test.YtmgokplpkmndoaaGreatTName
namespace Go.Proofs.YtmgokplpkmndoaaGreat
open Go.RowKit
set_option linter.unusedVariables false
set_option linter.unusedSimpArgs false

/-- A property whose name is none. -/
def misP (p : PV) : Bool := !propB p.name
/-- May a node at that depth bear its name? -/
noncomputable def nameOk (n : Nd) (d : Int) : Bool := if d = 1 then n.name.toList.isEmpty else nodeB n.name
/-- The first error of a node itself. -/
noncomputable def aloneE (n : Nd) (d : Int) : Int :=
  if 16 < d then 6 else if nameOk n d = false then 5 else if n.props.any misP = true then 5 else if twiceB (n.props.map PV.name) = true then 9 else if twiceB (n.kids.map Nd.name) = true then 9 else 0

theorem isMis_any (p : PV) (B : Nat) (w : World) (hp : p.In w B) (q : Bool) (hq : misP p = q) :
    Calls Tryz.prog 65 #[.agg #[.string p.name, p.val]] w fun e w' => e = .returned (.bool q) ∧ Below w.heap.size w w' := by
  have C := Lib.hid (fun w => propB_any p.name w hp.1.1 (!q) (by rw [← hq, misP, Bool.not_not]))
  clear hp hq
  obtain ⟨x, a, c, zs⟩ := p
  replace C : Hid (∀ w, Calls Tryz.prog 104 #[.string x] w _) := C
  show Calls _ _ #[.agg #[.string x, .slice a zs.length c]] _ _
  go_enter Tryz.func65, Tryz.ntmps65
  go_wp2_with fail
  refine (C.out _).mono ?_
  rintro e w' ⟨rfl, rfl⟩
  go_wp2
  go_ret
  exact ⟨by simp, (Below.refl _ _).alloc (Nat.le_refl _) _⟩

/-- None of the first k is bad. -/
def Good {α : Type} (f : α → Bool) (l : List α) (k : Nat) : Prop := ∀ j (hj : j < l.length), j < k → f l[j] = false
theorem Good.zero {α : Type} (f : α → Bool) (l : List α) : Good f l 0 := fun _ _ h => absurd h (Nat.not_lt_zero _)
theorem Good.succ {α : Type} {f : α → Bool} {l : List α} {k : Nat} (h : Good f l k) (hk : k < l.length) (he : f l[k] = false) : Good f l (k + 1) := fun j hj hlt => by
  rcases Nat.lt_succ_iff_lt_or_eq.1 hlt with h' | rfl
  · exact h j hj h'
  · exact he
theorem Good.all {α : Type} {f : α → Bool} {l : List α} {k : Nat} (h : Good f l k) (hk : ¬ k < l.length) : l.any f = false := by
  rw [List.any_eq_false]
  intro x hx
  obtain ⟨i, hi, rfl⟩ := List.getElem_of_mem hx
  rw [h i hi (by omega)]
  simp
theorem any_at {α : Type} {f : α → Bool} {l : List α} {k : Nat} (hk : k < l.length) (he : f l[k] = true) : l.any f = true := List.any_eq_true.2 ⟨_, List.getElem_mem hk, he⟩

set_option maxHeartbeats 2000000 in
theorem idxMis_any (n : Nd) (w : World) (hin : n.In w w.heap.size) (r : Bool) (hr : n.props.any misP = r) :
    Calls Tryz.prog 103 #[n.pv, .func (.func 65) #[] #[]] w fun e w' => (∃ i : Int, e = .returned (.int .i64 i) ∧ decide (0 ≤ i) = r) ∧ Below w.heap.size w w' := by
  obtain ⟨nm, pa, pc, ps, ka, kc, ks⟩ := n
  have HI := Lib.hid hin
  have HR := Lib.hid (show ps.any misP = r from hr)
  obtain ⟨hl, hm⟩ : ps.length ≤ pc ∧ pc ≤ 9223372036854775807 := hin.plen
  clear hin hr
  show Calls _ _ #[.slice pa ps.length pc, _] _ _
  go_enter Tryz.func103, Tryz.ntmps103
  go_wp2_with fail
  go_loopw [8] (fun i wr => ∃ k : Nat, k ≤ ps.length ∧ i = .int .i64 k ∧ Good misP ps k ∧ Below w.heap.size w wr) (fun i _ => ps.length - (intOf i).toNat)
  case atStart => exact ⟨0, Nat.zero_le _, rfl, Good.zero _ _, Below.refl _ _⟩
  case round =>
    obtain ⟨k, hk, rfl, hgood, hb⟩ := hrel
    have HA := Lib.hid hgood
    have HB := Lib.hid hb
    clear hgood hb
    by_cases hlt : k < ps.length
    · obtain ⟨b, o, e, hb, c0, c1⟩ := (HI.out.under HB.out).pcell (i := k) hlt
      obtain rfl : pa = _ := e
      replace c0 : _ = some (Value.string ps[k].name) := c0
      replace c1 : _ = some (Value.slice ps[k].addr ps[k].zs.length ps[k].cap) := c1
      obtain ⟨q, hq⟩ : ∃ q, misP ps[k] = q := ⟨_, rfl⟩
      have C := Lib.hid (isMis_any ps[k] _ wr ((HI.out.prop (List.getElem_mem hlt)).keep (fun _ hp => HB.out.cell hp)) q hq)
      have HQ := Lib.hid hq
      clear hq
      cases q
      · go_wp2_with fail
        refine C.out.mono ?_
        rintro e w' ⟨rfl, hb'⟩
        have HB2 := Lib.hid (HB.out.trans (hb'.mono HB.out.size))
        clear hb'
        go_wp2
        go_roundw
        case rel => exact ⟨k + 1, by omega, by go_num, HA.out.succ hlt HQ.out, HB2.out⟩
        case measure => simp [intOf]; omega
      · obtain rfl : r = true := by rw [← HR.out]; exact any_at hlt HQ.out
        go_wp2_with fail
        refine C.out.mono ?_
        rintro e w' ⟨rfl, hb'⟩
        have HB2 := Lib.hid (HB.out.trans (hb'.mono HB.out.size))
        clear hb'
        go_wp2
        go_ret
        exact ⟨⟨k, rfl, by simp⟩, HB2.out⟩
    · obtain rfl : r = false := by rw [← HR.out]; exact HA.out.all hlt
      go_wp2
      go_ret
      exact ⟨⟨-1, rfl, by simp⟩, HB.out⟩

theorem containsMis_any (n : Nd) (w : World) (hin : n.In w w.heap.size) (r : Bool) (hr : n.props.any misP = r) :
    Calls Tryz.prog 64 #[n.pv, .func (.func 65) #[] #[]] w fun e w' => e = .returned (.bool r) ∧ Below w.heap.size w w' := by
  have C := Lib.hid (idxMis_any n w hin r hr)
  clear hin hr
  obtain ⟨nm, pa, pc, ps, ka, kc, ks⟩ := n
  show Calls _ _ #[.slice pa ps.length pc, _] _ _
  go_enter Tryz.func64, Tryz.ntmps64
  go_wp2_with fail
  refine C.out.mono ?_
  rintro e w' ⟨⟨i, rfl, hi⟩, hb⟩
  have HB := Lib.hid hb
  have HV := Lib.hid hi
  clear hb hi
  go_wp2
  go_ret
  exact ⟨congrArg (fun b => Ending.returned (.bool b)) HV.out, HB.out⟩

theorem mayBe_any (n : Nd) (d : Int) (w : World) (hin : n.In w w.heap.size) (r : Bool) (hr : nameOk n d = r) :
    Calls Tryz.prog 63 #[n.val, .int .i64 d] w fun e w' => e = .returned (.bool r) ∧ Below w.heap.size w w' := by
  have hs := hin.name_le.1
  obtain ⟨nm, pa, pc, ps, ka, kc, ks⟩ := n
  replace hs : nm.size ≤ 140737488351232 := hs
  clear hin
  show Calls _ _ #[.agg #[.string nm, .slice pa ps.length pc, .slice ka ks.length kc], .int .i64 d] _ _
  have HB := Lib.hid ((Below.refl w.heap.size w).alloc (Nat.le_refl _) (.cells #[Value.string nm, .slice pa ps.length pc, .slice ka ks.length kc] 33))
  by_cases hd : d = 1
  · subst hd
    have hr' : nm.toList.isEmpty = r := by rw [← hr, nameOk, if_pos rfl]; rfl
    have HR := Lib.hid hr'
    clear hr hr'
    go_enter Tryz.func63, Tryz.ntmps63
    go_wp2
    go_ret
    exact ⟨congrArg (fun b => Ending.returned (.bool b)) HR.out, HB.out⟩
  · have hd1 : (d == 1) = false := by rw [beq_eq_false_iff_ne]; exact hd
    have C := Lib.hid (fun w => nodeB_any nm w hs r (by rw [← hr, nameOk, if_neg hd]; rfl))
    clear hr hd
    go_enter Tryz.func63, Tryz.ntmps63
    go_wp2_with fail
    refine (C.out _).mono ?_
    rintro e w' ⟨rfl, hb⟩
    have HB2 := Lib.hid (HB.out.trans (hb.mono HB.out.size))
    clear hb
    go_wp2
    go_ret
    exact ⟨rfl, HB2.out⟩
end Go.Proofs.YtmgokplpkmndoaaGreat
