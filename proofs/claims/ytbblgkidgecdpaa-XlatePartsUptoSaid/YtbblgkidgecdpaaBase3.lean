/-
  Base, part 3: what the proofs of this claim lean on.
-/
import Derived.Test.YtbblgkidgecdpaaBase2
import Derived.OwnWalk
import Derived.Deep.DrawnRows
import Derived.Maps.Own
import Derived.Maps.OwnSet
import Derived.Maps.OwnOps
import Derived.Maps.Views
import Derived.Test.YtbblgkidgecdpaaBase1

/-! The one cell of a node's property: the document's answer. -/
namespace Go.Proofs.Ytbblgkidgecdpaa
open Go.RowKit
set_option linter.unusedVariables false
set_option linter.unusedSimpArgs false

theorem idx_or : ∀ (l : List ByteArray) (s : ByteArray), idxOf l s = -1 ∨ ∃ k : Nat, ∃ h : k < l.length, idxOf l s = (k : Int) ∧ l[k] = s
  | [], s => .inl rfl
  | x :: l, s => by
    by_cases hx : x = s
    · exact .inr ⟨0, by simp, by rw [idxOf, if_pos hx]; rfl, by simpa using hx⟩
    · rcases idx_or l s with h | ⟨k, h1, h2, h3⟩
      · exact .inl (by rw [idxOf, if_neg hx, h]; rfl)
      · exact .inr ⟨k + 1, by simpa using h1, by rw [idxOf, if_neg hx, h2, if_neg (by omega)]; omega, by simpa using h3⟩

/-- The one cell of a node's property: the cell, whether it is there, the error. -/
def oneV (n : Nd) (s : ByteArray) : Int × Bool × Int :=
  match n.props.find? fun p => decide (p.name = s) with
  | none => (0, false, 0)
  | some p => if p.zs.length = 4 then (numTo p.zs 0 4, true, 0) else (0, false, 4)
def oneVal (o : Int × Bool × Int) : Value := .tuple #[.int .u32 o.1, .bool o.2.1, .int .i64 o.2.2]
theorem find_none : ∀ {ps : List PV} {s : ByteArray}, idxOf (ps.map PV.name) s = -1 → ps.find? (fun p => decide (p.name = s)) = none
  | [], _, _ => rfl
  | p :: r, s, h => by
    rw [List.map_cons, idxOf] at h
    by_cases hp : p.name = s
    · rw [if_pos hp] at h; omega
    · rw [if_neg hp] at h
      rw [List.find?_cons_of_neg (by simpa using hp)]
      refine find_none ?_
      rcases idx_or (r.map PV.name) s with h1 | ⟨k, _, h2, _⟩
      · exact h1
      · rw [h2, if_neg (by omega)] at h; omega
theorem find_at : ∀ {ps : List PV} {s : ByteArray} {k : Nat} (hk : k < ps.length), idxOf (ps.map PV.name) s = (k : Int) → ps.find? (fun p => decide (p.name = s)) = some ps[k]
  | [], _, _, hk, _ => absurd hk (by simp)
  | p :: r, s, k, hk, h => by
    rw [List.map_cons, idxOf] at h
    by_cases hp : p.name = s
    · rw [if_pos hp] at h
      obtain rfl : k = 0 := by omega
      rw [List.find?_cons_of_pos (by simpa using hp)]; rfl
    · rw [if_neg hp] at h
      rw [List.find?_cons_of_neg (by simpa using hp)]
      by_cases h0 : idxOf (r.map PV.name) s < 0
      · rw [if_pos h0] at h; omega
      · rw [if_neg h0] at h
        obtain ⟨j, rfl⟩ : ∃ j, k = j + 1 := ⟨k - 1, by omega⟩
        exact find_at (by simpa using hk) (by omega)
theorem prop_heft {n : Nd} {k : Nat} (h : k < n.props.length) : n.props[k].zs.length ≤ heftN n := by
  have e : heftN n = 16 + n.name.size + (n.props.map heftP).sum + heftL n.kids := by cases n; rw [heftN]; rfl
  have h1 := heftP_next n.props k h
  have h2 := heftP_take n.props (k + 1)
  have e2 : heftP n.props[k] = 16 + n.props[k].name.size + n.props[k].zs.length := rfl
  omega

set_option maxRecDepth 20000 in
set_option maxHeartbeats 4000000 in
theorem refone_all (n : Nd) (s : ByteArray) (w : World) (hin : n.In w w.heap.size) :
    Calls Try.prog 51 #[n.val, .string s] w fun e w' => e = .returned (oneVal (oneV n s)) ∧ Below w.heap.size w w' := by
  obtain ⟨r, hr⟩ : ∃ r, r = idxOf (n.props.map PV.name) s := ⟨_, rfl⟩
  have CF := Lib.hid (fun W hW => reffind_any n s W hW r hr)
  have HI := Lib.hid hin
  have HF : Hid ((r < 0 ∧ oneV n s = (0, false, 0)) ∨ ∃ k : Nat, ∃ h : k < n.props.length, r = (k : Int) ∧ oneV n s = if n.props[k].zs.length = 4 then (numTo n.props[k].zs 0 4, true, 0) else (0, false, 4)) := Lib.hid (by
    rcases idx_or (n.props.map PV.name) s with h | ⟨k, h1, h2, _⟩
    · exact .inl ⟨by omega, by rw [oneV, find_none h]⟩
    · rw [List.length_map] at h1
      exact .inr ⟨k, h1, hr.trans h2, by rw [oneV, find_at h1 h2]⟩)
  have HZ := Lib.hid (fun k (h : k < n.props.length) => (hin.prop (List.getElem_mem h)).1.2)
  obtain ⟨O, hO⟩ : ∃ O, oneV n s = O := ⟨_, rfl⟩
  rw [hO] at HF ⊢
  clear hr hin hO
  obtain ⟨nm, pa, pc, ps, ka, kc, ks⟩ := n
  simp only [Nd.val, Nd.pv, Nd.kv, Nd.name, Nd.pa, Nd.pc, Nd.props, Nd.ka, Nd.kc, Nd.kids] at CF HF HZ ⊢
  have HB := Lib.hid ((Below.refl w.heap.size w).alloc (Nat.le_refl _) (.cells #[Value.string nm, .slice pa ps.length pc, .slice ka ks.length kc] 25))
  go_enter Try.func51, Try.ntmps51
  go_wp2_with fail
  refine (CF.out _ (Nd.In.more HB.out.size (HI.out.under HB.out))).mono ?_
  rintro e w1 ⟨rfl, hb⟩
  have HB1 := Lib.hid (HB.out.trans (hb.mono HB.out.size))
  have x1 := (hb.cell (p := ⟨w.heap.size, 1, none⟩) (by simp)).trans (World.cell?_alloc_new _ _ _ _)
  replace x1 : _ = some (Value.slice pa ps.length pc) := x1
  clear hb
  rcases HF.out with ⟨hr0, hv⟩ | ⟨k, hk, hrk, hv⟩
  · subst hv
    clear HF x1
    go_wp2
    go_ret3
    exact ⟨rfl, HB1.out⟩
  · subst hrk
    obtain ⟨b, o, e, _, _, c1⟩ := (HI.out.under HB1.out).pcell (i := k) hk
    obtain rfl : pa = _ := e
    replace c1 : _ = some (Value.slice ps[k].addr ps[k].zs.length ps[k].cap) := c1
    have hp := (HI.out.under HB1.out).prop (p := ps[k]) (List.getElem_mem hk)
    have hz := HZ.out k hk
    have CC := refcells_any ps[k].addr ps[k].zs.length ps[k].cap ps[k].zs w1 (hp.2.1.more HB1.out.size) (by omega) hp.2.2.1 hp.2.2.2
    obtain ⟨P, hP⟩ : ∃ P, ps[k] = P := ⟨_, rfl⟩
    have hv' : O = if P.zs.length = 4 then (numTo P.zs 0 4, true, 0) else (0, false, 4) := by rw [← hP]; exact hv
    rw [hP] at c1 CC hz
    obtain ⟨N, hN⟩ : ∃ N, P.zs.length = N := ⟨_, rfl⟩
    rw [hN] at c1 CC hz hv'
    have HV := Lib.hid hv'
    have hpl : ps.length ≤ pc ∧ pc ≤ 9223372036854775807 := HI.out.plen
    obtain ⟨hpl1, hpl2⟩ := hpl
    have HCC := Lib.hid CC
    clear HF hv hv' hp CC hP hN
    go_wp2_with fail
    refine HCC.out.mono ?_
    rintro e w2 ⟨⟨q1, q2⟩, hb⟩
    have HB2 := Lib.hid (HB1.out.trans (hb.mono HB1.out.size))
    clear hb c1 x1
    by_cases h4 : N % 4 = 0
    · obtain ⟨A, c, rfl, hrow⟩ := q2 h4
      obtain ⟨A', c', e, hcel, _, _, _⟩ := owned_cel hrow
      simp only [Value.slice.injEq, true_and] at e
      obtain ⟨rfl, rfl⟩ := e
      obtain ⟨M, hM⟩ : ∃ M, N / 4 = M := ⟨_, rfl⟩
      rw [hM] at hcel
      rw [hM]
      by_cases h1 : M = 1
      · subst h1
        obtain ⟨bc, oc, rfl, _, hc0⟩ := hcel.2 (by omega)
        have d0 := hc0 0 (by omega)
        rw [Nat.add_zero] at d0
        replace d0 : w2.cell? ⟨bc, oc, none⟩ = some (Value.int .u32 (numTo P.zs 0 4)) := d0
        obtain ⟨v, hv⟩ : ∃ v, numTo P.zs 0 4 = v := ⟨_, rfl⟩
        have HO : Hid (O = (v, true, 0)) := Lib.hid (by rw [HV.out, if_pos (by omega), hv])
        rw [hv] at d0
        clear q1 q2 hrow hcel hc0 hv hM h4
        go_wp2
        go_ret3
        exact ⟨by rw [HO.out]; rfl, HB2.out⟩
      · have k1 : ((M : Int) != 1) = true := by rw [bne_iff_ne]; omega
        have HO : Hid (O = (0, false, 4)) := Lib.hid (by rw [HV.out, if_neg (by omega)])
        clear q1 q2 hrow hcel hM h4 h1
        go_wp2
        go_ret3
        exact ⟨by rw [HO.out]; rfl, HB2.out⟩
    · obtain rfl := q1 h4
      have HO : Hid (O = (0, false, 4)) := Lib.hid (by rw [HV.out, if_neg (by omega)])
      clear q1 q2 h4
      go_wp2
      go_ret3
      exact ⟨by rw [HO.out]; rfl, HB2.out⟩
theorem refone_any (n : Nd) (s : ByteArray) (w : World) (hin : n.In w w.heap.size) (hz : heftN n ≤ 1073741824) :
    Calls Try.prog 51 #[n.val, .string s] w fun e w' => e = .returned (oneVal (oneV n s)) ∧ Below w.heap.size w w' := refone_all n s w hin
end Go.Proofs.Ytbblgkidgecdpaa

/-! Of how many cells the addresses and sizes below a node are: the document's answer. -/
namespace Go.Proofs.Ytbblgkidgecdpaa
open Go.RowKit
set_option linter.unusedVariables false
set_option linter.unusedSimpArgs false

/-- What a node's property says of cells; -1: nothing that may be. -/
def cntV (n : Nd) (s : ByteArray) (d : Int) : Int := if (oneV n s).2.2 ≠ 0 ∨ 2 < (oneV n s).1 then -1 else if (oneV n s).2.1 = false then d else (oneV n s).1
def nmAddr : ByteArray := ⟨#[35, 97, 100, 100, 114, 101, 115, 115, 45, 99, 101, 108, 108, 115]⟩
def nmSize : ByteArray := ⟨#[35, 115, 105, 122, 101, 45, 99, 101, 108, 108, 115]⟩
theorem oneV_bound {w : World} {B : Nat} {n : Nd} (h : n.In w B) (s : ByteArray) : 0 ≤ (oneV n s).1 ∧ (oneV n s).1 ≤ 4294967295 := by
  unfold oneV
  split
  · exact ⟨by decide, by decide⟩
  · rename_i p hp
    split
    · exact numTo_u32 (h.prop (List.mem_of_find?_eq_some hp)).2.1 0
    · exact ⟨by decide, by decide⟩

set_option maxHeartbeats 2000000 in
theorem refcnt_all (n : Nd) (s : ByteArray) (d : Int) (w : World) (hin : n.In w w.heap.size) :
    Calls Try.prog 42 #[n.val, .string s, .int .i64 d] w fun e w' => e = .returned (.int .i64 (cntV n s d)) ∧ Below w.heap.size w w' := by
  have C := Lib.hid (fun W hW => refone_all n s W hW)
  have hb := oneV_bound hin s
  have HV : Hid (cntV n s d = if (oneV n s).2.2 ≠ 0 ∨ 2 < (oneV n s).1 then -1 else if (oneV n s).2.1 = false then d else (oneV n s).1) := Lib.hid rfl
  have HI := Lib.hid hin
  obtain ⟨O, hO⟩ : ∃ O, oneV n s = O := ⟨_, rfl⟩
  rw [hO] at C hb HV
  obtain ⟨v, ok, E⟩ := O
  obtain ⟨r, hr⟩ : ∃ r, cntV n s d = r := ⟨_, rfl⟩
  rw [hr] at HV ⊢
  obtain ⟨v0, v1⟩ : 0 ≤ v ∧ v ≤ 4294967295 := hb
  replace HV : Hid (r = if E ≠ 0 ∨ 2 < v then -1 else if ok = false then d else v) := HV
  clear hin hO hr
  obtain ⟨nm, pa, pc, ps, ka, kc, ks⟩ := n
  simp only [Nd.val, Nd.pv, Nd.kv, Nd.name, Nd.pa, Nd.pc, Nd.props, Nd.ka, Nd.kc, Nd.kids, oneVal] at C ⊢
  have HB := Lib.hid ((Below.refl w.heap.size w).alloc (Nat.le_refl _) (.cells #[Value.string nm, .slice pa ps.length pc, .slice ka ks.length kc] 25))
  by_cases hE : E = 0
  · subst hE
    by_cases hv : 2 < v
    · have q1 : decide ((2 : Int) < v) = true := decide_eq_true hv
      have HR : Hid (r = -1) := Lib.hid (by rw [HV.out, if_pos (.inr hv)])
      clear hv
      go_enter Try.func42, Try.ntmps42
      go_wp2_with fail
      refine (C.out _ (Nd.In.more HB.out.size (HI.out.under HB.out))).mono ?_
      rintro e w1 ⟨rfl, hb⟩
      have HB1 := Lib.hid (HB.out.trans (hb.mono HB.out.size))
      clear hb
      go_wp2
      go_ret
      exact ⟨by rw [HR.out]; rfl, HB1.out⟩
    · have q1 : decide ((2 : Int) < v) = false := decide_eq_false hv
      cases ok
      · have HR : Hid (r = d) := Lib.hid (by rw [HV.out, if_neg (by simp; omega)]; rfl)
        clear hv
        go_enter Try.func42, Try.ntmps42
        go_wp2_with fail
        refine (C.out _ (Nd.In.more HB.out.size (HI.out.under HB.out))).mono ?_
        rintro e w1 ⟨rfl, hb⟩
        have HB1 := Lib.hid (HB.out.trans (hb.mono HB.out.size))
        clear hb
        go_wp2
        go_ret
        exact ⟨by rw [HR.out]; rfl, HB1.out⟩
      · have HR : Hid (r = v) := Lib.hid (by rw [HV.out, if_neg (by simp; omega)]; rfl)
        have hcv : IntKind.i64.wrap v = v := by rw [IntKind.wrap_i64]; omega
        clear hv
        go_enter Try.func42, Try.ntmps42
        go_wp2_with fail
        refine (C.out _ (Nd.In.more HB.out.size (HI.out.under HB.out))).mono ?_
        rintro e w1 ⟨rfl, hb⟩
        have HB1 := Lib.hid (HB.out.trans (hb.mono HB.out.size))
        clear hb
        go_wp2
        go_ret
        exact ⟨by rw [HR.out]; rfl, HB1.out⟩
  · have q0 : (E != 0) = true := by rw [bne_iff_ne]; exact hE
    have HR : Hid (r = -1) := Lib.hid (by rw [HV.out, if_pos (.inl hE)])
    clear hE
    go_enter Try.func42, Try.ntmps42
    go_wp2_with fail
    refine (C.out _ (Nd.In.more HB.out.size (HI.out.under HB.out))).mono ?_
    rintro e w1 ⟨rfl, hb⟩
    have HB1 := Lib.hid (HB.out.trans (hb.mono HB.out.size))
    clear hb
    go_wp2
    go_ret
    exact ⟨by rw [HR.out]; rfl, HB1.out⟩

set_option maxRecDepth 20000 in
set_option maxHeartbeats 4000000 in
theorem refcounts_all (n : Nd) (w : World) (hin : n.In w w.heap.size) :
    Calls Try.prog 25 #[n.val] w fun e w' => e = .returned (.tuple #[.int .i64 (cntV n nmAddr 2), .int .i64 (cntV n nmSize 1), .bool (decide (0 ≤ cntV n nmAddr 2) && decide (0 ≤ cntV n nmSize 1))]) ∧ Below w.heap.size w w' := by
  have CA := Lib.hid (fun W hW => refcnt_all n nmAddr 2 W hW)
  have CS := Lib.hid (fun W hW => refcnt_all n nmSize 1 W hW)
  have HI := Lib.hid hin
  obtain ⟨va, hva⟩ : ∃ v, cntV n nmAddr 2 = v := ⟨_, rfl⟩
  obtain ⟨vs, hvs⟩ : ∃ v, cntV n nmSize 1 = v := ⟨_, rfl⟩
  rw [hva] at CA ⊢
  rw [hvs] at CS ⊢
  clear hin hva hvs
  obtain ⟨nm, pa, pc, ps, ka, kc, ks⟩ := n
  simp only [Nd.val, Nd.pv, Nd.kv, Nd.name, Nd.pa, Nd.pc, Nd.props, Nd.ka, Nd.kc, Nd.kids, nmAddr, nmSize] at CA CS ⊢
  have HB := Lib.hid ((Below.refl w.heap.size w).alloc (Nat.le_refl _) (.cells #[Value.string nm, .slice pa ps.length pc, .slice ka ks.length kc] 25))
  have BX : Hid (∀ W, Below (w.heap.size + 1) (w.alloc (.cells #[Value.string nm, .slice pa ps.length pc, .slice ka ks.length kc] 25)) W → (W.cell? ⟨w.heap.size, 0, none⟩ = some (.string nm) ∧ W.cell? ⟨w.heap.size, 1, none⟩ = some (.slice pa ps.length pc) ∧ W.cell? ⟨w.heap.size, 2, none⟩ = some (.slice ka ks.length kc))) := Lib.hid (fun W h =>
    ⟨(h.cell (Nat.lt_succ_self _)).trans (World.cell?_alloc_new _ _ _ _), (h.cell (Nat.lt_succ_self _)).trans (World.cell?_alloc_new _ _ _ _), (h.cell (Nat.lt_succ_self _)).trans (World.cell?_alloc_new _ _ _ _)⟩)
  have IN := Lib.hid (fun W (h : Below w.heap.size w W) => Nd.In.more h.size (HI.out.under h))
  have HX0 := Lib.hid ((Below.refl (w.heap.size + 1) (w.alloc (.cells #[Value.string nm, .slice pa ps.length pc, .slice ka ks.length kc] 25))).drew)
  have HZ0 := Lib.hid (HB.out.drew)
  go_enter Try.func25, Try.ntmps25
  go_wp2_with fail
  refine wp_region_held_drew (S := fun W => W.cell? ⟨w.heap.size, 0, none⟩ = some (.string nm) ∧ W.cell? ⟨w.heap.size, 1, none⟩ = some (.slice pa ps.length pc) ∧ W.cell? ⟨w.heap.size, 2, none⟩ = some (.slice ka ks.length kc)) (by kernel_rfl) (BX.out _ HX0.out) (fun hHeld => ?_)
  refine held_take 0 rfl (by kernel_rfl) (by kernel_rfl) (by kernel_rfl) (fun _ _ _ h => h) (by rfl) hHeld (v := ?_) (fun w hSw => ?_) (fun _ => ?_)
  rotate_left
  · ((try dsimp only at hSw); go_simp; (try with_reducible rfl))
  simp only [Act.put, List.setIfInBounds_toArray, List.set_cons_zero, List.set_cons_succ]
  refine held_take 2 rfl (by kernel_rfl) (by kernel_rfl) (by kernel_rfl) (fun _ _ _ h => h) (by rfl) hHeld (v := ?_) (fun w hSw => ?_) (fun _ => ?_)
  rotate_left
  · ((try dsimp only at hSw); go_simp; (try with_reducible rfl))
  simp only [Act.put, List.setIfInBounds_toArray, List.set_cons_zero, List.set_cons_succ]
  refine held_call 1 (by kernel_rfl) rfl (by rfl) (fun K hK => ?_)
  go_simp
  refine (CA.out _ (IN.out _ HZ0.out)).mono ?_
  rintro e w3 ⟨rfl, hb⟩
  have HZ3 := Lib.hid (HZ0.out.trans (hb.mono HZ0.out.size))
  have HX3 := Lib.hid (HX0.out.trans (hb.mono (by simp)))
  clear hb
  dsimp only
  refine hK.out _ _ (BX.out _ HX3.out) (fun hHeld => ?_)
  clear hK K
  refine held_call 3 (by kernel_rfl) rfl (by rfl) (fun K hK => ?_)
  go_simp
  refine (CS.out _ (IN.out _ HZ3.out)).mono ?_
  rintro e w4 ⟨rfl, hb⟩
  have HZ4 := Lib.hid (HZ3.out.trans (hb.mono HZ3.out.size))
  have HX4 := Lib.hid (HX3.out.trans (hb.mono (by have := HX3.out.size; simpa using this)))
  clear hb
  dsimp only
  refine hK.out _ _ (BX.out _ HX4.out) (fun hHeld => ?_)
  clear hK K
  refine held_take 4 rfl (by kernel_rfl) (by kernel_rfl) (by kernel_rfl) (fun _ _ _ h => h) (by rfl) hHeld (v := ?_) (fun w hSw => ?_) (fun _ => ?_)
  rotate_left
  · ((try dsimp only at hSw); go_simp; (try with_reducible rfl))
  simp only [Act.put, List.setIfInBounds_toArray, List.set_cons_zero, List.set_cons_succ]
  refine held_take 5 rfl (by kernel_rfl) (by kernel_rfl) (by kernel_rfl) (fun _ _ _ h => h) (by rfl) hHeld (v := ?_) (fun w hSw => ?_) (fun _ => ?_)
  rotate_left
  · ((try dsimp only at hSw); go_simp; (try with_reducible rfl))
  simp only [Act.put, List.setIfInBounds_toArray, List.set_cons_zero, List.set_cons_succ]
  refine wpAnyH_done (by kernel_rfl) ?_ _
  clear hHeld
  by_cases ha : 0 ≤ va
  · have q1 : decide (0 ≤ va) = true := decide_eq_true ha
    have HO : Hid ((decide (0 ≤ va) && decide (0 ≤ vs)) = decide (0 ≤ vs)) := Lib.hid (by rw [q1, Bool.true_and])
    clear ha
    go_wp2
    go_ret3
    exact ⟨by rw [HO.out]; rfl, HZ4.out⟩
  · have q1 : decide (0 ≤ va) = false := decide_eq_false ha
    have HO : Hid ((decide (0 ≤ va) && decide (0 ≤ vs)) = false) := Lib.hid (by rw [q1, Bool.false_and])
    clear ha
    go_wp2
    go_ret3
    exact ⟨by rw [HO.out]; rfl, HZ4.out⟩
theorem refcounts_any (n : Nd) (w : World) (hin : n.In w w.heap.size) (hz : heftN n ≤ 1073741824) :
    Calls Try.prog 25 #[n.val] w fun e w' => e = .returned (.tuple #[.int .i64 (cntV n nmAddr 2), .int .i64 (cntV n nmSize 1), .bool (decide (0 ≤ cntV n nmAddr 2) && decide (0 ≤ cntV n nmSize 1))]) ∧ Below w.heap.size w w' := refcounts_all n w hin
end Go.Proofs.Ytbblgkidgecdpaa

/-! Rows of two cells an element: what a call has made shows them; append of one literal. -/
namespace Go.Proofs.Ytbblgkidgecdpaa
open Go.RowKit
set_option linter.unusedVariables false
set_option linter.unusedSimpArgs false

/-- A slice shows these pairs of values, two cells each, in a block below B. -/
def Cel2 (w : World) (B : Nat) (A : Option Addr) (n : Nat) (xs : List (Value × Value)) : Prop :=
  xs.length = n ∧ (0 < n → ∃ b o, A = some ⟨b, o, none⟩ ∧ b < B ∧ ∀ i (h : i < xs.length), w.cell? ⟨b, o + i * 2, none⟩ = some xs[i].1 ∧ w.cell? ⟨b, o + i * 2 + 1, none⟩ = some xs[i].2)
section
variable {w w' : World} {B B' n : Nat} {A : Option Addr} {xs : List (Value × Value)}
theorem Cel2.nil (w : World) (B : Nat) (A : Option Addr) : Cel2 w B A 0 [] := ⟨rfl, fun h => absurd h (Nat.lt_irrefl 0)⟩
theorem Cel2.keep (h : Cel2 w B A n xs) (hk : ∀ p : Addr, p.block < B → w'.cell? p = w.cell? p) : Cel2 w' B A n xs :=
  ⟨h.1, fun hn => by
    obtain ⟨b, o, e, hb, hc⟩ := h.2 hn
    exact ⟨b, o, e, hb, fun i hi => ⟨(hk _ hb).trans (hc i hi).1, (hk _ hb).trans (hc i hi).2⟩⟩⟩
theorem Cel2.below (h : Cel2 w B A n xs) (hb : Below B w w') : Cel2 w' B A n xs := h.keep fun _ hp => hb.cell hp
theorem Cel2.more (h : Cel2 w B A n xs) (hB : B ≤ B') : Cel2 w B' A n xs :=
  ⟨h.1, fun hn => by
    obtain ⟨b, o, e, hb, hc⟩ := h.2 hn
    exact ⟨b, o, e, by omega, hc⟩⟩
theorem Cel2.on (h : Cel2 w w.heap.size A n xs) (hb : Below w.heap.size w w') : Cel2 w' w'.heap.size A n xs := (h.below hb).more hb.size
end
/-- Pairs, cell by cell. -/
def flat2 (xs : List (Value × Value)) : List Value := xs.flatMap fun x => [x.1, x.2]
theorem flat2_length (xs : List (Value × Value)) : (flat2 xs).length = xs.length * 2 := by
  induction xs with
  | nil => rfl
  | cons x r ih =>
    have e : flat2 (x :: r) = [x.1, x.2] ++ flat2 r := by simp [flat2]
    rw [e, List.length_append, ih]; simp; omega
theorem flat2_app (xs : List (Value × Value)) (x : Value × Value) : flat2 (xs ++ [x]) = flat2 xs ++ [x.1, x.2] := by simp [flat2]
theorem flat2_at : ∀ (xs : List (Value × Value)) (i : Nat) (h : i < xs.length), (flat2 xs)[i * 2]? = some xs[i].1 ∧ (flat2 xs)[i * 2 + 1]? = some xs[i].2
  | x :: r, 0, _ => by simp [flat2]
  | x :: r, i + 1, h => by
    have e : flat2 (x :: r) = x.1 :: x.2 :: flat2 r := by simp [flat2]
    have ih := flat2_at r i (by simpa using h)
    rw [e, show (i + 1) * 2 = i * 2 + 1 + 1 by omega]
    simpa using ih
/-- What a call has made shows its pairs. -/
theorem owned_cel2 {w : World} {base n : Nat} {e : TypeId} {v : Value} {xs : List (Value × Value)} (h : w.ownsRow base e 2 v n (flat2 xs)) : ∃ A c, v = .slice A n c ∧ Cel2 w w.heap.size A n xs ∧ n ≤ c ∧ c ≤ 9223372036854775807 ∧ (∀ b, v.ownBlock = some b → base ≤ b ∧ b < w.heap.size) := by
  obtain ⟨hl, ⟨rfl, rfl⟩ | ⟨g, cap, cur, rfl, hb, hg, hnc, hcm, hsz, htk⟩⟩ := h
  · rw [flat2_length] at hl
    obtain rfl : xs = [] := List.eq_nil_of_length_eq_zero (by omega)
    exact ⟨none, 0, rfl, Cel2.nil _ _ _, Nat.le_refl _, by omega, fun b h => by simp [Value.ownBlock] at h⟩
  · rw [flat2_length] at hl
    have hlz : xs.length = n := by omega
    have hlt := (Array.getElem?_eq_some_iff.1 hg).1
    have hcell : ∀ k, k < n * 2 → w.cell? ⟨g, k, none⟩ = (flat2 xs)[k]? := fun k hk => by
      have h1 : (flat2 xs)[k]? = cur[k]? := by
        rw [← htk, List.getElem?_take_of_lt hk, Array.getElem?_toList]
      rw [h1]
      simp [World.cell?, hg]
    refine ⟨_, cap, rfl, ⟨hlz, fun hn => ⟨g, 0, rfl, hlt, fun i hi => ?_⟩⟩, hnc, hcm, fun b h => ?_⟩
    · obtain ⟨a1, a2⟩ := flat2_at xs i hi
      rw [Nat.zero_add, hcell _ (by omega), hcell _ (by omega)]
      exact ⟨a1, a2⟩
    · simp [Value.ownBlock] at h
      omega
/-- append of one pair, laid by the call itself. -/
theorem app_pair {t e : TypeId} {i0 : TypeInfo} {z : Value} {bytes : Nat} (ht : Try.prog.underlying t = some (.slice e)) (hi : Try.prog.info? e = some i0) (hz : i0.zero = some z) (hs1 : i0.size = 2) (hby : i0.bytes = bytes) (hzs : z.cells.size = 2)
    {w : World} {B n : Nat} {v : Value} {xs : List (Value × Value)} (h : w.ownsRow B e 2 v n (flat2 xs)) (x : Value × Value) (hx : x.1.oneCell' = true) (hx2 : x.2.oneCell' = true) (hbig : (n + 1) * bytes ≤ 140737488355328) (hlen : n + 1 ≤ 140737488355328) (hB : B ≤ w.heap.size) (ty : TypeId) :
    ∃ A' c' w', (Builtin.append_ #[t, t] ty #[v, .slice (some ⟨w.heap.size, 0, none⟩) 1 1]).run Try.prog (w.alloc (.cells #[x.1, x.2] e)) = .ok (.slice A' (n + 1) c') w' ∧ w'.ownsRow B e 2 (.slice A' (n + 1) c') (n + 1) (flat2 (xs ++ [x])) ∧ Below B w w' ∧ w.grownBy w' v.ownBlock ∧ ((Value.slice A' (n + 1) c').ownBlock = v.ownBlock ∨ (Value.slice A' (n + 1) c').ownBlock = some (w.heap.size + 1)) := by
  have h1 : (w.alloc (.cells #[x.1, x.2] e)).ownsRow B e 2 v n (flat2 xs) := h.alloc _
  have hb1 := (Below.refl B w).alloc hB (.cells #[x.1, x.2] e)
  obtain ⟨v', w', r1, r2, r3, _, r5⟩ := run_append_own_at (P := Try.prog) (w.alloc (.cells #[x.1, x.2] e)) B t ty e i0 z 2 bytes ht hi hz hs1 hby hzs (by omega) v _ (flat2 xs) h1 ⟨w.heap.size, 0, none⟩ 1 1 [x.1, x.2] rfl
    (fun j u hu => by
      rw [addr_add, Nat.zero_add, World.cell?_alloc_new]
      rcases j with _ | _ | j
      · simpa using hu
      · simpa using hu
      · simp at hu)
    (fun u hu => by
      rcases List.mem_cons.1 hu with rfl | hu
      · exact hx
      · rw [List.mem_singleton.1 hu]; exact hx2) (by unfold maxLen; omega) hbig (by simp; omega)
  have r2' : w'.ownsRow B e 2 v' (n + 1) (flat2 (xs ++ [x])) := by rw [flat2_app]; exact r2
  obtain ⟨A', c', rfl, _⟩ := owned_cel2 r2'
  refine ⟨A', c', w', r1, r2', hb1.grown r3 (by simp; omega) (fun q hq => (h1.lt q hq).1), ?_, by simpa using r5⟩
  have hg0 := World.grownBy_alloc w (.cells #[x.1, x.2] e) v.ownBlock
  exact ⟨r3.os.trans hg0.os, r3.tape.trans hg0.tape, r3.output.trans hg0.output, Nat.le_trans hg0.size r3.size, fun k hk hne => (r3.block k (Nat.lt_of_lt_of_le hk hg0.size) hne).trans (hg0.block k hk hne)⟩
end Go.Proofs.Ytbblgkidgecdpaa

/-! Places: whether two are the same, and two lists of them: the document's answer. -/
namespace Go.Proofs.Ytbblgkidgecdpaa
open Go.RowKit
set_option linter.unusedVariables false
set_option linter.unusedSimpArgs false

/-- The first k are the same. -/
def Ev {α : Type} (xs ys : List α) (k : Nat) : Prop := ∀ j, j < k → xs[j]? = ys[j]?
theorem Ev.zero {α : Type} (xs ys : List α) : Ev xs ys 0 := fun j h => absurd h (Nat.not_lt_zero _)
theorem Ev.succ {α : Type} {xs ys : List α} {k : Nat} (h : Ev xs ys k) (he : xs[k]? = ys[k]?) : Ev xs ys (k + 1) := fun j hj => by
  rcases Nat.lt_succ_iff_lt_or_eq.1 hj with h' | rfl
  · exact h j h'
  · exact he
theorem Ev.all {α : Type} {xs ys : List α} {k : Nat} (h : Ev xs ys k) (hl : xs.length = ys.length) (hk : xs.length ≤ k) : xs = ys := by
  apply List.ext_getElem?
  intro i
  rcases Nat.lt_or_ge i k with hi | hi
  · exact h i hi
  · rw [List.getElem?_eq_none (by omega), List.getElem?_eq_none (by omega)]

/-- A slice shows these places. -/
def PlShow (w : World) (B : Nat) (A : Option Addr) (n : Nat) (ps : List (List Nat)) : Prop :=
  ∃ vs, Cel w B A n vs ∧ Two (PlV w 0 B none) vs ps
theorem PlShow.on {w w' : World} {A : Option Addr} {n : Nat} {ps : List (List Nat)} (h : PlShow w w.heap.size A n ps) (hb : Below w.heap.size w w') : PlShow w' w'.heap.size A n ps := by
  obtain ⟨vs, h1, h2⟩ := h
  exact ⟨vs, h1.on hb, h2.mono fun v p hv => hv.keep hb.size (fun a ha _ => hb.cell ha) (fun _ _ h => h)⟩
theorem PlRow.show {w : World} {lo : Nat} {v : Value} {ps : List (List Nat)} (h : PlRow w lo v ps) : ∃ A c, v = .slice A ps.length c ∧ PlShow w w.heap.size A ps.length ps ∧ ps.length ≤ c ∧ c ≤ 9223372036854775807 := by
  obtain ⟨vs, h1, h2⟩ := h.row
  obtain ⟨A, c, e, hc, h3, h4, _⟩ := owned_cel h1
  refine ⟨A, c, e, ⟨vs, hc, h2.mono fun v p hv => ?_⟩, h3, h4⟩
  obtain ⟨A, c, e, hc, h1, h2, h3⟩ := hv
  exact ⟨A, c, e, hc, h1, h2, fun _ _ _ _ => ⟨Nat.zero_le _, by simp⟩⟩

end Go.Proofs.Ytbblgkidgecdpaa

/-! The places of a node and of all below it: the document's answer. -/
namespace Go.Proofs.Ytbblgkidgecdpaa
open Go.RowKit
set_option linter.unusedVariables false
set_option linter.unusedSimpArgs false

mutual
/-- The places of a node that stands at p, and of all below it, in order. -/
def placesN : Nd → List Nat → List (List Nat)
  | .mk _ _ _ _ _ _ ks, p => p :: placesL ks p 0
def placesL : List Nd → List Nat → Nat → List (List Nat)
  | [], _, _ => []
  | k :: r, p, i => placesN k (p ++ [i]) ++ placesL r p (i + 1)
end
theorem placesN_mk (n : Nd) (p : List Nat) : placesN n p = p :: placesL n.kids p 0 := by cases n; rw [placesN]; rfl
theorem placesL_append : ∀ (a b : List Nd) (p : List Nat) (i : Nat), placesL (a ++ b) p i = placesL a p i ++ placesL b p (i + a.length)
  | [], b, p, i => by simp [placesL]
  | x :: a, b, p, i => by
    simp only [List.cons_append, placesL, placesL_append a b, List.append_assoc, List.length_cons]
    congr 3; omega
theorem placesL_next (ks : List Nd) (p : List Nat) (j : Nat) (h : j < ks.length) : placesL (ks.take (j + 1)) p 0 = placesL (ks.take j) p 0 ++ placesN ks[j] (p ++ [j]) := by
  rw [take_next ks j h, placesL_append]
  simp [placesL, Nat.min_eq_left (Nat.le_of_lt h)]
/-- How many they are, and how long: by the node's weight. -/
theorem places_len : ∀ (n : Nd) (p : List Nat), (placesN n p).length ≤ heftN n ∧ ∀ q ∈ placesN n p, q.length ≤ p.length + heftN n := by
  refine Nd.ind ?_
  intro n ih p
  have hl : ∀ (r : List Nd) (i : Nat), (∀ k ∈ r, k ∈ n.kids) → (placesL r p i).length ≤ heftL r ∧ ∀ q ∈ placesL r p i, q.length ≤ p.length + 1 + heftL r := by
    intro r
    induction r with
    | nil => intro i _; simp [placesL]
    | cons k r ihr =>
      intro i hr
      obtain ⟨a1, a2⟩ := ih k (hr k (by simp)) (p ++ [i])
      obtain ⟨b1, b2⟩ := ihr (i + 1) (fun x hx => hr x (by simp [hx]))
      rw [placesL, heftL]
      refine ⟨by rw [List.length_append]; omega, fun q hq => ?_⟩
      rcases List.mem_append.1 hq with h | h
      · have := a2 q h; simp at this; omega
      · have := b2 q h; omega
  obtain ⟨h1, h2⟩ := hl n.kids 0 (fun _ h => h)
  have e : heftN n = 16 + n.name.size + (n.props.map heftP).sum + heftL n.kids := by cases n; rw [heftN]; rfl
  rw [placesN_mk]
  refine ⟨by simp only [List.length_cons]; omega, fun q hq => ?_⟩
  rcases List.mem_cons.1 hq with rfl | h
  · omega
  · have := h2 q h; omega

theorem wp_app {P : Program} {w w' : World} {o : Oper} {a : Act} {K : Act → World → Prop} {Q : Exit → Act → World → Prop} {t u : TypeId} (s x : Operand) (ho : o.op = .call { callee := .builtin .append, args := #[s, x], argTypes := #[t, u] })
    (y z : Value) (hs : a.eval s = y) (hx : a.eval x = z) {v : Value} (hr : (Builtin.append_ #[t, u] o.type #[y, z]).run P w = .ok v w') (hK : K (a.put o.dst v) w') : o.wp P a w K Q := by
  unfold Oper.wp execOp
  simp only [ho, resolve, invoke, builtin, Sem.run_bind, Sem.run_pure, Result.andThen_ok, List.map_toArray, List.map_cons, List.map_nil, hs, hx, hr]
  exact hK
theorem own_new (W : World) (B : Nat) (hB : B ≤ W.heap.size) : (W.alloc (.cells #[] 3)).ownsRow B 3 1 (.slice (some ⟨W.heap.size, 0, none⟩) 0 0) 0 (ints []) := World.ownsRow_made W #[] 0 hB (Nat.zero_le _) rfl
/-- A row of one number. -/
theorem one_new (W : World) (j : Nat) : Cel (W.alloc (.cells #[Value.int .i64 (j : Int)] 3)) (W.heap.size + 1) (some ⟨W.heap.size, 0, none⟩) 1 (ints [j]) :=
  ⟨rfl, fun _ => ⟨W.heap.size, 0, rfl, Nat.lt_succ_self _, fun i hi => by
    obtain rfl : i = 0 := by omega
    exact World.cell?_alloc_new _ _ _ _⟩⟩
theorem one_kept {W W' : World} {g r j : Nat} (h : Cel W (g + 1) (some ⟨g, 0, none⟩) 1 (ints [j])) (hg : W.grownBy W' (some r)) (hne : g ≠ r ∧ g < W.heap.size) : Cel W' (g + 1) (some ⟨g, 0, none⟩) 1 (ints [j]) :=
  ⟨rfl, fun _ => ⟨g, 0, rfl, Nat.lt_succ_self _, fun i hi => by
    obtain ⟨b, o, e, _, hc⟩ := h.2 (by omega)
    simp only [Option.some.injEq, Addr.mk.injEq] at e
    obtain ⟨rfl, rfl, _⟩ := e
    rw [← hc i hi]
    exact World.cell?_of_block (w := W) (hg.block _ hne.2 (fun e => hne.1 (Option.some.inj e)))⟩⟩
theorem Cel.below' {W : World} {g j : Nat} (h : Cel W (g + 1) (some ⟨g, 0, none⟩) 1 (ints [j])) (o : Obj) : Cel (W.alloc o) (g + 1) (some ⟨g, 0, none⟩) 1 (ints [j]) :=
  ⟨h.1, fun h0 => by
    obtain ⟨b, q, e, hb, hc⟩ := h.2 h0
    exact ⟨b, q, e, hb, fun i hi => by rw [← hc i hi]; exact Lib.cell?_alloc_some o ((hc i hi).trans (List.getElem?_eq_getElem (by simpa using hi))) |>.trans ((hc i hi).trans (List.getElem?_eq_getElem (by simpa using hi))).symm⟩⟩
theorem PlV.re {w : World} {lo lo' hi : Nat} {own own' : Option Nat} {v : Value} {p : List Nat} (h : PlV w lo hi own v p) (hn : ∀ b, lo ≤ b → b < hi → own ≠ some b → lo' ≤ b ∧ own' ≠ some b) : PlV w lo' hi own' v p := by
  obtain ⟨A, c, e, hc, h1, h2, h3⟩ := h
  refine ⟨A, c, e, hc, h1, h2, fun h0 b o e => ?_⟩
  obtain ⟨h4, h5⟩ := h3 h0 b o e
  obtain ⟨b', o', e', hb, _⟩ := hc.2 h0
  rw [e] at e'
  simp only [Option.some.injEq, Addr.mk.injEq] at e'
  exact hn b h4 (by omega) h5
theorem PlV.one {w : World} {lo hi : Nat} {own : Option Nat} {v : Value} {p : List Nat} (h : PlV w lo hi own v p) : v.oneCell' = true := by
  obtain ⟨A, c, rfl, _⟩ := h
  rfl
theorem two_one {w : World} {lo hi : Nat} {own : Option Nat} : ∀ {vs : List Value} {ps : List (List Nat)}, Two (PlV w lo hi own) vs ps → ∀ u ∈ vs, u.oneCell' = true
  | _, _, .nil, u, h => by cases h
  | _, _, .cons a t, u, h => by
    rcases List.mem_cons.1 h with rfl | h
    · exact a.one
    · exact two_one t u h
theorem PlRow.low {w : World} {lo lo' : Nat} {v : Value} {ps : List (List Nat)} (h : PlRow w lo v ps) (hl : lo' ≤ lo) : PlRow w lo' v ps := by
  obtain ⟨vs, h1, h2⟩ := h.row
  refine ⟨vs, ⟨h1.1, ?_⟩, h2.mono fun x p hx => hx.re fun b hb _ hne => ⟨by omega, hne⟩⟩
  rcases h1.2 with h | ⟨g, cap, cur, e, hb, r⟩
  · exact .inl h
  · exact .inr ⟨g, cap, cur, e, by omega, r⟩
/-- Nothing that was there has been touched. -/
theorem PlRow.on {w w' : World} {lo : Nat} {v : Value} {ps : List (List Nat)} (h : PlRow w lo v ps) (hb : Below w.heap.size w w') : PlRow w' lo v ps := by
  obtain ⟨vs, h1, h2⟩ := h.row
  exact ⟨vs, own_on h1 hb, h2.mono fun x p hx => hx.keep hb.size (fun a ha _ => hb.cell ha) (fun _ _ h => h)⟩
theorem PlRow.lt {w : World} {lo : Nat} {v : Value} {ps : List (List Nat)} (h : PlRow w lo v ps) : ∀ g, v.ownBlock = some g → lo ≤ g ∧ g < w.heap.size := by
  obtain ⟨vs, h1, _⟩ := h.row
  exact h1.lt
/-- A list of one place. -/
theorem one_place {w : World} {lo : Nat} {A : Option Addr} {c : Nat} {p : List Nat} {pl : Nat} (hpl : p.length = pl) (h : w.ownsRow lo 3 1 (.slice A pl c) pl (ints p)) (hlo : lo ≤ w.heap.size) : PlRow (w.alloc (.cells #[.slice A pl c] 44)) lo (.slice (some ⟨w.heap.size, 0, none⟩) 1 1) [p] := by
  subst hpl
  obtain ⟨A', c', e, hc, h1, h2, h3⟩ := owned_cel h
  simp only [Value.slice.injEq, true_and] at e
  obtain ⟨rfl, rfl⟩ := e
  have hb := (Below.refl w.heap.size w).alloc (Nat.le_refl _) (.cells #[.slice A p.length c] 44)
  refine ⟨[.slice A p.length c], ⟨rfl, .inr ⟨w.heap.size, 1, _, rfl, hlo, heap_alloc_new w _, Nat.le_refl _, by unfold maxLen; omega, rfl, rfl⟩⟩, .cons ⟨A, c, rfl, hc.on hb, h1, h2, fun h0 b o e => ?_⟩ .nil⟩
  subst e
  have := h3 b rfl
  exact ⟨this.1, fun e => by simp [Value.ownBlock] at e; omega⟩
theorem placesL_len : ∀ (r : List Nd) (p : List Nat) (i : Nat), (placesL r p i).length ≤ heftL r
  | [], p, i => by simp [placesL]
  | k :: r, p, i => by
    have h1 := (places_len k (p ++ [i])).1
    have h2 := placesL_len r p (i + 1)
    rw [placesL, heftL, List.length_append]; omega

end Go.Proofs.Ytbblgkidgecdpaa

/-! A node's windows: the document's answer. -/
namespace Go.Proofs.Ytbblgkidgecdpaa
open Go.RowKit
set_option linter.unusedVariables false
set_option linter.unusedSimpArgs false

/-- The number of the k bytes at a. -/
def cutN (zs : List Int) (a k : Nat) : Int := numTo ((zs.drop a).take k) 0 k
/-- The first m windows in steps of p and q bytes. -/
def wins (zs : List Int) (p q m : Nat) : List (Int × Int) := (List.range m).map fun j => (cutN zs (j * (p + q)) p, cutN zs (j * (p + q) + p) q)
theorem wins_next (zs : List Int) (p q m : Nat) : wins zs p q (m + 1) = wins zs p q m ++ [(cutN zs (m * (p + q)) p, cutN zs (m * (p + q) + p) q)] := by simp [wins, List.range_succ]
theorem wins_length (zs : List Int) (p q m : Nat) : (wins zs p q m).length = m := by simp [wins]
def winV (x : Int × Int) : Value × Value := (.int .u64 x.1, .int .u64 x.2)
def regName : ByteArray := ⟨#[114, 101, 103]⟩
/-- A node's windows: whether they may be, and they. -/
def regV (parent n : Nd) : Bool × List (Int × Int) :=
  match n.props.find? fun x => decide (x.name = regName) with
  | none => (true, [])
  | some x => if cntV parent nmAddr 2 ≤ 0 ∨ cntV parent nmSize 1 < 0 ∨ x.zs.length % (4 * (cntV parent nmAddr 2).toNat + 4 * (cntV parent nmSize 1).toNat) ≠ 0 then (false, [])
    else (true, wins x.zs (4 * (cntV parent nmAddr 2).toNat) (4 * (cntV parent nmSize 1).toNat) (x.zs.length / (4 * (cntV parent nmAddr 2).toNat + 4 * (cntV parent nmSize 1).toNat)))
theorem cntV_le {w : World} {B : Nat} {n : Nd} (h : n.In w B) (s : ByteArray) (d : Int) (hd : d ≤ 2) : cntV n s d ≤ 2 := by
  have := oneV_bound h s
  unfold cntV
  split
  · omega
  · split
    · exact hd
    · rename_i h1 h2
      have h3 : ¬ (2 < (oneV n s).1) := fun h => h1 (.inr h)
      omega

set_option maxHeartbeats 1000000 in
theorem refwide_any (A : Option Addr) (n c : Nat) (zs : List Int) (w : World) (B : Nat) (hs : Shows w B A n zs) (hn : n ≤ 8) (hnc : n ≤ c) (hc : c ≤ 9223372036854775807) :
    Calls Try.prog 26 #[.slice A n c] w fun e w' => e = .returned (.int .u64 (numTo zs 0 n)) ∧ w = w' := by
  rcases Nat.eq_zero_or_pos n with h0 | h0
  · subst h0
    obtain rfl : zs = [] := List.eq_nil_of_length_eq_zero hs.1
    have C : Hid (Calls Try.prog 43 #[.slice A 0 c, .int .i64 0, .int .i64 0] w fun e w' => e = .returned (.tuple #[.int .u64 0, .bool true]) ∧ w = w') := Lib.hid (by
      clear hs
      go_enter Try.func43, Try.ntmps43
      go_wp2_with fail
      go_loop [8, 27] (fun v i => v = .int .u64 0 ∧ i = .int .i64 0) (fun _ _ => 0)
      case atStart => exact ⟨rfl, rfl⟩
      case round =>
        obtain ⟨rfl, rfl⟩ := hrel
        go_wp2
        go_ret2
        exact ⟨rfl, rfl⟩)
    clear hs
    go_enter Try.func26, Try.ntmps26
    go_wp2_with fail
    refine C.out.mono ?_
    rintro e w' ⟨rfl, rfl⟩
    go_wp2
    go_ret
    exact ⟨rfl, rfl⟩
  · have C : Hid (Calls Try.prog 43 #[.slice A n c, .int .i64 0, .int .i64 n] w fun e w' => e = .returned (.tuple #[.int .u64 (numTo zs 0 n), .bool true]) ∧ w = w') := Lib.hid (number_yes A n c n 0 zs w B hs (by omega) (by omega) h0 hn)
    generalize numTo zs 0 n = v at *
    clear hs
    go_enter Try.func26, Try.ntmps26
    go_wp2_with fail
    refine C.out.mono ?_
    rintro e w' ⟨rfl, rfl⟩
    go_wp2
    go_ret
    exact ⟨rfl, rfl⟩
theorem size_u8x (w : World) : (Go.sizeOf 5).run Try.prog w = .ok 1 w := by kernel_rfl
theorem info_win : (Try.prog.info? 60).map (fun i => (i.zero, i.size, i.bytes)) = some (some (.agg #[.int .u64 0, .int .u64 0]), 2, 16) := by kernel_rfl



set_option maxRecDepth 20000 in
set_option maxHeartbeats 8000000 in
theorem refreg_any (parent n : Nd) (w : World) (hpn : parent.In w w.heap.size) (hin : n.In w w.heap.size) (hz1 : heftN parent ≤ 1073741824) (hz2 : heftN n ≤ 1073741824) :
    Calls Try.prog 35 #[parent.val, n.val] w fun e w' => (∃ A m c, e = .returned (.tuple #[.slice A m c, .bool (regV parent n).1]) ∧ Cel2 w' w'.heap.size A m ((regV parent n).2.map winV) ∧ m ≤ c ∧ c ≤ 9223372036854775807) ∧ Below w.heap.size w w' := by
  obtain ⟨r, hr⟩ : ∃ r, r = idxOf (n.props.map PV.name) regName := ⟨_, rfl⟩
  have CF := Lib.hid (fun W hW => reffind_any n regName W hW r hr)
  have HI := Lib.hid hin
  have HJ := Lib.hid hpn
  have HZ := Lib.hid (fun k (h : k < n.props.length) => Nat.le_trans (prop_heft h) hz2)
  have CC := Lib.hid (fun W (hW : Below w.heap.size w W) => refcounts_any parent W (Nd.In.more hW.size (hpn.under hW)) hz1)
  have hva := cntV_le hpn nmAddr 2 (by omega)
  have hvs := cntV_le hpn nmSize 1 (by omega)
  have HF : Hid ((r < 0 ∧ regV parent n = (true, [])) ∨ ∃ k : Nat, ∃ h : k < n.props.length, r = (k : Int) ∧ regV parent n = if cntV parent nmAddr 2 ≤ 0 ∨ cntV parent nmSize 1 < 0 ∨ n.props[k].zs.length % (4 * (cntV parent nmAddr 2).toNat + 4 * (cntV parent nmSize 1).toNat) ≠ 0 then (false, []) else (true, wins n.props[k].zs (4 * (cntV parent nmAddr 2).toNat) (4 * (cntV parent nmSize 1).toNat) (n.props[k].zs.length / (4 * (cntV parent nmAddr 2).toNat + 4 * (cntV parent nmSize 1).toNat)))) := Lib.hid (by
    rcases idx_or (n.props.map PV.name) regName with h | ⟨k, h1, h2, _⟩
    · exact .inl ⟨by omega, by rw [regV, find_none h]⟩
    · rw [List.length_map] at h1
      exact .inr ⟨k, h1, hr.trans h2, by rw [regV, find_at h1 h2]⟩)
  obtain ⟨O, hO⟩ : ∃ O, regV parent n = O := ⟨_, rfl⟩
  rw [hO] at HF ⊢
  generalize cntV parent nmAddr 2 = va at *
  generalize cntV parent nmSize 1 = vs at *
  have HVA := Lib.hid hva
  have HVS := Lib.hid hvs
  clear hr hin hpn hz1 hz2 hO hva hvs
  obtain ⟨nm, pa, pc, ps, ka, kc, ks⟩ := parent
  obtain ⟨nm2, pa2, pc2, ps2, ka2, kc2, ks2⟩ := n
  simp only [Nd.val, Nd.pv, Nd.kv, Nd.name, Nd.pa, Nd.pc, Nd.props, Nd.ka, Nd.kc, Nd.kids] at CF CC HF HZ ⊢
  have HB := Lib.hid (((Below.refl w.heap.size w).alloc (Nat.le_refl _) (.cells #[Value.string nm, .slice pa ps.length pc, .slice ka ks.length kc] 25)).alloc (by simp) (.cells #[Value.string nm2, .slice pa2 ps2.length pc2, .slice ka2 ks2.length kc2] 25))
  have BX : Hid (∀ W, Below (w.heap.size + 2) ((w.alloc (.cells #[Value.string nm, .slice pa ps.length pc, .slice ka ks.length kc] 25)).alloc (.cells #[Value.string nm2, .slice pa2 ps2.length pc2, .slice ka2 ks2.length kc2] 25)) W → W.cell? ⟨w.heap.size, 0, none⟩ = some (.string nm) ∧ W.cell? ⟨w.heap.size, 1, none⟩ = some (.slice pa ps.length pc) ∧ W.cell? ⟨w.heap.size, 2, none⟩ = some (.slice ka ks.length kc) ∧ W.cell? ⟨w.heap.size + 1, 1, none⟩ = some (.slice pa2 ps2.length pc2)) := Lib.hid (fun W h => by
    have e1 : (w.alloc (.cells #[Value.string nm, .slice pa ps.length pc, .slice ka ks.length kc] 25)).heap.size = w.heap.size + 1 := by simp
    have y : ∀ k, W.cell? ⟨w.heap.size, k, none⟩ = (w.alloc (.cells #[Value.string nm, .slice pa ps.length pc, .slice ka ks.length kc] 25)).cell? ⟨w.heap.size, k, none⟩ := fun k => (h.cell (p := ⟨w.heap.size, k, none⟩) (by show w.heap.size < _; omega)).trans (World.cell?_alloc_lt _ _ _ (by rw [e1]; exact Nat.lt_succ_self _))
    refine ⟨(y 0).trans (World.cell?_alloc_new _ _ _ _), (y 1).trans (World.cell?_alloc_new _ _ _ _), (y 2).trans (World.cell?_alloc_new _ _ _ _), ?_⟩
    refine (h.cell (p := ⟨w.heap.size + 1, 1, none⟩) (by show w.heap.size + 1 < _; omega)).trans ?_
    rw [← e1]
    exact World.cell?_alloc_new _ _ _ _)
  go_enter Try.func35, Try.ntmps35
  go_wp2_with fail
  refine (CF.out _ (Nd.In.more HB.out.size (HI.out.under HB.out))).mono ?_
  rintro e w1 ⟨rfl, hb⟩
  have HB1 := Lib.hid (HB.out.trans (hb.mono HB.out.size))
  have HX1 := Lib.hid (hb.mono (B' := w.heap.size + 2) (by simp))
  clear hb
  obtain ⟨x0, x1, x2, x3⟩ := BX.out _ HX1.out
  rcases HF.out with ⟨hr0, hv⟩ | ⟨k, hk, hrk, hv⟩
  · subst hv
    clear HF x0 x1 x2 x3
    go_wp2
    go_ret2
    exact ⟨⟨none, 0, 0, rfl, Cel2.nil _ _ _, Nat.le_refl _, by omega⟩, HB1.out⟩
  · subst hrk
    obtain ⟨b, o, e, _, _, c1⟩ := (HI.out.under HB1.out).pcell (i := k) hk
    obtain rfl : pa2 = _ := e
    replace c1 : _ = some (Value.slice ps2[k].addr ps2[k].zs.length ps2[k].cap) := c1
    have hp := (HI.out).prop (p := ps2[k]) (List.getElem_mem hk)
    have hz := HZ.out k hk
    have hpl : ps2.length ≤ pc2 ∧ pc2 ≤ 9223372036854775807 := HI.out.plen
    obtain ⟨hpl1, hpl2⟩ := hpl
    obtain ⟨P, hP⟩ : ∃ P, ps2[k] = P := ⟨_, rfl⟩
    replace hv : O = if va ≤ 0 ∨ vs < 0 ∨ P.zs.length % (4 * va.toNat + 4 * vs.toNat) ≠ 0 then (false, []) else (true, wins P.zs (4 * va.toNat) (4 * vs.toNat) (P.zs.length / (4 * va.toNat + 4 * vs.toNat))) := by rw [← hP]; exact hv
    rw [hP] at c1 hp hz
    obtain ⟨N, hN⟩ : ∃ N, P.zs.length = N := ⟨_, rfl⟩
    rw [hN] at c1 hz hv
    have HSH := Lib.hid (show Shows w w.heap.size P.addr N P.zs from hN ▸ hp.2.1)
    have hcap : N ≤ P.cap ∧ P.cap ≤ 9223372036854775807 := hN ▸ hp.2.2
    obtain ⟨pA, pzs, pcap⟩ : ∃ _ : Unit, ∃ _ : Unit, True := ⟨(), (), trivial⟩
    generalize P.addr = QA at *
    generalize P.cap = QC at *
    generalize P.zs = zs at *
    obtain ⟨hc1, hc2⟩ := hcap
    have HV := Lib.hid hv
    clear HF hv hp hP hN pA pzs pcap
    go_wp2_with fail
    refine (CC.out _ HB1.out).mono ?_
    rintro e w2 ⟨rfl, hb⟩
    have HB2 := Lib.hid (HB1.out.trans (hb.mono HB1.out.size))
    clear hb c1 x0 x1 x2 x3
    by_cases hok : 0 ≤ va ∧ 0 ≤ vs
    · obtain ⟨a, rfl⟩ : ∃ a : Nat, va = (a : Int) := ⟨va.toNat, by omega⟩
      obtain ⟨s, rfl⟩ : ∃ s : Nat, vs = (s : Int) := ⟨vs.toNat, by omega⟩
      have k1 : (decide ((0 : Int) ≤ (a : Int)) && decide ((0 : Int) ≤ (s : Int))) = true := by simp
      rw [k1]
      obtain ⟨p, hp⟩ : ∃ p : Nat, 4 * a = p := ⟨_, rfl⟩
      obtain ⟨q, hq⟩ : ∃ q : Nat, 4 * s = q := ⟨_, rfl⟩
      have hpi : (4 : Int) * (a : Int) = (p : Int) := by omega
      have hqi : (4 : Int) * (s : Int) = (q : Int) := by omega
      have hp8 : p ≤ 8 := by have := HVA.out; omega
      have hq8 : q ≤ 8 := by have := HVS.out; omega
      simp only [Int.toNat_natCast, hp, hq] at HV
      have HA0 := Lib.hid hp
      clear hok hp hq
      by_cases ha0 : a = 0
      · subst ha0
        have HO : Hid (O = (false, [])) := Lib.hid (by rw [HV.out, if_pos (.inl (by omega))])
        go_wp2
        go_ret2
        exact ⟨⟨none, 0, 0, by (rw [HO.out] <;> rfl), by rw [HO.out]; exact Cel2.nil _ _ _, Nat.le_refl _, by omega⟩, HB2.out⟩
      · have k2 : ((a : Int) == 0) = false := by rw [beq_eq_false_iff_ne]; omega
        have hp0 : 0 < p := by have := HA0.out; omega
        by_cases hrem : N % (p + q) = 0
        · have k3 : ((N : Int) % ((p : Int) + (q : Int)) != 0) = false := by
            rw [bne_eq_false_iff_eq]
            have : ((N % (p + q) : Nat) : Int) = 0 := by rw [hrem]; rfl
            rw [Int.natCast_emod] at this
            simpa using this
          obtain ⟨m, hm⟩ : ∃ m, N / (p + q) = m := ⟨_, rfl⟩
          have hN : N = m * (p + q) := by
            have h1 := Nat.div_add_mod N (p + q)
            rw [hrem, hm, Nat.mul_comm] at h1
            omega
          have HO : Hid (O = (true, wins zs p q m)) := Lib.hid (by rw [HV.out, if_neg (by rintro (h | h | h) <;> omega), hm])
          have HN := Lib.hid hN
          have hmN : m ≤ N := by rw [hN]; exact Nat.le_mul_of_pos_right m (by omega)
          obtain ⟨g2, hg2⟩ : ∃ g2, g2 = w2.heap.size := ⟨_, rfl⟩
          have HG2 := Lib.hid hg2
          clear hrem hm hN HV hg2
          go_wp2_with fail
          go_loopw [11, 12] (fun out i wr => ∃ j at_ : Nat, j ≤ m ∧ at_ = j * (p + q) ∧ i = .int .i64 at_ ∧ wr.ownsRow g2 60 2 out j (flat2 ((wins zs p q j).map winV)) ∧ Below g2 w2 wr) (fun _ i _ => N - (intOf i).toNat)
          case atStart => exact ⟨0, 0, Nat.zero_le _, by omega, rfl, World.ownsRow_nil _ _ _ _, Below.refl _ _⟩
          case round =>
            obtain ⟨j, at_, hj, hat, rfl, hown, hb⟩ := hrel
            have HO2 := Lib.hid hown
            have HBX := Lib.hid hb
            have HBW := Lib.hid (HB2.out.trans (hb.mono (by rw [HG2.out]; exact HB2.out.size)))
            obtain ⟨Ao, co, rfl, hcel, hco1, hco2, _⟩ := owned_cel2 hown
            have HCEL := Lib.hid hcel
            have HAT := Lib.hid hat
            by_cases hlt : j < m
            · have hle : at_ + (p + q) ≤ N := by
                rw [HN.out, hat, ← Nat.succ_mul]
                exact Nat.mul_le_mul_right _ hlt
              have hsl : ¬ ((at_ : Int) ≥ (N : Int)) := by omega
              have hNX := wins_next zs p q j
              rw [← hat] at hNX
              have HNX := Lib.hid hNX
              have HAT2 : Hid (at_ + p + q = (j + 1) * (p + q)) := Lib.hid (by rw [hat, Nat.succ_mul]; omega)
              have HS1 := Lib.hid ((HSH.out.below HBW.out).cut (l := at_) (h := at_ + p) (by omega) (by omega) hc1)
              have HS2 := Lib.hid ((HSH.out.below HBW.out).cut (l := at_ + p) (h := at_ + p + q) (by omega) (by omega) hc1)
              have R1 : ∀ W : World, (Instr.slice 65 (.slice QA N QC) (some (.int .i64 (at_ : Int))) (some (.int .i64 ((at_ : Int) + (p : Int)))) none).run Try.prog W = .ok (.slice (cutAt QA QC at_) (at_ + p - at_) (QC - at_)) W := fun W => run_cut Try.underlying65 size_u8x QA N QC _ _ at_ (at_ + p) rfl (by omega) (by omega) (by omega) W
              have R2 : ∀ W : World, (Instr.slice 65 (.slice QA N QC) (some (.int .i64 ((at_ : Int) + (p : Int)))) (some (.int .i64 ((at_ : Int) + (p : Int) + (q : Int)))) none).run Try.prog W = .ok (.slice (cutAt QA QC (at_ + p)) (at_ + p + q - (at_ + p)) (QC - (at_ + p))) W := fun W => run_cut Try.underlying65 size_u8x QA N QC _ _ (at_ + p) (at_ + p + q) (by omega) (by omega) (by omega) (by omega) W
              have z1 : at_ + p - at_ = p := by omega
              have z2 : at_ + p + q - (at_ + p) = q := by omega
              rw [z1] at HS1 R1
              rw [z2] at HS2 R2
              have CW1 := Lib.hid (refwide_any _ p (QC - at_) _ wr.drew _ HS1.out hp8 (by omega) (by omega))
              have CW2 := Lib.hid (refwide_any _ q (QC - (at_ + p)) _ wr.drew _ HS2.out hq8 (by omega) (by omega))
              rw [show numTo ((zs.drop at_).take p) 0 p = cutN zs at_ p from rfl] at CW1
              rw [show numTo ((zs.drop (at_ + p)).take q) 0 q = cutN zs (at_ + p) q from rfl] at CW2
              generalize cutN zs at_ p = n1 at *
              generalize cutN zs (at_ + p) q = n2 at *
              obtain ⟨i0, hi, hz, hs1, hby⟩ := info_any info_win
              obtain ⟨A', c', w5, r5, o5, b5, _, _⟩ := app_pair Try.underlying56 hi hz hs1 hby rfl (w := wr.drew) hown.drew (.int .u64 n1, .int .u64 n2) rfl rfl (by omega) (by omega) (by have := hb.size; have := HG2.out; show g2 ≤ wr.heap.size; omega) 56
              have HO5 : Hid (w5.ownsRow g2 60 2 (.slice A' (j + 1) c') (j + 1) (flat2 ((wins zs p q j).map winV ++ [(.int .u64 n1, .int .u64 n2)]))) := Lib.hid o5
              have HB5 := Lib.hid ((Below.refl g2 wr).drew.trans b5)
              have W1 : IntKind.i64.wrap (p : Int) = (p : Int) := IntWalk.i64_in _ (by omega)
              have W2 : IntKind.i64.wrap (q : Int) = (q : Int) := IntWalk.i64_in _ (by omega)
              have W3 : IntKind.i64.wrap ((at_ : Int) + (p : Int)) = (at_ : Int) + (p : Int) := IntWalk.i64_in _ (by omega)
              have W4 : IntKind.i64.wrap ((at_ : Int) + (p : Int) + (q : Int)) = (at_ : Int) + (p : Int) + (q : Int) := IntWalk.i64_in _ (by omega)
              clear hown hb hcel hat hNX z1 z2 hi hz hs1 hby o5 b5 HS1 HS2
              go_wp2_with fail
              refine wp_region_held_drew (S := fun _ => True) (by kernel_rfl) trivial (fun hHeld => ?_)
              refine held_take 0 rfl (by kernel_rfl) (by kernel_rfl) (by kernel_rfl) (fun _ _ _ h => h) (by rfl) hHeld (v := ?_) (fun w hSw => ?_) (fun _ => ?_)
              rotate_left
              · ((try dsimp only at hSw); go_simp; (try with_reducible rfl))
              simp only [Act.put, List.setIfInBounds_toArray, List.set_cons_zero, List.set_cons_succ]
              refine held_take 1 rfl (by kernel_rfl) (by kernel_rfl) (by kernel_rfl) (fun _ _ _ h => h) (by rfl) hHeld (v := ?_) (fun w hSw => ?_) (fun _ => ?_)
              rotate_left
              · ((try dsimp only at hSw); go_simp; (try with_reducible rfl))
              simp only [Act.put, List.setIfInBounds_toArray, List.set_cons_zero, List.set_cons_succ]
              refine held_take 2 rfl (by kernel_rfl) (by kernel_rfl) (by kernel_rfl) (fun _ _ _ h => h) (by rfl) hHeld (v := ?_) (fun w hSw => ?_) (fun _ => ?_)
              rotate_left
              · ((try dsimp only at hSw); go_simp; (try with_reducible rfl))
              simp only [Act.put, List.setIfInBounds_toArray, List.set_cons_zero, List.set_cons_succ]
              refine held_take 3 rfl (by kernel_rfl) (by kernel_rfl) (by kernel_rfl) (fun _ _ _ h => h) (by rfl) hHeld (v := ?_) (fun w hSw => ?_) (fun _ => ?_)
              rotate_left
              · ((try dsimp only at hSw); go_simp; (try with_reducible rfl))
              simp only [Act.put, List.setIfInBounds_toArray, List.set_cons_zero, List.set_cons_succ]
              refine held_take 4 rfl (by kernel_rfl) (by kernel_rfl) (by kernel_rfl) (fun _ _ _ h => h) (by rfl) hHeld (v := ?_) (fun w hSw => ?_) (fun _ => ?_)
              rotate_left
              · ((try dsimp only at hSw); go_simp; (try with_reducible rfl))
              simp only [Act.put, List.setIfInBounds_toArray, List.set_cons_zero, List.set_cons_succ]
              refine held_take 5 rfl (by kernel_rfl) (by kernel_rfl) (by kernel_rfl) (fun _ _ _ h => h) (by rfl) hHeld (v := ?_) (fun w hSw => ?_) (fun _ => ?_)
              rotate_left
              · ((try dsimp only at hSw); go_simp; (try with_reducible rfl))
              simp only [Act.put, List.setIfInBounds_toArray, List.set_cons_zero, List.set_cons_succ]
              refine held_take 6 rfl (by kernel_rfl) (by kernel_rfl) (by kernel_rfl) (fun _ _ _ h => h) (by rfl) hHeld (v := ?_) (fun w hSw => ?_) (fun _ => ?_)
              rotate_left
              · ((try dsimp only at hSw); go_simp; (try with_reducible rfl))
              simp only [Act.put, List.setIfInBounds_toArray, List.set_cons_zero, List.set_cons_succ]
              refine held_take 7 rfl (by kernel_rfl) (by kernel_rfl) (by kernel_rfl) (fun _ _ _ h => h) (by rfl) hHeld (v := ?_) (fun w hSw => ?_) (fun _ => ?_)
              rotate_left
              · ((try dsimp only at hSw); go_simp; (try with_reducible rfl))
              simp only [Act.put, List.setIfInBounds_toArray, List.set_cons_zero, List.set_cons_succ]
              refine held_take 9 rfl (by kernel_rfl) (by kernel_rfl) (by kernel_rfl) (fun _ _ _ h => h) (by rfl) hHeld (v := ?_) (fun w hSw => ?_) (fun _ => ?_)
              rotate_left
              · ((try dsimp only at hSw); go_simp; (try with_reducible rfl))
              simp only [Act.put, List.setIfInBounds_toArray, List.set_cons_zero, List.set_cons_succ]
              refine held_take 10 rfl (by kernel_rfl) (by kernel_rfl) (by kernel_rfl) (fun _ _ _ h => h) (by rfl) hHeld (v := ?_) (fun w hSw => ?_) (fun _ => ?_)
              rotate_left
              · ((try dsimp only at hSw); go_simp; (try with_reducible rfl))
              simp only [Act.put, List.setIfInBounds_toArray, List.set_cons_zero, List.set_cons_succ]
              refine held_take 11 rfl (by kernel_rfl) (by kernel_rfl) (by kernel_rfl) (fun _ _ _ h => h) (by rfl) hHeld (v := ?_) (fun w hSw => ?_) (fun _ => ?_)
              rotate_left
              · ((try dsimp only at hSw); go_simp; (try with_reducible rfl))
              simp only [Act.put, List.setIfInBounds_toArray, List.set_cons_zero, List.set_cons_succ]
              refine held_take 12 rfl (by kernel_rfl) (by kernel_rfl) (by kernel_rfl) (fun _ _ _ h => h) (by rfl) hHeld (v := ?_) (fun w hSw => ?_) (fun _ => ?_)
              rotate_left
              · ((try dsimp only at hSw); go_simp; (try with_reducible rfl))
              simp only [Act.put, List.setIfInBounds_toArray, List.set_cons_zero, List.set_cons_succ]
              refine held_take 13 rfl (by kernel_rfl) (by kernel_rfl) (by kernel_rfl) (fun _ _ _ h => h) (by rfl) hHeld (v := ?_) (fun w hSw => ?_) (fun _ => ?_)
              rotate_left
              · ((try dsimp only at hSw); go_simp; (try with_reducible rfl))
              simp only [Act.put, List.setIfInBounds_toArray, List.set_cons_zero, List.set_cons_succ]
              refine held_take 14 rfl (by kernel_rfl) (by kernel_rfl) (by kernel_rfl) (fun _ _ _ h => h) (by rfl) hHeld (v := ?_) (fun w hSw => ?_) (fun _ => ?_)
              rotate_left
              · ((try dsimp only at hSw); go_simp; (try with_reducible rfl))
              simp only [Act.put, List.setIfInBounds_toArray, List.set_cons_zero, List.set_cons_succ]
              refine held_take 15 rfl (by kernel_rfl) (by kernel_rfl) (by kernel_rfl) (fun _ _ _ h => h) (by rfl) hHeld (v := ?_) (fun w hSw => ?_) (fun _ => ?_)
              rotate_left
              · ((try dsimp only at hSw); go_simp; (try with_reducible rfl))
              simp only [Act.put, List.setIfInBounds_toArray, List.set_cons_zero, List.set_cons_succ]
              refine held_take 16 rfl (by kernel_rfl) (by kernel_rfl) (by kernel_rfl) (fun _ _ _ h => h) (by rfl) hHeld (v := ?_) (fun w hSw => ?_) (fun _ => ?_)
              rotate_left
              · ((try dsimp only at hSw); go_simp; (try with_reducible rfl))
              simp only [Act.put, List.setIfInBounds_toArray, List.set_cons_zero, List.set_cons_succ]
              refine held_take 17 rfl (by kernel_rfl) (by kernel_rfl) (by kernel_rfl) (fun _ _ _ h => h) (by rfl) hHeld (v := ?_) (fun w hSw => ?_) (fun _ => ?_)
              rotate_left
              · ((try dsimp only at hSw); go_simp; (try with_reducible rfl))
              simp only [Act.put, List.setIfInBounds_toArray, List.set_cons_zero, List.set_cons_succ]
              refine held_take 18 rfl (by kernel_rfl) (by kernel_rfl) (by kernel_rfl) (fun _ _ _ h => h) (by rfl) hHeld (v := ?_) (fun w hSw => ?_) (fun _ => ?_)
              rotate_left
              · ((try dsimp only at hSw); go_simp; (try with_reducible rfl))
              simp only [Act.put, List.setIfInBounds_toArray, List.set_cons_zero, List.set_cons_succ]
              refine held_take 19 rfl (by kernel_rfl) (by kernel_rfl) (by kernel_rfl) (fun _ _ _ h => h) (by rfl) hHeld (v := ?_) (fun w hSw => ?_) (fun _ => ?_)
              rotate_left
              · ((try dsimp only at hSw); go_simp; (try with_reducible rfl))
              simp only [Act.put, List.setIfInBounds_toArray, List.set_cons_zero, List.set_cons_succ]
              refine held_take 20 rfl (by kernel_rfl) (by kernel_rfl) (by kernel_rfl) (fun _ _ _ h => h) (by rfl) hHeld (v := ?_) (fun w hSw => ?_) (fun _ => ?_)
              rotate_left
              · ((try dsimp only at hSw); go_simp; (try with_reducible rfl))
              simp only [Act.put, List.setIfInBounds_toArray, List.set_cons_zero, List.set_cons_succ]
              refine held_take 21 rfl (by kernel_rfl) (by kernel_rfl) (by kernel_rfl) (fun _ _ _ h => h) (by rfl) hHeld (v := ?_) (fun w hSw => ?_) (fun _ => ?_)
              rotate_left
              · ((try dsimp only at hSw); go_simp; (try with_reducible rfl))
              simp only [Act.put, List.setIfInBounds_toArray, List.set_cons_zero, List.set_cons_succ]
              refine held_call 8 (by kernel_rfl) rfl (by rfl) (fun K hK => ?_)
              go_simp
              refine CW1.out.mono ?_
              rintro e w' ⟨rfl, rfl⟩
              dsimp only
              refine hK.out _ _ trivial (fun hHeld => ?_)
              clear hK K
              refine held_call 22 (by kernel_rfl) rfl (by rfl) (fun K hK => ?_)
              go_simp
              refine CW2.out.mono ?_
              rintro e w' ⟨rfl, rfl⟩
              dsimp only
              refine hK.out _ _ trivial (fun hHeld => ?_)
              clear hK K
              refine held_take 23 rfl (by kernel_rfl) (by kernel_rfl) (by kernel_rfl) (fun _ _ _ h => h) (by rfl) hHeld (v := ?_) (fun w hSw => ?_) (fun _ => ?_)
              rotate_left
              · ((try dsimp only at hSw); go_simp; (try with_reducible rfl))
              simp only [Act.put, List.setIfInBounds_toArray, List.set_cons_zero, List.set_cons_succ]
              refine held_call 24 (by kernel_rfl) rfl (by rfl) (fun K hK => ?_)
              go_simp
              refine hK.out _ _ trivial (fun hHeld => ?_)
              clear hK K
              refine held_call 25 (by kernel_rfl) rfl (by rfl) (fun K hK => ?_)
              refine wp_app (.tmp 57) (.tmp 81) rfl _ _ rfl rfl r5 ?_
              simp only [Act.put, List.setIfInBounds_toArray, List.set_cons_zero, List.set_cons_succ]
              refine hK.out _ _ trivial (fun hHeld => ?_)
              clear hK K
              refine held_take 26 rfl (by kernel_rfl) (by kernel_rfl) (by kernel_rfl) (fun _ _ _ h => h) (by rfl) hHeld (v := ?_) (fun w hSw => ?_) (fun _ => ?_)
              rotate_left
              · ((try dsimp only at hSw); go_simp; (try with_reducible rfl))
              simp only [Act.put, List.setIfInBounds_toArray, List.set_cons_zero, List.set_cons_succ]
              refine wpAnyH_done (by kernel_rfl) ?_ _
              clear hHeld
              clear r5
              go_wp2
              go_roundw
              case rel => exact ⟨j + 1, at_ + p + q, by omega, HAT2.out, by go_num, by rw [HNX.out, List.map_append]; exact HO5.out, HBX.out.trans HB5.out⟩
              case measure => simp [intOf]; omega
            · obtain rfl : j = m := by omega
              have hge : ((at_ : Int) ≥ (N : Int)) := by rw [HN.out, hat]; exact Int.le_refl _
              have hlt' : ¬ ((at_ : Int) < (N : Int)) := by omega
              clear hown hb hcel hat
              go_wp2
              go_ret2
              exact ⟨⟨Ao, j, co, by (rw [HO.out] <;> rfl), by rw [HO.out]; exact HCEL.out, hco1, hco2⟩, HBW.out⟩
        · have k3 : ((N : Int) % ((p : Int) + (q : Int)) != 0) = true := by
            rw [bne_iff_ne]
            intro h
            have h1 : ((N % (p + q) : Nat) : Int) = 0 := by rw [Int.natCast_emod]; simpa using h
            omega
          have HO : Hid (O = (false, [])) := Lib.hid (by rw [HV.out, if_pos (.inr (.inr hrem))])
          clear hrem HV
          go_wp2
          go_ret2
          exact ⟨⟨none, 0, 0, by (rw [HO.out] <;> rfl), by rw [HO.out]; exact Cel2.nil _ _ _, Nat.le_refl _, by omega⟩, HB2.out⟩
    · have k1 : (decide ((0 : Int) ≤ va) && decide ((0 : Int) ≤ vs)) = false := by
        rw [Bool.and_eq_false_iff, decide_eq_false_iff_not, decide_eq_false_iff_not]
        omega
      rw [k1]
      have HO : Hid (O = (false, [])) := Lib.hid (by
        rw [HV.out, if_pos]
        by_cases h1 : va ≤ 0
        · exact .inl h1
        · exact .inr (.inl (by omega)))
      clear hok
      go_wp2
      go_ret2
      exact ⟨⟨none, 0, 0, by (rw [HO.out] <;> rfl), by rw [HO.out]; exact Cel2.nil _ _ _, Nat.le_refl _, by omega⟩, HB2.out⟩
end Go.Proofs.Ytbblgkidgecdpaa

/-! Windows of addresses: the document's answers. -/
namespace Go.Proofs.Ytbblgkidgecdpaa
open Go.RowKit
set_option linter.unusedVariables false
set_option linter.unusedSimpArgs false

def topA : Int := 18446744073709551615
/-- A number of 64 bits. -/
def U64 (x : Int) : Prop := 0 ≤ x ∧ x ≤ 18446744073709551615
def wholeB (a s : Int) : Bool := decide (s = 0) || decide (s - 1 ≤ 18446744073709551615 - a)
def insideB (wa ws a s : Int) : Bool := decide (s ≠ 0) && decide (ws ≠ 0) && wholeB a s && wholeB wa ws && (decide (wa ≤ a) && decide (a + (s - 1) ≤ wa + (ws - 1)))
def lastA (a s : Int) : Int := if wholeB a s = true then a + (s - 1) else 18446744073709551615
def meetB (a s b t : Int) : Bool := decide (s ≠ 0) && decide (t ≠ 0) && (decide (a ≤ lastA b t) && decide (b ≤ lastA a s))

theorem refwhole_any (a s : Int) (w : World) (ha : U64 a) (hs : U64 s) (r : Bool) (hr : wholeB a s = r) :
    Calls Try.prog 33 #[.int .u64 a, .int .u64 s] w fun e w' => e = .returned (.bool r) ∧ w = w' := by
  obtain ⟨a0, a1⟩ := ha
  obtain ⟨s0, s1⟩ := hs
  by_cases h0 : s = 0
  · subst h0
    obtain rfl : r = true := by rw [← hr]; rfl
    go_enter Try.func33, Try.ntmps33
    go_wp2
    go_ret
    exact ⟨rfl, rfl⟩
  · have k1 : (s == 0) = false := by rw [beq_eq_false_iff_ne]; exact h0
    have w1 : IntKind.u64.wrap (s - 1) = s - 1 := IntWalk.u64_in _ (by omega)
    have w2 : IntKind.u64.wrap (18446744073709551615 - a) = 18446744073709551615 - a := IntWalk.u64_in _ (by omega)
    have hr' : decide (s - 1 ≤ 18446744073709551615 - a) = r := by rw [← hr, wholeB, decide_eq_false h0]; rfl
    clear hr
    go_enter Try.func33, Try.ntmps33
    go_wp2
    go_ret
    exact ⟨rfl, rfl⟩

set_option maxHeartbeats 2000000 in
theorem refinside_any (wa ws a s : Int) (w : World) (h1 : U64 wa) (h2 : U64 ws) (h3 : U64 a) (h4 : U64 s) (r : Bool) (hr : insideB wa ws a s = r) :
    Calls Try.prog 32 #[.agg #[.int .u64 wa, .int .u64 ws], .int .u64 a, .int .u64 s] w fun e w' => e = .returned (.bool r) ∧ Below w.heap.size w w' := by
  have HB := Lib.hid ((Below.refl w.heap.size w).alloc (Nat.le_refl _) (.cells #[.int .u64 wa, .int .u64 ws] 60))
  obtain ⟨x, hx⟩ : ∃ x, wholeB a s = x := ⟨_, rfl⟩
  obtain ⟨y, hy⟩ : ∃ y, wholeB wa ws = y := ⟨_, rfl⟩
  have C1 := Lib.hid (fun W => refwhole_any a s W h3 h4 x hx)
  have C2 := Lib.hid (fun W => refwhole_any wa ws W h1 h2 y hy)
  have HR : Hid ((decide (s ≠ 0) && decide (ws ≠ 0) && x && y && (decide (wa ≤ a) && decide (a + (s - 1) ≤ wa + (ws - 1)))) = r) := Lib.hid (by rw [← hx, ← hy]; exact hr)
  have HX := Lib.hid hx
  have HY := Lib.hid hy
  clear hr hx hy
  obtain ⟨h1a, h1b⟩ := h1
  obtain ⟨h2a, h2b⟩ := h2
  obtain ⟨h3a, h3b⟩ := h3
  obtain ⟨h4a, h4b⟩ := h4
  by_cases hs0 : s = 0
  · subst hs0
    obtain rfl : r = false := by rw [← HR.out]; rfl
    go_enter Try.func32, Try.ntmps32
    go_wp2
    go_ret
    exact ⟨rfl, HB.out⟩
  have k1 : (s == 0) = false := by rw [beq_eq_false_iff_ne]; exact hs0
  by_cases hw0 : ws = 0
  · subst hw0
    obtain rfl : r = false := by rw [← HR.out]; simp
    clear hs0
    go_enter Try.func32, Try.ntmps32
    go_wp2
    go_ret
    exact ⟨rfl, HB.out⟩
  have k2 : (ws == 0) = false := by rw [beq_eq_false_iff_ne]; exact hw0
  cases x
  · obtain rfl : r = false := by rw [← HR.out]; simp
    clear hs0 hw0
    go_enter Try.func32, Try.ntmps32
    go_wp2_with fail
    refine (C1.out _).mono ?_
    rintro e w1 ⟨rfl, rfl⟩
    go_wp2
    go_ret
    exact ⟨rfl, HB.out⟩
  cases y
  · obtain rfl : r = false := by rw [← HR.out]; simp
    clear hs0 hw0
    go_enter Try.func32, Try.ntmps32
    go_wp2_with fail
    refine (C1.out _).mono ?_
    rintro e w1 ⟨rfl, rfl⟩
    go_wp2_with fail
    refine (C2.out _).mono ?_
    rintro e w1 ⟨rfl, rfl⟩
    go_wp2
    go_ret
    exact ⟨rfl, HB.out⟩
  have hbx : s - 1 ≤ 18446744073709551615 - a := by have := HX.out; rw [wholeB, decide_eq_false hs0] at this; exact of_decide_eq_true this
  have hby : ws - 1 ≤ 18446744073709551615 - wa := by have := HY.out; rw [wholeB, decide_eq_false hw0] at this; exact of_decide_eq_true this
  have hR : (decide (wa ≤ a) && decide (a + (s - 1) ≤ wa + (ws - 1))) = r := by have := HR.out; rwa [decide_eq_true hs0, decide_eq_true hw0, Bool.true_and, Bool.true_and, Bool.true_and, Bool.true_and] at this
  have w1' : IntKind.u64.wrap (s - 1) = s - 1 := IntWalk.u64_in _ (by omega)
  have w2' : IntKind.u64.wrap (ws - 1) = ws - 1 := IntWalk.u64_in _ (by omega)
  have w3' : IntKind.u64.wrap (a + (s - 1)) = a + (s - 1) := IntWalk.u64_in _ (by omega)
  have w4' : IntKind.u64.wrap (wa + (ws - 1)) = wa + (ws - 1) := IntWalk.u64_in _ (by omega)
  by_cases hle : wa ≤ a
  · have q1 : decide (wa ≤ a) = true := decide_eq_true hle
    rw [q1, Bool.true_and] at hR
    have HQ := Lib.hid hR
    clear hs0 hw0 hbx hby hR hle
    go_enter Try.func32, Try.ntmps32
    go_wp2_with fail
    refine (C1.out _).mono ?_
    rintro e w1 ⟨rfl, rfl⟩
    go_wp2_with fail
    refine (C2.out _).mono ?_
    rintro e w1 ⟨rfl, rfl⟩
    go_wp2
    go_ret
    first | exact ⟨congrArg (fun b => Ending.returned (.bool b)) HQ.out, HB.out⟩ | exact ⟨congrArg (fun b => Ending.returned (.bool b)) ((decide_eq_true (by omega)).symm.trans HQ.out), HB.out⟩
  · have q1 : decide (wa ≤ a) = false := decide_eq_false hle
    rw [q1, Bool.false_and] at hR
    subst hR
    clear hs0 hw0 hbx hby hle
    go_enter Try.func32, Try.ntmps32
    go_wp2_with fail
    refine (C1.out _).mono ?_
    rintro e w1 ⟨rfl, rfl⟩
    go_wp2_with fail
    refine (C2.out _).mono ?_
    rintro e w1 ⟨rfl, rfl⟩
    go_wp2
    go_ret
    exact ⟨rfl, HB.out⟩

set_option maxHeartbeats 4000000 in
theorem refmeet_any (a s b t : Int) (w : World) (h1 : U64 a) (h2 : U64 s) (h3 : U64 b) (h4 : U64 t) (r : Bool) (hr : meetB a s b t = r) :
    Calls Try.prog 36 #[.agg #[.int .u64 a, .int .u64 s], .agg #[.int .u64 b, .int .u64 t]] w fun e w' => e = .returned (.bool r) ∧ Below w.heap.size w w' := by
  have HB := Lib.hid (((Below.refl w.heap.size w).alloc (Nat.le_refl _) (.cells #[.int .u64 a, .int .u64 s] 60)).alloc (by simp) (.cells #[.int .u64 b, .int .u64 t] 60))
  obtain ⟨x, hx⟩ : ∃ x, wholeB a s = x := ⟨_, rfl⟩
  obtain ⟨y, hy⟩ : ∃ y, wholeB b t = y := ⟨_, rfl⟩
  have C1 := Lib.hid (fun W => refwhole_any a s W h1 h2 x hx)
  have C2 := Lib.hid (fun W => refwhole_any b t W h3 h4 y hy)
  have HR : Hid (meetB a s b t = r) := Lib.hid hr
  have HX := Lib.hid hx
  have HY := Lib.hid hy
  clear hr hx hy
  obtain ⟨h1a, h1b⟩ := h1
  obtain ⟨h2a, h2b⟩ := h2
  obtain ⟨h3a, h3b⟩ := h3
  obtain ⟨h4a, h4b⟩ := h4
  by_cases hs0 : s = 0
  · subst hs0
    obtain rfl : r = false := by rw [← HR.out]; rfl
    go_enter Try.func36, Try.ntmps36
    go_wp2
    go_ret
    exact ⟨rfl, HB.out⟩
  have k1 : (s == 0) = false := by rw [beq_eq_false_iff_ne]; exact hs0
  by_cases ht0 : t = 0
  · subst ht0
    obtain rfl : r = false := by rw [← HR.out, meetB]; simp
    clear hs0
    go_enter Try.func36, Try.ntmps36
    go_wp2
    go_ret
    exact ⟨rfl, HB.out⟩
  have k2 : (t == 0) = false := by rw [beq_eq_false_iff_ne]; exact ht0
  have hR : (decide (a ≤ lastA b t) && decide (b ≤ lastA a s)) = r := by have := HR.out; rwa [meetB, decide_eq_true hs0, decide_eq_true ht0, Bool.true_and, Bool.true_and] at this
  cases x
  · cases y
    · have ex : lastA a s = 18446744073709551615 := by rw [lastA, HX.out]; simp
      have ey : lastA b t = 18446744073709551615 := by rw [lastA, HY.out]; simp
      rw [ex, ey] at hR
      by_cases hle : a ≤ 18446744073709551615
      · have q1 : decide (a ≤ 18446744073709551615) = true := decide_eq_true hle
        rw [q1, Bool.true_and] at hR
        have HQ := Lib.hid hR
        clear hs0 ht0 hR hle ex ey
        go_enter Try.func36, Try.ntmps36
        go_wp2_with fail
        refine (C1.out _).mono ?_
        rintro e w1 ⟨rfl, rfl⟩
        go_wp2_with fail
        refine (C2.out _).mono ?_
        rintro e w1 ⟨rfl, rfl⟩
        go_wp2
        go_ret
        first | exact ⟨congrArg (fun b => Ending.returned (.bool b)) HQ.out, HB.out⟩ | exact ⟨congrArg (fun b => Ending.returned (.bool b)) ((decide_eq_true (by omega)).symm.trans HQ.out), HB.out⟩
      · exact absurd h1b hle
    · have ex : lastA a s = 18446744073709551615 := by rw [lastA, HX.out]; simp
      have ey : lastA b t = b + (t - 1) := by rw [lastA, HY.out]; simp
      rw [ex, ey] at hR
      have hby : t - 1 ≤ 18446744073709551615 - b := by have := HY.out; rw [wholeB, decide_eq_false ht0] at this; exact of_decide_eq_true this
      have w2' : IntKind.u64.wrap (t - 1) = t - 1 := IntWalk.u64_in _ (by omega)
      have w4' : IntKind.u64.wrap (b + (t - 1)) = b + (t - 1) := IntWalk.u64_in _ (by omega)
      by_cases hle : a ≤ b + (t - 1)
      · have q1 : decide (a ≤ b + (t - 1)) = true := decide_eq_true hle
        rw [q1, Bool.true_and] at hR
        have HQ := Lib.hid hR
        clear hs0 ht0 hR hle ex ey
        go_enter Try.func36, Try.ntmps36
        go_wp2_with fail
        refine (C1.out _).mono ?_
        rintro e w1 ⟨rfl, rfl⟩
        go_wp2_with fail
        refine (C2.out _).mono ?_
        rintro e w1 ⟨rfl, rfl⟩
        go_wp2
        go_ret
        first | exact ⟨congrArg (fun b => Ending.returned (.bool b)) HQ.out, HB.out⟩ | exact ⟨congrArg (fun b => Ending.returned (.bool b)) ((decide_eq_true (by omega)).symm.trans HQ.out), HB.out⟩
      · have q1 : decide (a ≤ b + (t - 1)) = false := decide_eq_false hle
        rw [q1, Bool.false_and] at hR
        subst hR
        clear hs0 ht0 hle ex ey
        go_enter Try.func36, Try.ntmps36
        go_wp2_with fail
        refine (C1.out _).mono ?_
        rintro e w1 ⟨rfl, rfl⟩
        go_wp2_with fail
        refine (C2.out _).mono ?_
        rintro e w1 ⟨rfl, rfl⟩
        go_wp2
        go_ret
        exact ⟨rfl, HB.out⟩
  · cases y
    · have ex : lastA a s = a + (s - 1) := by rw [lastA, HX.out]; simp
      have ey : lastA b t = 18446744073709551615 := by rw [lastA, HY.out]; simp
      rw [ex, ey] at hR
      have hbx : s - 1 ≤ 18446744073709551615 - a := by have := HX.out; rw [wholeB, decide_eq_false hs0] at this; exact of_decide_eq_true this
      have w1' : IntKind.u64.wrap (s - 1) = s - 1 := IntWalk.u64_in _ (by omega)
      have w3' : IntKind.u64.wrap (a + (s - 1)) = a + (s - 1) := IntWalk.u64_in _ (by omega)
      by_cases hle : a ≤ 18446744073709551615
      · have q1 : decide (a ≤ 18446744073709551615) = true := decide_eq_true hle
        rw [q1, Bool.true_and] at hR
        have HQ := Lib.hid hR
        clear hs0 ht0 hR hle ex ey
        go_enter Try.func36, Try.ntmps36
        go_wp2_with fail
        refine (C1.out _).mono ?_
        rintro e w1 ⟨rfl, rfl⟩
        go_wp2_with fail
        refine (C2.out _).mono ?_
        rintro e w1 ⟨rfl, rfl⟩
        go_wp2
        go_ret
        first | exact ⟨congrArg (fun b => Ending.returned (.bool b)) HQ.out, HB.out⟩ | exact ⟨congrArg (fun b => Ending.returned (.bool b)) ((decide_eq_true (by omega)).symm.trans HQ.out), HB.out⟩
      · exact absurd h1b hle
    · have ex : lastA a s = a + (s - 1) := by rw [lastA, HX.out]; simp
      have ey : lastA b t = b + (t - 1) := by rw [lastA, HY.out]; simp
      rw [ex, ey] at hR
      have hbx : s - 1 ≤ 18446744073709551615 - a := by have := HX.out; rw [wholeB, decide_eq_false hs0] at this; exact of_decide_eq_true this
      have w1' : IntKind.u64.wrap (s - 1) = s - 1 := IntWalk.u64_in _ (by omega)
      have w3' : IntKind.u64.wrap (a + (s - 1)) = a + (s - 1) := IntWalk.u64_in _ (by omega)
      have hby : t - 1 ≤ 18446744073709551615 - b := by have := HY.out; rw [wholeB, decide_eq_false ht0] at this; exact of_decide_eq_true this
      have w2' : IntKind.u64.wrap (t - 1) = t - 1 := IntWalk.u64_in _ (by omega)
      have w4' : IntKind.u64.wrap (b + (t - 1)) = b + (t - 1) := IntWalk.u64_in _ (by omega)
      by_cases hle : a ≤ b + (t - 1)
      · have q1 : decide (a ≤ b + (t - 1)) = true := decide_eq_true hle
        rw [q1, Bool.true_and] at hR
        have HQ := Lib.hid hR
        clear hs0 ht0 hR hle ex ey
        go_enter Try.func36, Try.ntmps36
        go_wp2_with fail
        refine (C1.out _).mono ?_
        rintro e w1 ⟨rfl, rfl⟩
        go_wp2_with fail
        refine (C2.out _).mono ?_
        rintro e w1 ⟨rfl, rfl⟩
        go_wp2
        go_ret
        first | exact ⟨congrArg (fun b => Ending.returned (.bool b)) HQ.out, HB.out⟩ | exact ⟨congrArg (fun b => Ending.returned (.bool b)) ((decide_eq_true (by omega)).symm.trans HQ.out), HB.out⟩
      · have q1 : decide (a ≤ b + (t - 1)) = false := decide_eq_false hle
        rw [q1, Bool.false_and] at hR
        subst hR
        clear hs0 ht0 hle ex ey
        go_enter Try.func36, Try.ntmps36
        go_wp2_with fail
        refine (C1.out _).mono ?_
        rintro e w1 ⟨rfl, rfl⟩
        go_wp2_with fail
        refine (C2.out _).mono ?_
        rintro e w1 ⟨rfl, rfl⟩
        go_wp2
        go_ret
        exact ⟨rfl, HB.out⟩
end Go.Proofs.Ytbblgkidgecdpaa

/-! Layer 12, RegionBytes: out of what the program's Inside and Meet answer. -/
namespace Go.Proofs.Ytbblgkidgecdpaa
open Go.RowKit
set_option linter.unusedVariables false
set_option linter.unusedSimpArgs false

def InsideOK : Prop := ∀ (wa ws a s : Int) (w : World), U64 wa → U64 ws → U64 a → U64 s → Calls Try.prog 55 #[.agg #[.int .u64 wa, .int .u64 ws], .int .u64 a, .int .u64 s] w fun e w' => e = .returned (.bool (insideB wa ws a s)) ∧ Below w.heap.size w w'
theorem inside_iff {wa ws a s : Int} : insideB wa ws a s = true ↔ (s ≠ 0 ∧ ws ≠ 0) ∧ (s - 1 ≤ 18446744073709551615 - a ∧ ws - 1 ≤ 18446744073709551615 - wa) ∧ wa ≤ a ∧ a + (s - 1) ≤ wa + (ws - 1) := by
  unfold insideB wholeB
  simp only [Bool.and_eq_true, Bool.or_eq_true, decide_eq_true_eq]
  omega
theorem last_of {a s : Int} (hs : s ≠ 0) (h : s - 1 ≤ 18446744073709551615 - a) : lastA a s = a + (s - 1) := by
  rw [lastA, wholeB, decide_eq_false hs, decide_eq_true h]; rfl
theorem meet_of {a s b t x : Int} (h1 : insideB a s x 1 = true) (h2 : insideB b t x 1 = true) : meetB a s b t = true := by
  obtain ⟨⟨_, p1⟩, ⟨_, p2⟩, p3, p4⟩ := inside_iff.1 h1
  obtain ⟨⟨_, q1⟩, ⟨_, q2⟩, q3, q4⟩ := inside_iff.1 h2
  rw [meetB, last_of p1 p2, last_of q1 q2]
  simp only [Bool.and_eq_true, decide_eq_true_eq]
  omega
theorem parts_of {wa ws a s k : Int} (h : insideB wa ws a s = true) (hk : 0 ≤ k ∧ k < s) : insideB wa ws (a + k) (s - k) = true ∧ insideB wa ws a (k + 1) = true ∧ meetB wa ws a s = true := by
  obtain ⟨⟨h0, p1⟩, ⟨p5, p2⟩, p3, p4⟩ := inside_iff.1 h
  refine ⟨inside_iff.2 (by omega), inside_iff.2 (by omega), ?_⟩
  rw [meetB, last_of p1 p2, last_of h0 p5]
  simp only [Bool.and_eq_true, decide_eq_true_eq]
  omega

end Go.Proofs.Ytbblgkidgecdpaa

/-! Layer 3: whether one name is there twice, by a map of the names that were seen. -/
namespace Go.Proofs.Ytbblgkidgecdpaa
open Go.RowKit Go.Maps Go.WideMaps
set_option linter.unusedVariables false
set_option linter.unusedSimpArgs false

/-- One name is there twice. -/
def twiceB (l : List ByteArray) : Bool := !decide l.Nodup

/-- The key that a name is, and the set of the first k names. -/
def keyL (s : ByteArray) : Lit := .string s.data.toList
def Sn (l : List ByteArray) (k : Nat) : DataW Unit := setOf (.agg []) ((l.take k).map keyL)

theorem Sn_zero (l : List ByteArray) : Sn l 0 = .map [] := by simp [Sn, setOf]
theorem Sn_succ (l : List ByteArray) (k : Nat) (hk : k < l.length) : Sn l (k + 1) = (Sn l k).put (keyL l[k]) (.agg []) := by
  unfold Sn
  rw [List.take_add_one, List.getElem?_eq_getElem hk, List.map_append, ← setOf_snoc]
  rfl
theorem has_Sn (l : List ByteArray) (k : Nat) (s : ByteArray) : Maps.has (Sn l k) (keyL s) = true ↔ s ∈ l.take k := by
  unfold Sn
  rw [has_setOf _ _ _ (fun y hy => by obtain ⟨_, _, rfl⟩ := List.mem_map.1 hy; trivial), List.any_map, List.any_eq_true]
  constructor
  · rintro ⟨x, hx, h⟩
    have e : x.data.toList = s.data.toList := by
      have h' : (keyL x).sameKey (keyL s) = true := h
      by_cases e : keyL x = keyL s
      · exact (Lit.string.inj e)
      · rw [sameKey_ne e] at h'; cases h'
    rw [← WideShapes.bytes_inj e]
    exact hx
  · intro h
    refine ⟨s, h, ?_⟩
    show (keyL s).sameKey (keyL s) = true
    simp [keyL, Lit.sameKey]
theorem has_no {l : List ByteArray} {k : Nat} {s : ByteArray} (h : s ∉ l.take k) : Maps.has (Sn l k) (keyL s) = false := by
  rcases e : Maps.has (Sn l k) (keyL s) with _ | _
  · rfl
  · exact absurd ((has_Sn l k s).1 e) h

theorem nodup_zero (l : List ByteArray) : (l.take 0).Nodup := by simp
theorem nodup_succ {l : List ByteArray} {k : Nat} (h : (l.take k).Nodup) (hk : k < l.length) (hn : l[k] ∉ l.take k) : (l.take (k + 1)).Nodup := by
  rw [List.take_add_one, List.getElem?_eq_getElem hk]
  rw [List.nodup_append]
  refine ⟨h, by simp, ?_⟩
  intro a ha b hb hab
  simp at hb
  subst hb hab
  exact hn ha
theorem twice_hit {l : List ByteArray} {k : Nat} (hk : k < l.length) (hn : l[k] ∈ l.take k) : twiceB l = true := by
  have : ¬ l.Nodup := fun h => by
    have h1 : (l.take k ++ l.drop k).Nodup := by rw [List.take_append_drop]; exact h
    rw [List.nodup_append] at h1
    exact h1.2.2 _ hn l[k] (by rw [List.drop_eq_getElem_cons hk]; exact List.mem_cons_self ..) rfl
  simp [twiceB, this]
theorem twice_all {l : List ByteArray} {k : Nat} (h : (l.take k).Nodup) (hk : ¬ k < l.length) : twiceB l = false := by
  rw [List.take_of_length_le (by omega)] at h
  simp [twiceB, h]

theorem ownsMap_below {w w' : World} {B b n : Nat} {k : TypeId} {R : Value → Option (DataW Unit × List MemPlace)} {D : DataW Unit} (h : w.ownsMap Try.prog k R b n D) (hb : Below B w w') (hlt : b < B) : w'.ownsMap Try.prog k R b n D := by
  obtain ⟨es, clock, h1, h2⟩ := h
  exact ⟨es, clock, (hb.block b hlt).trans h1, h2⟩

theorem lawS : Keyed Try.prog 9 := string_keyed Try.underlying9
theorem key_ok {s : ByteArray} (hs : s.size ≤ 140737488351232) : keyOf Try.prog 9 (.string s) = some (keyL s) := keyOf_string_mk Try.underlying9 (by unfold maxLen; omega)

end Go.Proofs.Ytbblgkidgecdpaa

/-! Layer 3: what is asked of a node itself. -/
namespace Go.Proofs.Ytbblgkidgecdpaa
open Go.RowKit
set_option linter.unusedVariables false
set_option linter.unusedSimpArgs false

/-- A property whose name is none. -/
def misP (p : PV) : Bool := !propB p.name
/-- May a node at that depth bear its name? -/
noncomputable def nameOk (n : Nd) (d : Int) : Bool := if d = 1 then n.name.toList.isEmpty else nodeB n.name
/-- The first error of a node itself. -/
noncomputable def aloneE (n : Nd) (d : Int) : Int :=
  if 16 < d then 6 else if nameOk n d = false then 5 else if n.props.any misP = true then 5 else if twiceB (n.props.map PV.name) = true then 9 else if twiceB (n.kids.map Nd.name) = true then 9 else 0

/-- None of the first k is bad. -/
def Good {α : Type} (f : α → Bool) (l : List α) (k : Nat) : Prop := ∀ j (hj : j < l.length), j < k → f l[j] = false
theorem Good.zero {α : Type} (f : α → Bool) (l : List α) : Good f l 0 := fun _ _ h => absurd h (Nat.not_lt_zero _)
theorem Good.succ {α : Type} {f : α → Bool} {l : List α} {k : Nat} (h : Good f l k) (hk : k < l.length) (he : f l[k] = false) : Good f l (k + 1) := fun j hj hlt => by
  rcases Nat.lt_succ_iff_lt_or_eq.1 hlt with h' | rfl
  · exact h j hj h'
  · exact he
theorem Good.all {α : Type} {f : α → Bool} {l : List α} {k : Nat} (h : Good f l k) (hk : ¬ k < l.length) : l.any f = false := by
  rw [List.any_eq_false]
  intro x hx
  obtain ⟨i, hi, rfl⟩ := List.getElem_of_mem hx
  rw [h i hi (by omega)]
  simp
theorem any_at {α : Type} {f : α → Bool} {l : List α} {k : Nat} (hk : k < l.length) (he : f l[k] = true) : l.any f = true := List.any_eq_true.2 ⟨_, List.getElem_mem hk, he⟩

end Go.Proofs.Ytbblgkidgecdpaa

/-! Layer 3: the first error of a node, and of those below it. -/
namespace Go.Proofs.Ytbblgkidgecdpaa
open Go.RowKit
set_option linter.unusedVariables false
set_option linter.unusedSimpArgs false

mutual
/-- The first error of a node at a depth, and of all below it. -/
noncomputable def wrongN : Nd → Int → Int
  | .mk a b c p e f ks, d => if aloneE (.mk a b c p e f ks) d = 0 then wrongL ks (d + 1) else aloneE (.mk a b c p e f ks) d
noncomputable def wrongL : List Nd → Int → Int
  | [], _ => 0
  | k :: l, d => if wrongN k d = 0 then wrongL l d else wrongN k d
end
theorem wrongN_mk (n : Nd) (d : Int) : wrongN n d = if aloneE n d = 0 then wrongL n.kids (d + 1) else aloneE n d := by
  cases n
  rw [wrongN]
  rfl
theorem wrongL_hit (d : Int) : ∀ (l : List Nd) (k : Nat) (hk : k < l.length), (∀ j (hj : j < l.length), j < k → wrongN l[j] d = 0) → wrongN l[k] d ≠ 0 → wrongL l d = wrongN l[k] d
  | x :: l, 0, hk, _, h => by
    have h' : wrongN x d ≠ 0 := h
    rw [wrongL, if_neg h']
    rfl
  | x :: l, k + 1, hk, h', h => by
    have h0 : wrongN x d = 0 := h' 0 (by simp) (by omega)
    rw [wrongL, if_pos h0, wrongL_hit d l k (by simpa using hk) (fun j hj hlt => h' (j + 1) (by simpa using hj) (by omega)) h]
    rfl
theorem wrongL_all (d : Int) : ∀ (l : List Nd), (∀ j (hj : j < l.length), wrongN l[j] d = 0) → wrongL l d = 0
  | [], _ => rfl
  | x :: l, h => by
    have h0 : wrongN x d = 0 := h 0 (by simp)
    rw [wrongL, if_pos h0, wrongL_all d l (fun j hj => h (j + 1) (by simpa using hj))]
/-- The first k have no error. -/
def Fine (l : List Nd) (d : Int) (k : Nat) : Prop := ∀ j (hj : j < l.length), j < k → wrongN l[j] d = 0
theorem Fine.zero (l : List Nd) (d : Int) : Fine l d 0 := fun _ _ h => absurd h (Nat.not_lt_zero _)
theorem Fine.succ {l : List Nd} {d : Int} {k : Nat} (h : Fine l d k) (hk : k < l.length) (he : wrongN l[k] d = 0) : Fine l d (k + 1) := fun j hj hlt => by
  rcases Nat.lt_succ_iff_lt_or_eq.1 hlt with h' | rfl
  · exact h j hj h'
  · exact he
theorem alone_deep {n : Nd} {d : Int} (h : aloneE n d = 0) : d ≤ 16 := by
  by_cases h16 : 16 < d
  · rw [aloneE, if_pos h16] at h; omega
  · omega

end Go.Proofs.Ytbblgkidgecdpaa
