/-
  The one cell of a node's property: the document's answer.
-/
import Derived.Test.YtgogkcmdcfcikaaQProp
import Derived.Test.YtgogkcmdcfcikaaDNode
import Derived.OwnWalk
namespace Go.Proofs.Ytgogkcmdcfcikaa
open Go.RowKit
set_option linter.unusedVariables false
set_option linter.unusedSimpArgs false

theorem idx_or : ∀ (l : List ByteArray) (s : ByteArray), idxOf l s = -1 ∨ ∃ k : Nat, ∃ h : k < l.length, idxOf l s = (k : Int) ∧ l[k] = s
  | [], s => .inl rfl
  | x :: l, s => by
    by_cases hx : x = s
    · exact .inr ⟨0, by simp, by rw [idxOf, if_pos hx]; rfl, by simpa using hx⟩
    · rcases idx_or l s with h | ⟨k, h1, h2, h3⟩
      · exact .inl (by rw [idxOf, if_neg hx, h]; rfl)
      · exact .inr ⟨k + 1, by simpa using h1, by rw [idxOf, if_neg hx, h2, if_neg (by omega)]; omega, by simpa using h3⟩

/-- The one cell of a node's property: the cell, whether it is there, the error. -/
def oneV (n : Nd) (s : ByteArray) : Int × Bool × Int :=
  match n.props.find? fun p => decide (p.name = s) with
  | none => (0, false, 0)
  | some p => if p.zs.length = 4 then (numTo p.zs 0 4, true, 0) else (0, false, 4)
def oneVal (o : Int × Bool × Int) : Value := .tuple #[.int .u32 o.1, .bool o.2.1, .int .i64 o.2.2]
theorem find_none : ∀ {ps : List PV} {s : ByteArray}, idxOf (ps.map PV.name) s = -1 → ps.find? (fun p => decide (p.name = s)) = none
  | [], _, _ => rfl
  | p :: r, s, h => by
    rw [List.map_cons, idxOf] at h
    by_cases hp : p.name = s
    · rw [if_pos hp] at h; omega
    · rw [if_neg hp] at h
      rw [List.find?_cons_of_neg (by simpa using hp)]
      refine find_none ?_
      rcases idx_or (r.map PV.name) s with h1 | ⟨k, _, h2, _⟩
      · exact h1
      · rw [h2, if_neg (by omega)] at h; omega
theorem find_at : ∀ {ps : List PV} {s : ByteArray} {k : Nat} (hk : k < ps.length), idxOf (ps.map PV.name) s = (k : Int) → ps.find? (fun p => decide (p.name = s)) = some ps[k]
  | [], _, _, hk, _ => absurd hk (by simp)
  | p :: r, s, k, hk, h => by
    rw [List.map_cons, idxOf] at h
    by_cases hp : p.name = s
    · rw [if_pos hp] at h
      obtain rfl : k = 0 := by omega
      rw [List.find?_cons_of_pos (by simpa using hp)]; rfl
    · rw [if_neg hp] at h
      rw [List.find?_cons_of_neg (by simpa using hp)]
      by_cases h0 : idxOf (r.map PV.name) s < 0
      · rw [if_pos h0] at h; omega
      · rw [if_neg h0] at h
        obtain ⟨j, rfl⟩ : ∃ j, k = j + 1 := ⟨k - 1, by omega⟩
        exact find_at (by simpa using hk) (by omega)
theorem prop_heft {n : Nd} {k : Nat} (h : k < n.props.length) : n.props[k].zs.length ≤ heftN n := by
  have e : heftN n = 16 + n.name.size + (n.props.map heftP).sum + heftL n.kids := by cases n; rw [heftN]; rfl
  have h1 := heftP_next n.props k h
  have h2 := heftP_take n.props (k + 1)
  have e2 : heftP n.props[k] = 16 + n.props[k].name.size + n.props[k].zs.length := rfl
  omega

set_option maxRecDepth 20000 in
set_option maxHeartbeats 4000000 in
theorem refone_all (n : Nd) (s : ByteArray) (w : World) (hin : n.In w w.heap.size) :
    Calls Try.prog 30 #[n.val, .string s] w fun e w' => e = .returned (oneVal (oneV n s)) ∧ Below w.heap.size w w' := by
  obtain ⟨r, hr⟩ : ∃ r, r = idxOf (n.props.map PV.name) s := ⟨_, rfl⟩
  have CF := Lib.hid (fun W hW => reffind_any n s W hW r hr)
  have HI := Lib.hid hin
  have HF : Hid ((r < 0 ∧ oneV n s = (0, false, 0)) ∨ ∃ k : Nat, ∃ h : k < n.props.length, r = (k : Int) ∧ oneV n s = if n.props[k].zs.length = 4 then (numTo n.props[k].zs 0 4, true, 0) else (0, false, 4)) := Lib.hid (by
    rcases idx_or (n.props.map PV.name) s with h | ⟨k, h1, h2, _⟩
    · exact .inl ⟨by omega, by rw [oneV, find_none h]⟩
    · rw [List.length_map] at h1
      exact .inr ⟨k, h1, hr.trans h2, by rw [oneV, find_at h1 h2]⟩)
  have HZ := Lib.hid (fun k (h : k < n.props.length) => (hin.prop (List.getElem_mem h)).1.2)
  obtain ⟨O, hO⟩ : ∃ O, oneV n s = O := ⟨_, rfl⟩
  rw [hO] at HF ⊢
  clear hr hin hO
  obtain ⟨nm, pa, pc, ps, ka, kc, ks⟩ := n
  simp only [Nd.val, Nd.pv, Nd.kv, Nd.name, Nd.pa, Nd.pc, Nd.props, Nd.ka, Nd.kc, Nd.kids] at CF HF HZ ⊢
  have HB := Lib.hid ((Below.refl w.heap.size w).alloc (Nat.le_refl _) (.cells #[Value.string nm, .slice pa ps.length pc, .slice ka ks.length kc] 25))
  go_enter Try.func30, Try.ntmps30
  go_wp2_with fail
  refine (CF.out _ (Nd.In.more HB.out.size (HI.out.under HB.out))).mono ?_
  rintro e w1 ⟨rfl, hb⟩
  have HB1 := Lib.hid (HB.out.trans (hb.mono HB.out.size))
  have x1 := (hb.cell (p := ⟨w.heap.size, 1, none⟩) (by simp)).trans (World.cell?_alloc_new _ _ _ _)
  replace x1 : _ = some (Value.slice pa ps.length pc) := x1
  clear hb
  rcases HF.out with ⟨hr0, hv⟩ | ⟨k, hk, hrk, hv⟩
  · subst hv
    clear HF x1
    go_wp2
    go_ret3
    exact ⟨rfl, HB1.out⟩
  · subst hrk
    obtain ⟨b, o, e, _, _, c1⟩ := (HI.out.under HB1.out).pcell (i := k) hk
    obtain rfl : pa = _ := e
    replace c1 : _ = some (Value.slice ps[k].addr ps[k].zs.length ps[k].cap) := c1
    have hp := (HI.out.under HB1.out).prop (p := ps[k]) (List.getElem_mem hk)
    have hz := HZ.out k hk
    have CC := refcells_any ps[k].addr ps[k].zs.length ps[k].cap ps[k].zs w1 (hp.2.1.more HB1.out.size) (by omega) hp.2.2.1 hp.2.2.2
    obtain ⟨P, hP⟩ : ∃ P, ps[k] = P := ⟨_, rfl⟩
    have hv' : O = if P.zs.length = 4 then (numTo P.zs 0 4, true, 0) else (0, false, 4) := by rw [← hP]; exact hv
    rw [hP] at c1 CC hz
    obtain ⟨N, hN⟩ : ∃ N, P.zs.length = N := ⟨_, rfl⟩
    rw [hN] at c1 CC hz hv'
    have HV := Lib.hid hv'
    have hpl : ps.length ≤ pc ∧ pc ≤ 9223372036854775807 := HI.out.plen
    obtain ⟨hpl1, hpl2⟩ := hpl
    have HCC := Lib.hid CC
    clear HF hv hv' hp CC hP hN
    go_wp2_with fail
    refine HCC.out.mono ?_
    rintro e w2 ⟨⟨q1, q2⟩, hb⟩
    have HB2 := Lib.hid (HB1.out.trans (hb.mono HB1.out.size))
    clear hb c1 x1
    by_cases h4 : N % 4 = 0
    · obtain ⟨A, c, rfl, hrow⟩ := q2 h4
      obtain ⟨A', c', e, hcel, _, _, _⟩ := owned_cel hrow
      simp only [Value.slice.injEq, true_and] at e
      obtain ⟨rfl, rfl⟩ := e
      obtain ⟨M, hM⟩ : ∃ M, N / 4 = M := ⟨_, rfl⟩
      rw [hM] at hcel
      rw [hM]
      by_cases h1 : M = 1
      · subst h1
        obtain ⟨bc, oc, rfl, _, hc0⟩ := hcel.2 (by omega)
        have d0 := hc0 0 (by omega)
        rw [Nat.add_zero] at d0
        replace d0 : w2.cell? ⟨bc, oc, none⟩ = some (Value.int .u32 (numTo P.zs 0 4)) := d0
        obtain ⟨v, hv⟩ : ∃ v, numTo P.zs 0 4 = v := ⟨_, rfl⟩
        have HO : Hid (O = (v, true, 0)) := Lib.hid (by rw [HV.out, if_pos (by omega), hv])
        rw [hv] at d0
        clear q1 q2 hrow hcel hc0 hv hM h4
        go_wp2
        go_ret3
        exact ⟨by rw [HO.out]; rfl, HB2.out⟩
      · have k1 : ((M : Int) != 1) = true := by rw [bne_iff_ne]; omega
        have HO : Hid (O = (0, false, 4)) := Lib.hid (by rw [HV.out, if_neg (by omega)])
        clear q1 q2 hrow hcel hM h4 h1
        go_wp2
        go_ret3
        exact ⟨by rw [HO.out]; rfl, HB2.out⟩
    · obtain rfl := q1 h4
      have HO : Hid (O = (0, false, 4)) := Lib.hid (by rw [HV.out, if_neg (by omega)])
      clear q1 q2 h4
      go_wp2
      go_ret3
      exact ⟨by rw [HO.out]; rfl, HB2.out⟩
theorem refone_any (n : Nd) (s : ByteArray) (w : World) (hin : n.In w w.heap.size) (hz : heftN n ≤ 1073741824) :
    Calls Try.prog 30 #[n.val, .string s] w fun e w' => e = .returned (oneVal (oneV n s)) ∧ Below w.heap.size w w' := refone_all n s w hin
end Go.Proofs.Ytgogkcmdcfcikaa
