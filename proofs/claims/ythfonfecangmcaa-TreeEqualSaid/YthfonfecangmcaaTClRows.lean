/-
  Layer 3: slices.Clone of reserves, of properties, of nodes.
-/
import Derived.Test.YthfonfecangmcaaTClRow
namespace Go.Proofs.Ythfonfecangmcaa
open Go.RowKit
set_option linter.unusedVariables false
set_option linter.unusedSimpArgs false

section
variable {α : Type} {f : α → List Value} {sz : Nat}
theorem flat_len (hf : ∀ a, (f a).length = sz) : ∀ l : List α, (l.flatMap f).length = l.length * sz
  | [] => by simp
  | a :: l => by rw [List.flatMap_cons, List.length_append, hf, flat_len hf l, List.length_cons, Nat.add_mul, Nat.one_mul, Nat.add_comm]
theorem flat_at (hf : ∀ a, (f a).length = sz) : ∀ (l : List α) (i r : Nat) (hi : i < l.length), r < sz → (l.flatMap f)[i * sz + r]? = (f l[i])[r]?
  | a :: l, 0, r, _, hr => by
    rw [List.flatMap_cons, Nat.zero_mul, Nat.zero_add, List.getElem?_append_left (by rw [hf]; exact hr)]
    rfl
  | a :: l, i + 1, r, hi, hr => by
    have e : (i + 1) * sz + r = (i * sz + r) + sz := by rw [Nat.add_mul, Nat.one_mul]; omega
    rw [List.flatMap_cons, e, List.getElem?_append_right (by rw [hf]; omega), hf, Nat.add_sub_cancel, flat_at hf l i r (by simpa using hi) hr]
    rfl
/-- What a flat row holds at any place. -/
theorem flat_get (hf : ∀ a, (f a).length = sz) (h0 : 0 < sz) {l : List α} {j : Nat} {u : Value} (h : (l.flatMap f)[j]? = some u) : ∃ i r, ∃ hi : i < l.length, r < sz ∧ j = i * sz + r ∧ (f l[i])[r]? = some u := by
  have hj : j < l.length * sz := by
    rw [← flat_len hf l]
    rcases Nat.lt_or_ge j (l.flatMap f).length with h' | h'
    · exact h'
    · rw [List.getElem?_eq_none h'] at h; cases h
  have hi : j / sz < l.length := (Nat.div_lt_iff_lt_mul h0).2 hj
  have hr : j % sz < sz := Nat.mod_lt _ h0
  have e : j = j / sz * sz + j % sz := by rw [Nat.mul_comm]; exact (Nat.div_add_mod j sz).symm
  refine ⟨j / sz, j % sz, hi, hr, e, ?_⟩
  rw [← flat_at hf l _ _ hi hr, ← e]
  exact h
end

/-- The cells of properties, of nodes, of reserves, in a row. -/
def pC (p : PV) : List Value := [.string p.name, p.val]
def kC (k : Nd) : List Value := [.string k.name, k.pv, k.kv]
def rC (r : Int × Int) : List Value := [.int .u64 r.1, .int .u64 r.2]

theorem info_Props : (Try.prog.info? 37).map (fun i => (i.zero, i.size, i.bytes)) = some (some (.agg #[.string ⟨#[]⟩, .slice none 0 0]), 2, 40) := by kernel_rfl

set_option maxHeartbeats 1000000 in
theorem cloneProps_any (n : Nd) (w : World) (hin : n.In w w.heap.size) :
    Calls Try.prog 39 #[n.pv] w fun e w' => ∃ A c, e = .returned (.slice A n.props.length c) ∧ n.props.length ≤ c ∧ c ≤ 9223372036854775807 ∧ Fresh w' w.heap.size A n.props.length (n.props.flatMap pC) ∧ Below w.heap.size w w' := by
  obtain ⟨i0, hi0, hz0, hz1, hz2⟩ := info_parts info_Props
  have hf : ∀ a, (pC a).length = 2 := fun _ => rfl
  have hsz : n.props.length * 40 ≤ 140737488351232 := hin.name_le.2.1
  have q : ∀ (w : World) (a : Option Addr) (n c n' c' : Nat), (binOp .eql 24 (.slice a n c) (.slice none n' c')).run Try.prog w = .ok (.bool a.isNone) w := fun w a n c n' c' => Lib.run_eql_slice_nil w _ _ a n c n' c' Try.underlying24
  have u22 : ∀ w, Sem.run Try.prog (underlying 24) w = .ok (TypeDesc.slice 37) w := run_underlying Try.underlying24
  have hrow := hin.prow
  obtain ⟨A, hA⟩ : ∃ A, A = n.pa := ⟨_, rfl⟩
  obtain ⟨cp, hcp⟩ : ∃ c, c = n.pc := ⟨_, rfl⟩
  obtain ⟨l, hl⟩ : ∃ l, l = n.props := ⟨_, rfl⟩
  have hv : n.pv = .slice A l.length cp := by rw [hA, hcp, hl]; rfl
  rw [hv]
  rw [← hA, ← hl] at hrow
  rw [← hl] at hsz ⊢
  clear hin hv hA hcp hl
  rcases A with _ | ad
  · have hn0 : l.length = 0 := by
      rcases Nat.eq_zero_or_pos l.length with h | h
      · exact h
      · obtain ⟨b, o, e, _⟩ := hrow h
        cases e
    have HZ := Lib.hid hn0
    clear hn0 hsz hi0 hz0 hz1 hz2 hrow
    go_enter Try.func39, Try.ntmps39
    go_wp2
    go_ret
    exact ⟨none, 0, by rw [HZ.out]; rfl, by rw [HZ.out]; exact Nat.le_refl _, by omega, fun h => absurd h (by rw [HZ.out]; exact Nat.lt_irrefl 0), Below.refl _ _⟩
  · obtain ⟨v', w', hrun, hown, hbel⟩ := clone_run w 24 37 2 40 i0 _ Try.underlying24 hi0 hz0 hz1 hz2 rfl (by omega) ad l.length cp (l.flatMap pC) (flat_len hf l)
      (fun j u hu => by
        obtain ⟨i, r, hi, hr, rfl, hu'⟩ := flat_get hf (by omega) hu
        obtain ⟨b, o, e, _, hc⟩ := hrow (by omega)
        obtain rfl : ad = ⟨b, o, none⟩ := Option.some.inj e
        rw [addr_add, ← Nat.add_assoc]
        obtain ⟨c0, c1⟩ := hc i hi
        match r, hr, hu' with
        | 0, _, hu' => rw [← Option.some.inj hu']; exact c0
        | 1, _, hu' => rw [← Option.some.inj hu']; exact c1)
      (fun u hu => by
        obtain ⟨x, _, hx⟩ := List.mem_flatMap.1 hu
        simp only [pC, List.mem_cons, List.not_mem_nil, or_false] at hx
        rcases hx with rfl | rfl <;> rfl)
      hsz (by omega)
    obtain ⟨A', c', rfl, h1, h2, h3⟩ := fresh_of_owned hown (flat_len hf l)
    have HR := Lib.hid hrun
    have HF := Lib.hid (And.intro h1 (And.intro h2 (And.intro h3 hbel)))
    clear hrun hown hbel h1 h2 h3 hi0 hz0 hz1 hz2 hsz hrow
    go_enter Try.func39, Try.ntmps39
    go_wp2_with (at_builtin; refine Lib.wpList_append_run_sl _ rfl _ _ 24 rfl _ _ rfl rfl HR.out ?_)
    go_ret
    exact ⟨A', c', rfl, HF.out⟩

theorem info_Kids : (Try.prog.info? 27).map (fun i => (i.zero, i.size, i.bytes)) = some (some (.agg #[.string ⟨#[]⟩, .slice none 0 0, .slice none 0 0]), 3, 64) := by kernel_rfl

set_option maxHeartbeats 1000000 in
theorem cloneKids_any (n : Nd) (w : World) (hin : n.In w w.heap.size) :
    Calls Try.prog 40 #[n.kv] w fun e w' => ∃ A c, e = .returned (.slice A n.kids.length c) ∧ n.kids.length ≤ c ∧ c ≤ 9223372036854775807 ∧ Fresh w' w.heap.size A n.kids.length (n.kids.flatMap kC) ∧ Below w.heap.size w w' := by
  obtain ⟨i0, hi0, hz0, hz1, hz2⟩ := info_parts info_Kids
  have hf : ∀ a, (kC a).length = 3 := fun _ => rfl
  have hsz : n.kids.length * 64 ≤ 140737488351232 := hin.name_le.2.2
  have q : ∀ (w : World) (a : Option Addr) (n c n' c' : Nat), (binOp .eql 25 (.slice a n c) (.slice none n' c')).run Try.prog w = .ok (.bool a.isNone) w := fun w a n c n' c' => Lib.run_eql_slice_nil w _ _ a n c n' c' Try.underlying25
  have u22 : ∀ w, Sem.run Try.prog (underlying 25) w = .ok (TypeDesc.slice 27) w := run_underlying Try.underlying25
  have hrow := hin.krow
  obtain ⟨A, hA⟩ : ∃ A, A = n.ka := ⟨_, rfl⟩
  obtain ⟨cp, hcp⟩ : ∃ c, c = n.kc := ⟨_, rfl⟩
  obtain ⟨l, hl⟩ : ∃ l, l = n.kids := ⟨_, rfl⟩
  have hv : n.kv = .slice A l.length cp := by rw [hA, hcp, hl]; rfl
  rw [hv]
  rw [← hA, ← hl] at hrow
  rw [← hl] at hsz ⊢
  clear hin hv hA hcp hl
  rcases A with _ | ad
  · have hn0 : l.length = 0 := by
      rcases Nat.eq_zero_or_pos l.length with h | h
      · exact h
      · obtain ⟨b, o, e, _⟩ := hrow h
        cases e
    have HZ := Lib.hid hn0
    clear hn0 hsz hi0 hz0 hz1 hz2 hrow
    go_enter Try.func40, Try.ntmps40
    go_wp2
    go_ret
    exact ⟨none, 0, by rw [HZ.out]; rfl, by rw [HZ.out]; exact Nat.le_refl _, by omega, fun h => absurd h (by rw [HZ.out]; exact Nat.lt_irrefl 0), Below.refl _ _⟩
  · obtain ⟨v', w', hrun, hown, hbel⟩ := clone_run w 25 27 3 64 i0 _ Try.underlying25 hi0 hz0 hz1 hz2 rfl (by omega) ad l.length cp (l.flatMap kC) (flat_len hf l)
      (fun j u hu => by
        obtain ⟨i, r, hi, hr, rfl, hu'⟩ := flat_get hf (by omega) hu
        obtain ⟨b, o, e, _, hc⟩ := hrow (by omega)
        obtain rfl : ad = ⟨b, o, none⟩ := Option.some.inj e
        rw [addr_add, ← Nat.add_assoc]
        obtain ⟨c0, c1, c2⟩ := hc i hi
        match r, hr, hu' with
        | 0, _, hu' => rw [← Option.some.inj hu']; exact c0
        | 1, _, hu' => rw [← Option.some.inj hu']; exact c1
        | 2, _, hu' => rw [← Option.some.inj hu']; exact c2)
      (fun u hu => by
        obtain ⟨x, _, hx⟩ := List.mem_flatMap.1 hu
        simp only [kC, List.mem_cons, List.not_mem_nil, or_false] at hx
        rcases hx with rfl | rfl | rfl <;> rfl)
      hsz (by omega)
    obtain ⟨A', c', rfl, h1, h2, h3⟩ := fresh_of_owned hown (flat_len hf l)
    have HR := Lib.hid hrun
    have HF := Lib.hid (And.intro h1 (And.intro h2 (And.intro h3 hbel)))
    clear hrun hown hbel h1 h2 h3 hi0 hz0 hz1 hz2 hsz hrow
    go_enter Try.func40, Try.ntmps40
    go_wp2_with (at_builtin; refine Lib.wpList_append_run_sl _ rfl _ _ 25 rfl _ _ rfl rfl HR.out ?_)
    go_ret
    exact ⟨A', c', rfl, HF.out⟩

theorem info_Ress : (Try.prog.info? 52).map (fun i => (i.zero, i.size, i.bytes)) = some (some (.agg #[.int .u64 0, .int .u64 0]), 2, 16) := by kernel_rfl

set_option maxHeartbeats 1000000 in
theorem cloneRess_any (n : Tr) (w : World) (hin : n.In w w.heap.size) :
    Calls Try.prog 26 #[n.rv] w fun e w' => ∃ A c, e = .returned (.slice A n.rs.length c) ∧ n.rs.length ≤ c ∧ c ≤ 9223372036854775807 ∧ Fresh w' w.heap.size A n.rs.length (n.rs.flatMap rC) ∧ Below w.heap.size w w' := by
  obtain ⟨i0, hi0, hz0, hz1, hz2⟩ := info_parts info_Ress
  have hf : ∀ a, (rC a).length = 2 := fun _ => rfl
  have hsz : n.rs.length * 16 ≤ 140737488351232 := hin.len.2.2
  have q : ∀ (w : World) (a : Option Addr) (n c n' c' : Nat), (binOp .eql 23 (.slice a n c) (.slice none n' c')).run Try.prog w = .ok (.bool a.isNone) w := fun w a n c n' c' => Lib.run_eql_slice_nil w _ _ a n c n' c' Try.underlying23
  have u22 : ∀ w, Sem.run Try.prog (underlying 23) w = .ok (TypeDesc.slice 52) w := run_underlying Try.underlying23
  have hrow := hin.row
  obtain ⟨A, hA⟩ : ∃ A, A = n.ra := ⟨_, rfl⟩
  obtain ⟨cp, hcp⟩ : ∃ c, c = n.rc := ⟨_, rfl⟩
  obtain ⟨l, hl⟩ : ∃ l, l = n.rs := ⟨_, rfl⟩
  have hv : n.rv = .slice A l.length cp := by rw [hA, hcp, hl]; rfl
  rw [hv]
  rw [← hA, ← hl] at hrow
  rw [← hl] at hsz ⊢
  clear hin hv hA hcp hl
  rcases A with _ | ad
  · have hn0 : l.length = 0 := by
      rcases Nat.eq_zero_or_pos l.length with h | h
      · exact h
      · obtain ⟨b, o, e, _⟩ := hrow h
        cases e
    have HZ := Lib.hid hn0
    clear hn0 hsz hi0 hz0 hz1 hz2 hrow
    go_enter Try.func26, Try.ntmps26
    go_wp2
    go_ret
    exact ⟨none, 0, by rw [HZ.out]; rfl, by rw [HZ.out]; exact Nat.le_refl _, by omega, fun h => absurd h (by rw [HZ.out]; exact Nat.lt_irrefl 0), Below.refl _ _⟩
  · obtain ⟨v', w', hrun, hown, hbel⟩ := clone_run w 23 52 2 16 i0 _ Try.underlying23 hi0 hz0 hz1 hz2 rfl (by omega) ad l.length cp (l.flatMap rC) (flat_len hf l)
      (fun j u hu => by
        obtain ⟨i, r, hi, hr, rfl, hu'⟩ := flat_get hf (by omega) hu
        obtain ⟨b, o, e, _, hc⟩ := hrow (by omega)
        obtain rfl : ad = ⟨b, o, none⟩ := Option.some.inj e
        rw [addr_add, ← Nat.add_assoc]
        obtain ⟨c0, c1⟩ := hc i hi
        match r, hr, hu' with
        | 0, _, hu' => rw [← Option.some.inj hu']; exact c0
        | 1, _, hu' => rw [← Option.some.inj hu']; exact c1)
      (fun u hu => by
        obtain ⟨x, _, hx⟩ := List.mem_flatMap.1 hu
        simp only [rC, List.mem_cons, List.not_mem_nil, or_false] at hx
        rcases hx with rfl | rfl <;> rfl)
      hsz (by omega)
    obtain ⟨A', c', rfl, h1, h2, h3⟩ := fresh_of_owned hown (flat_len hf l)
    have HR := Lib.hid hrun
    have HF := Lib.hid (And.intro h1 (And.intro h2 (And.intro h3 hbel)))
    clear hrun hown hbel h1 h2 h3 hi0 hz0 hz1 hz2 hsz hrow
    go_enter Try.func26, Try.ntmps26
    go_wp2_with (at_builtin; refine Lib.wpList_append_run_sl _ rfl _ _ 23 rfl _ _ rfl rfl HR.out ?_)
    go_ret
    exact ⟨A', c', rfl, HF.out⟩
end Go.Proofs.Ythfonfecangmcaa
