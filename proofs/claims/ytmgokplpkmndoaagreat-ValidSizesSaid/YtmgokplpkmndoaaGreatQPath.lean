/-
  Places and paths: which node stands at a place; its path's names lead to it.
-/
import Derived.Test.YtmgokplpkmndoaaGreatQAll
import Derived.Test.YtmgokplpkmndoaaGreatTCheck
namespace Go.Proofs.YtmgokplpkmndoaaGreat
open Go.RowKit
set_option linter.unusedVariables false
set_option linter.unusedSimpArgs false

/-- The node at a place below n. -/
def nodeAt : Nd → List Nat → Option Nd
  | n, [] => some n
  | n, i :: r => match n.kids[i]? with
    | none => none
    | some k => nodeAt k r
theorem nodeAt_cons {n : Nd} {i : Nat} {r : List Nat} (h : i < n.kids.length) : nodeAt n (i :: r) = nodeAt n.kids[i] r := by
  rw [nodeAt, List.getElem?_eq_getElem h]
theorem nodeAt_some {n x : Nd} {i : Nat} {r : List Nat} (h : nodeAt n (i :: r) = some x) : ∃ hi : i < n.kids.length, nodeAt n.kids[i] r = some x := by
  rw [nodeAt] at h
  by_cases hi : i < n.kids.length
  · rw [List.getElem?_eq_getElem hi] at h
    exact ⟨hi, h⟩
  · rw [List.getElem?_eq_none (by omega)] at h
    cases h
theorem nodeAt_append : ∀ (p q : List Nat) (n : Nd), nodeAt n (p ++ q) = match nodeAt n p with | none => none | some x => nodeAt x q
  | [], q, n => by simp [nodeAt]
  | i :: p, q, n => by
    by_cases hi : i < n.kids.length
    · rw [List.cons_append, nodeAt_cons hi, nodeAt_cons hi, nodeAt_append p q]
    · rw [List.cons_append, nodeAt, nodeAt, List.getElem?_eq_none (by omega)]
/-- The places are those of nodes. -/
theorem mem_places : ∀ (n : Nd) (q p : List Nat), p ∈ placesN n q ↔ ∃ r, p = q ++ r ∧ (nodeAt n r).isSome = true := by
  refine Nd.ind ?_
  intro n ih q p
  have hl : ∀ (l : List Nd) (i : Nat), (∀ k ∈ l, k ∈ n.kids) → (p ∈ placesL l q i ↔ ∃ j, ∃ h : j < l.length, p ∈ placesN l[j] (q ++ [i + j])) := by
    intro l
    induction l with
    | nil => intro i _; simp [placesL]
    | cons k l ihl =>
      intro i hk
      rw [placesL, List.mem_append, ihl (i + 1) (fun x hx => hk x (by simp [hx]))]
      constructor
      · rintro (h | ⟨j, hj, h⟩)
        · exact ⟨0, by simp, by simpa using h⟩
        · exact ⟨j + 1, by simpa using hj, by simpa [show i + (j + 1) = i + 1 + j by omega] using h⟩
      · rintro ⟨j, hj, h⟩
        rcases j with _ | j
        · exact .inl (by simpa using h)
        · exact .inr ⟨j, by simpa using hj, by simpa [show i + (j + 1) = i + 1 + j by omega] using h⟩
  rw [placesN_mk, List.mem_cons, hl n.kids 0 (fun _ h => h)]
  constructor
  · rintro (rfl | ⟨j, hj, h⟩)
    · exact ⟨[], by simp, rfl⟩
    · obtain ⟨r, rfl, h2⟩ := (ih n.kids[j] (List.getElem_mem hj) _ _).1 h
      exact ⟨j :: r, by simp, by rw [nodeAt_cons hj]; exact h2⟩
  · rintro ⟨r, rfl, h⟩
    rcases r with _ | ⟨j, r⟩
    · exact .inl (by simp)
    · obtain ⟨x, hx⟩ := Option.isSome_iff_exists.1 h
      obtain ⟨hj, hx2⟩ := nodeAt_some hx
      exact .inr ⟨j, hj, (ih n.kids[j] (List.getElem_mem hj) _ _).2 ⟨r, by simp, by rw [hx2]; rfl⟩⟩
theorem place_node {n : Nd} {p : List Nat} (h : p ∈ placesN n []) : ∃ x, nodeAt n p = some x := by
  obtain ⟨r, rfl, h⟩ := (mem_places n [] p).1 h
  exact Option.isSome_iff_exists.1 h
theorem nodeAt_in {w : World} {B : Nat} : ∀ (p : List Nat) {n x : Nd}, n.In w B → nodeAt n p = some x → x.In w B
  | [], n, x, h, e => by rw [nodeAt] at e; rw [← Option.some.inj e]; exact h
  | i :: p, n, x, h, e => by
    obtain ⟨hi, e⟩ := nodeAt_some e
    exact nodeAt_in p (h.kid (List.getElem_mem hi)) e

/-! ### Formed trees -/
theorem nd_wrongL {d : Int} : ∀ {l : List Nd}, wrongL l d = 0 → ∀ k ∈ l, wrongN k d = 0
  | [], _, k, hk => by cases hk
  | x :: r, h, k, hk => by
    unfold wrongL at h
    by_cases hx : wrongN x d = 0
    · rw [if_pos hx] at h
      rcases List.mem_cons.1 hk with rfl | hk
      · exact hx
      · exact nd_wrongL h k hk
    · rw [if_neg hx] at h
      exact absurd h hx
/-- What a formed node is. -/
structure Well (n : Nd) (d : Int) : Prop where
  deep : d ≤ 16
  name : nameOk n d = true
  twice : (n.kids.map Nd.name).Nodup
  kids : ∀ k ∈ n.kids, wrongN k (d + 1) = 0
theorem well_of {n : Nd} {d : Int} (h : wrongN n d = 0) : Well n d := by
  rw [wrongN_mk] at h
  by_cases ha : aloneE n d = 0
  · rw [if_pos ha] at h
    unfold aloneE at ha
    by_cases h1 : 16 < d
    · rw [if_pos h1] at ha; omega
    rw [if_neg h1] at ha
    by_cases h2 : nameOk n d = false
    · rw [if_pos h2] at ha; omega
    rw [if_neg h2] at ha
    by_cases h3 : n.props.any misP = true
    · rw [if_pos h3] at ha; omega
    rw [if_neg h3] at ha
    by_cases h4 : twiceB (n.props.map PV.name) = true
    · rw [if_pos h4] at ha; omega
    rw [if_neg h4] at ha
    by_cases h5 : twiceB (n.kids.map Nd.name) = true
    · rw [if_pos h5] at ha; omega
    exact ⟨by omega, by simpa using h2, by simpa [twiceB] using h5, nd_wrongL h⟩
  · rw [if_neg ha] at h
    exact absurd h ha
theorem well_at : ∀ (p : List Nat) {n x : Nd} {d : Int}, wrongN n d = 0 → nodeAt n p = some x → wrongN x (d + p.length) = 0
  | [], n, x, d, h, e => by rw [nodeAt] at e; rw [← Option.some.inj e]; simpa using h
  | i :: p, n, x, d, h, e => by
    obtain ⟨hi, e⟩ := nodeAt_some e
    have := well_at p ((well_of h).kids _ (List.getElem_mem hi)) e
    rw [List.length_cons, show d + ((p.length + 1 : Nat) : Int) = d + 1 + (p.length : Int) by omega]
    exact this
/-- A place of a formed tree is at most fifteen numbers. -/
theorem place_short {n x : Nd} {p : List Nat} (h : wrongN n 1 = 0) (e : nodeAt n p = some x) : p.length ≤ 15 := by
  have := (well_of (well_at p h e)).deep
  omega
theorem root_wrong {t : Tr} (h : checkE t = 0) : wrongN t.root 1 = 0 := by
  unfold checkE at h
  by_cases h1 : wrongN t.root 1 = 0
  · exact h1
  · rw [if_neg h1] at h; exact absurd h h1
theorem idx_nodup : ∀ {l : List ByteArray} {k : Nat} (hk : k < l.length), l.Nodup → idxOf l l[k] = (k : Int)
  | l, k, hk, h => idxOf_hit l _ k hk rfl (fun j hj e => by
    have := (List.getElem_inj h).1 e
    omega)
/-- The names on the way to a place. -/
def namesAt : Nd → List Nat → List ByteArray
  | _, [] => []
  | n, i :: r => match n.kids[i]? with
    | none => []
    | some k => k.name :: namesAt k r
theorem namesAt_cons {n : Nd} {i : Nat} {r : List Nat} (h : i < n.kids.length) : namesAt n (i :: r) = n.kids[i].name :: namesAt n.kids[i] r := by
  rw [namesAt, List.getElem?_eq_getElem h]
theorem namesAt_length : ∀ (p : List Nat) {n x : Nd}, nodeAt n p = some x → (namesAt n p).length = p.length
  | [], n, x, _ => rfl
  | i :: p, n, x, e => by
    obtain ⟨hi, e⟩ := nodeAt_some e
    rw [namesAt_cons hi, List.length_cons, List.length_cons, namesAt_length p e]
/-- Each is a node's name. -/
theorem namesAt_ok : ∀ (p : List Nat) {n x : Nd} {d : Int}, 1 ≤ d → wrongN n d = 0 → nodeAt n p = some x → ∀ s ∈ namesAt n p, nodeB s = true
  | [], n, x, d, _, _, _, s, hs => by cases hs
  | i :: p, n, x, d, hd, h, e, s, hs => by
    obtain ⟨hi, e⟩ := nodeAt_some e
    have hw := (well_of h).kids _ (List.getElem_mem hi)
    rw [namesAt_cons hi] at hs
    rcases List.mem_cons.1 hs with rfl | hs
    · have := (well_of hw).name
      unfold nameOk at this
      rwa [if_neg (by omega)] at this
    · exact namesAt_ok p (by omega) hw e s hs
/-- One step further. -/
theorem nodeAt_next {n x : Nd} {p : List Nat} {i : Nat} (h : nodeAt n p = some x) (hi : i < x.kids.length) : nodeAt n (p ++ [i]) = some x.kids[i] := by
  rw [nodeAt_append, h]
  show nodeAt x [i] = _
  rw [nodeAt_cons hi, nodeAt]
theorem namesAt_next : ∀ (p : List Nat) {n x : Nd} {i : Nat}, nodeAt n p = some x → ∀ hi : i < x.kids.length, namesAt n (p ++ [i]) = namesAt n p ++ [x.kids[i].name]
  | [], n, x, i, h, hi => by
    rw [nodeAt] at h
    obtain rfl := Option.some.inj h
    rw [List.nil_append, namesAt_cons hi, namesAt]
    rfl
  | j :: p, n, x, i, h, hi => by
    obtain ⟨hj, e⟩ := nodeAt_some h
    rw [List.cons_append, namesAt_cons hj, namesAt_cons hj, namesAt_next p e hi]
    rfl

/-! ### Paths -/
/-- A path's bytes: of each name a stroke and it. -/
def pathB (l : List ByteArray) : List UInt8 := l.flatMap fun s => 47 :: s.data.toList
/-- The path of a place. -/
def pathOf (n : Nd) (p : List Nat) : ByteArray := ⟨(if p = [] then [47] else pathB (namesAt n p)).toArray⟩
theorem pathB_append (a b : List ByteArray) : pathB (a ++ b) = pathB a ++ pathB b := by unfold pathB; rw [List.flatMap_append]
theorem okM_not {m : List UInt8} {c : UInt8} (hl : letB (c.toNat : Int) = false) (hd : digB (c.toNat : Int) = false) (hm : c ∉ m) : okM m c = false := by
  have e : ¬ 0 ≤ Lib.indexByte m c := by
    intro h0
    obtain ⟨k, hk⟩ := Int.eq_ofNat_of_zero_le h0
    obtain ⟨h1, h2⟩ := Lib.indexByte_some hk
    exact hm (List.mem_of_getElem? h1)
  unfold okM
  simp [hl, hd, e]
theorem madeB_not {m l : List UInt8} {c : UInt8} (hl : letB (c.toNat : Int) = false) (hd : digB (c.toNat : Int) = false) (hm : c ∉ m) (h : madeB m l = true) : c ∉ l := by
  intro h0
  unfold madeB at h
  simp only [Bool.and_eq_true, List.all_eq_true] at h
  have := h.2 c h0
  rw [okM_not hl hd hm] at this
  cases this
/-- A node's name has none of these bytes. -/
theorem nodeB_not {s : ByteArray} {c : UInt8} (hl : letB (c.toNat : Int) = false) (hd : digB (c.toNat : Int) = false) (hm : c ∉ nodeMarks) (hat : c ≠ 64) (h : nodeB s = true) : c ∉ s.data.toList := by
  unfold nodeB at h
  split at h
  · exact madeB_not hl hd hm (by unfold baseB at h; simp only [Bool.and_eq_true] at h; exact h.1)
  · rename_i hc
    simp only [Bool.and_eq_true] at h
    rcases cut_or_not s with hn | ⟨i, hi⟩
    · exact absurd hn hc
    · have e : (Lib.indexByte s.data.toList 64).toNat = i := by rw [hi.2]; rfl
      rw [e] at h
      have h1 := madeB_not hl hd hm (by have := h.1; unfold baseB at this; simp only [Bool.and_eq_true] at this; exact this.1)
      have h2 := madeB_not hl hd hm h.2
      intro h0
      obtain ⟨k, e0⟩ := List.getElem?_of_mem h0
      have c1 := (Lib.indexByte_some hi.2).1
      rw [ByteArray.data_extract, Array.toList_extract, List.extract_eq_take_drop] at h1 h2
      rcases Nat.lt_trichotomy k i with hk | hk | hk
      · exact h1 (List.mem_of_getElem? (i := k) (by rw [List.getElem?_take_of_lt (by omega), List.drop_zero]; exact e0))
      · subst hk
        rw [c1] at e0
        exact hat (Option.some.inj e0).symm
      · have hk2 : k < s.size := (List.getElem?_eq_some_iff.1 e0).1
        exact h2 (List.mem_of_getElem? (i := k - (i + 1)) (by rw [List.getElem?_take_of_lt (by omega), List.getElem?_drop, show i + 1 + (k - (i + 1)) = k by omega]; exact e0))
theorem nodeB_stroke {s : ByteArray} (h : nodeB s = true) : (47 : UInt8) ∉ s.data.toList := nodeB_not (by decide) (by decide) (by decide) (by decide) h
theorem nodeB_some6 {s : ByteArray} (h : nodeB s = true) : s.data.toList ≠ [] := by
  intro h0
  unfold nodeB at h
  rw [h0] at h
  have e : Lib.indexByte ([] : List UInt8) 64 = -1 := by decide
  rw [e, if_pos rfl] at h
  revert h
  decide
end Go.Proofs.YtmgokplpkmndoaaGreat
