/-
  Base, part 4: what the proofs of this claim lean on.
-/
import Derived.Test.YtijhjlpkbnajpaaBase3
import Derived.Test.YtijhjlpkbnajpaaBase1
import Derived.Laws.Bits64
import Derived.Laws.BitsAllLaws
import Derived.Test.YtijhjlpkbnajpaaBase2
import Derived.Lib.Bytes
import Derived.Lib.SmallJoins
import Derived.OwnWalk

/-! Places and paths: which node stands at a place; its path's names lead to it. -/
namespace Go.Proofs.Ytijhjlpkbnajpaa
open Go.RowKit
set_option linter.unusedVariables false
set_option linter.unusedSimpArgs false

/-- The node at a place below n. -/
def nodeAt : Nd → List Nat → Option Nd
  | n, [] => some n
  | n, i :: r => match n.kids[i]? with
    | none => none
    | some k => nodeAt k r
theorem nodeAt_cons {n : Nd} {i : Nat} {r : List Nat} (h : i < n.kids.length) : nodeAt n (i :: r) = nodeAt n.kids[i] r := by
  rw [nodeAt, List.getElem?_eq_getElem h]
theorem nodeAt_some {n x : Nd} {i : Nat} {r : List Nat} (h : nodeAt n (i :: r) = some x) : ∃ hi : i < n.kids.length, nodeAt n.kids[i] r = some x := by
  rw [nodeAt] at h
  by_cases hi : i < n.kids.length
  · rw [List.getElem?_eq_getElem hi] at h
    exact ⟨hi, h⟩
  · rw [List.getElem?_eq_none (by omega)] at h
    cases h
theorem nodeAt_append : ∀ (p q : List Nat) (n : Nd), nodeAt n (p ++ q) = match nodeAt n p with | none => none | some x => nodeAt x q
  | [], q, n => by simp [nodeAt]
  | i :: p, q, n => by
    by_cases hi : i < n.kids.length
    · rw [List.cons_append, nodeAt_cons hi, nodeAt_cons hi, nodeAt_append p q]
    · rw [List.cons_append, nodeAt, nodeAt, List.getElem?_eq_none (by omega)]
/-- The places are those of nodes. -/
theorem mem_places : ∀ (n : Nd) (q p : List Nat), p ∈ placesN n q ↔ ∃ r, p = q ++ r ∧ (nodeAt n r).isSome = true := by
  refine Nd.ind ?_
  intro n ih q p
  have hl : ∀ (l : List Nd) (i : Nat), (∀ k ∈ l, k ∈ n.kids) → (p ∈ placesL l q i ↔ ∃ j, ∃ h : j < l.length, p ∈ placesN l[j] (q ++ [i + j])) := by
    intro l
    induction l with
    | nil => intro i _; simp [placesL]
    | cons k l ihl =>
      intro i hk
      rw [placesL, List.mem_append, ihl (i + 1) (fun x hx => hk x (by simp [hx]))]
      constructor
      · rintro (h | ⟨j, hj, h⟩)
        · exact ⟨0, by simp, by simpa using h⟩
        · exact ⟨j + 1, by simpa using hj, by simpa [show i + (j + 1) = i + 1 + j by omega] using h⟩
      · rintro ⟨j, hj, h⟩
        rcases j with _ | j
        · exact .inl (by simpa using h)
        · exact .inr ⟨j, by simpa using hj, by simpa [show i + (j + 1) = i + 1 + j by omega] using h⟩
  rw [placesN_mk, List.mem_cons, hl n.kids 0 (fun _ h => h)]
  constructor
  · rintro (rfl | ⟨j, hj, h⟩)
    · exact ⟨[], by simp, rfl⟩
    · obtain ⟨r, rfl, h2⟩ := (ih n.kids[j] (List.getElem_mem hj) _ _).1 h
      exact ⟨j :: r, by simp, by rw [nodeAt_cons hj]; exact h2⟩
  · rintro ⟨r, rfl, h⟩
    rcases r with _ | ⟨j, r⟩
    · exact .inl (by simp)
    · obtain ⟨x, hx⟩ := Option.isSome_iff_exists.1 h
      obtain ⟨hj, hx2⟩ := nodeAt_some hx
      exact .inr ⟨j, hj, (ih n.kids[j] (List.getElem_mem hj) _ _).2 ⟨r, by simp, by rw [hx2]; rfl⟩⟩
theorem place_node {n : Nd} {p : List Nat} (h : p ∈ placesN n []) : ∃ x, nodeAt n p = some x := by
  obtain ⟨r, rfl, h⟩ := (mem_places n [] p).1 h
  exact Option.isSome_iff_exists.1 h
theorem nodeAt_in {w : World} {B : Nat} : ∀ (p : List Nat) {n x : Nd}, n.In w B → nodeAt n p = some x → x.In w B
  | [], n, x, h, e => by rw [nodeAt] at e; rw [← Option.some.inj e]; exact h
  | i :: p, n, x, h, e => by
    obtain ⟨hi, e⟩ := nodeAt_some e
    exact nodeAt_in p (h.kid (List.getElem_mem hi)) e

/-! ### Formed trees -/
theorem nd_wrongL {d : Int} : ∀ {l : List Nd}, wrongL l d = 0 → ∀ k ∈ l, wrongN k d = 0
  | [], _, k, hk => by cases hk
  | x :: r, h, k, hk => by
    unfold wrongL at h
    by_cases hx : wrongN x d = 0
    · rw [if_pos hx] at h
      rcases List.mem_cons.1 hk with rfl | hk
      · exact hx
      · exact nd_wrongL h k hk
    · rw [if_neg hx] at h
      exact absurd h hx
/-- What a formed node is. -/
structure Well (n : Nd) (d : Int) : Prop where
  deep : d ≤ 16
  name : nameOk n d = true
  twice : (n.kids.map Nd.name).Nodup
  kids : ∀ k ∈ n.kids, wrongN k (d + 1) = 0
theorem well_of {n : Nd} {d : Int} (h : wrongN n d = 0) : Well n d := by
  rw [wrongN_mk] at h
  by_cases ha : aloneE n d = 0
  · rw [if_pos ha] at h
    unfold aloneE at ha
    by_cases h1 : 16 < d
    · rw [if_pos h1] at ha; omega
    rw [if_neg h1] at ha
    by_cases h2 : nameOk n d = false
    · rw [if_pos h2] at ha; omega
    rw [if_neg h2] at ha
    by_cases h3 : n.props.any misP = true
    · rw [if_pos h3] at ha; omega
    rw [if_neg h3] at ha
    by_cases h4 : twiceB (n.props.map PV.name) = true
    · rw [if_pos h4] at ha; omega
    rw [if_neg h4] at ha
    by_cases h5 : twiceB (n.kids.map Nd.name) = true
    · rw [if_pos h5] at ha; omega
    exact ⟨by omega, by simpa using h2, by simpa [twiceB] using h5, nd_wrongL h⟩
  · rw [if_neg ha] at h
    exact absurd h ha
theorem well_at : ∀ (p : List Nat) {n x : Nd} {d : Int}, wrongN n d = 0 → nodeAt n p = some x → wrongN x (d + p.length) = 0
  | [], n, x, d, h, e => by rw [nodeAt] at e; rw [← Option.some.inj e]; simpa using h
  | i :: p, n, x, d, h, e => by
    obtain ⟨hi, e⟩ := nodeAt_some e
    have := well_at p ((well_of h).kids _ (List.getElem_mem hi)) e
    rw [List.length_cons, show d + ((p.length + 1 : Nat) : Int) = d + 1 + (p.length : Int) by omega]
    exact this
/-- A place of a formed tree is at most fifteen numbers. -/
theorem place_short {n x : Nd} {p : List Nat} (h : wrongN n 1 = 0) (e : nodeAt n p = some x) : p.length ≤ 15 := by
  have := (well_of (well_at p h e)).deep
  omega
theorem root_wrong {t : Tr} (h : checkE t = 0) : wrongN t.root 1 = 0 := by
  unfold checkE at h
  by_cases h1 : wrongN t.root 1 = 0
  · exact h1
  · rw [if_neg h1] at h; exact absurd h h1
theorem idx_nodup : ∀ {l : List ByteArray} {k : Nat} (hk : k < l.length), l.Nodup → idxOf l l[k] = (k : Int)
  | l, k, hk, h => idxOf_hit l _ k hk rfl (fun j hj e => by
    have := (List.getElem_inj h).1 e
    omega)
/-- The names on the way to a place. -/
def namesAt : Nd → List Nat → List ByteArray
  | _, [] => []
  | n, i :: r => match n.kids[i]? with
    | none => []
    | some k => k.name :: namesAt k r
theorem namesAt_cons {n : Nd} {i : Nat} {r : List Nat} (h : i < n.kids.length) : namesAt n (i :: r) = n.kids[i].name :: namesAt n.kids[i] r := by
  rw [namesAt, List.getElem?_eq_getElem h]
theorem namesAt_length : ∀ (p : List Nat) {n x : Nd}, nodeAt n p = some x → (namesAt n p).length = p.length
  | [], n, x, _ => rfl
  | i :: p, n, x, e => by
    obtain ⟨hi, e⟩ := nodeAt_some e
    rw [namesAt_cons hi, List.length_cons, List.length_cons, namesAt_length p e]
/-- Each is a node's name. -/
theorem namesAt_ok : ∀ (p : List Nat) {n x : Nd} {d : Int}, 1 ≤ d → wrongN n d = 0 → nodeAt n p = some x → ∀ s ∈ namesAt n p, nodeB s = true
  | [], n, x, d, _, _, _, s, hs => by cases hs
  | i :: p, n, x, d, hd, h, e, s, hs => by
    obtain ⟨hi, e⟩ := nodeAt_some e
    have hw := (well_of h).kids _ (List.getElem_mem hi)
    rw [namesAt_cons hi] at hs
    rcases List.mem_cons.1 hs with rfl | hs
    · have := (well_of hw).name
      unfold nameOk at this
      rwa [if_neg (by omega)] at this
    · exact namesAt_ok p (by omega) hw e s hs
/-- One step further. -/
theorem nodeAt_next {n x : Nd} {p : List Nat} {i : Nat} (h : nodeAt n p = some x) (hi : i < x.kids.length) : nodeAt n (p ++ [i]) = some x.kids[i] := by
  rw [nodeAt_append, h]
  show nodeAt x [i] = _
  rw [nodeAt_cons hi, nodeAt]
theorem namesAt_next : ∀ (p : List Nat) {n x : Nd} {i : Nat}, nodeAt n p = some x → ∀ hi : i < x.kids.length, namesAt n (p ++ [i]) = namesAt n p ++ [x.kids[i].name]
  | [], n, x, i, h, hi => by
    rw [nodeAt] at h
    obtain rfl := Option.some.inj h
    rw [List.nil_append, namesAt_cons hi, namesAt]
    rfl
  | j :: p, n, x, i, h, hi => by
    obtain ⟨hj, e⟩ := nodeAt_some h
    rw [List.cons_append, namesAt_cons hj, namesAt_cons hj, namesAt_next p e hi]
    rfl

/-! ### Paths -/
/-- A path's bytes: of each name a stroke and it. -/
def pathB (l : List ByteArray) : List UInt8 := l.flatMap fun s => 47 :: s.data.toList
/-- The path of a place. -/
def pathOf (n : Nd) (p : List Nat) : ByteArray := ⟨(if p = [] then [47] else pathB (namesAt n p)).toArray⟩
theorem pathB_append (a b : List ByteArray) : pathB (a ++ b) = pathB a ++ pathB b := by unfold pathB; rw [List.flatMap_append]
theorem okM_not {m : List UInt8} {c : UInt8} (hl : letB (c.toNat : Int) = false) (hd : digB (c.toNat : Int) = false) (hm : c ∉ m) : okM m c = false := by
  have e : ¬ 0 ≤ Lib.indexByte m c := by
    intro h0
    obtain ⟨k, hk⟩ := Int.eq_ofNat_of_zero_le h0
    obtain ⟨h1, h2⟩ := Lib.indexByte_some hk
    exact hm (List.mem_of_getElem? h1)
  unfold okM
  simp [hl, hd, e]
theorem madeB_not {m l : List UInt8} {c : UInt8} (hl : letB (c.toNat : Int) = false) (hd : digB (c.toNat : Int) = false) (hm : c ∉ m) (h : madeB m l = true) : c ∉ l := by
  intro h0
  unfold madeB at h
  simp only [Bool.and_eq_true, List.all_eq_true] at h
  have := h.2 c h0
  rw [okM_not hl hd hm] at this
  cases this
/-- A node's name has none of these bytes. -/
theorem nodeB_not {s : ByteArray} {c : UInt8} (hl : letB (c.toNat : Int) = false) (hd : digB (c.toNat : Int) = false) (hm : c ∉ nodeMarks) (hat : c ≠ 64) (h : nodeB s = true) : c ∉ s.data.toList := by
  unfold nodeB at h
  split at h
  · exact madeB_not hl hd hm (by unfold baseB at h; simp only [Bool.and_eq_true] at h; exact h.1)
  · rename_i hc
    simp only [Bool.and_eq_true] at h
    rcases cut_or_not s with hn | ⟨i, hi⟩
    · exact absurd hn hc
    · have e : (Lib.indexByte s.data.toList 64).toNat = i := by rw [hi.2]; rfl
      rw [e] at h
      have h1 := madeB_not hl hd hm (by have := h.1; unfold baseB at this; simp only [Bool.and_eq_true] at this; exact this.1)
      have h2 := madeB_not hl hd hm h.2
      intro h0
      obtain ⟨k, e0⟩ := List.getElem?_of_mem h0
      have c1 := (Lib.indexByte_some hi.2).1
      rw [ByteArray.data_extract, Array.toList_extract, List.extract_eq_take_drop] at h1 h2
      rcases Nat.lt_trichotomy k i with hk | hk | hk
      · exact h1 (List.mem_of_getElem? (i := k) (by rw [List.getElem?_take_of_lt (by omega), List.drop_zero]; exact e0))
      · subst hk
        rw [c1] at e0
        exact hat (Option.some.inj e0).symm
      · have hk2 : k < s.size := (List.getElem?_eq_some_iff.1 e0).1
        exact h2 (List.mem_of_getElem? (i := k - (i + 1)) (by rw [List.getElem?_take_of_lt (by omega), List.getElem?_drop, show i + 1 + (k - (i + 1)) = k by omega]; exact e0))
theorem nodeB_stroke {s : ByteArray} (h : nodeB s = true) : (47 : UInt8) ∉ s.data.toList := nodeB_not (by decide) (by decide) (by decide) (by decide) h
theorem nodeB_some6 {s : ByteArray} (h : nodeB s = true) : s.data.toList ≠ [] := by
  intro h0
  unfold nodeB at h
  rw [h0] at h
  have e : Lib.indexByte ([] : List UInt8) 64 = -1 := by decide
  rw [e, if_pos rfl] at h
  revert h
  decide
end Go.Proofs.Ytijhjlpkbnajpaa

/-! Numbers in bytes, read by the program: the number, or none; slices of any length. -/
namespace Go.Proofs.Ytijhjlpkbnajpaa
open Go.RowKit
set_option linter.unusedVariables false

/-- The number of k bytes from place a on, the greatest first. -/
def numTo (zs : List Int) (a : Nat) : Nat → Int
  | 0 => 0
  | k + 1 => numTo zs a k * 256 + zs.getD (a + k) 0

theorem numTo_bound (zs : List Int) (a : Nat) (hz : ∀ i, 0 ≤ zs.getD i 0 ∧ zs.getD i 0 < 256) : ∀ k, 0 ≤ numTo zs a k ∧ numTo zs a k < 256 ^ k
  | 0 => by simp [numTo]
  | k + 1 => by
    have := numTo_bound zs a hz k
    have := hz (a + k)
    simp only [numTo, Int.pow_succ]
    omega

theorem numTo_lt64 (zs : List Int) (a k : Nat) (hz : ∀ i, 0 ≤ zs.getD i 0 ∧ zs.getD i 0 < 256) (hk : k ≤ 8) : 0 ≤ numTo zs a k ∧ numTo zs a k ≤ 18446744073709551615 := by
  have h := numTo_bound zs a hz k
  have h2 : (256 : Int) ^ k ≤ 256 ^ 8 := by
    have : k = 0 ∨ k = 1 ∨ k = 2 ∨ k = 3 ∨ k = 4 ∨ k = 5 ∨ k = 6 ∨ k = 7 ∨ k = 8 := by omega
    rcases this with h | h | h | h | h | h | h | h | h <;> subst h <;> decide
  have h3 : (256 : Int) ^ 8 = 18446744073709551616 := by decide
  omega

theorem or_byte (v z : Int) (h0 : 0 ≤ v) (h1 : v * 256 + z ≤ 18446744073709551615) (h2 : 0 ≤ z) (h3 : z < 256) : bits .or .u64 (v * 256) z = v * 256 + z := by
  obtain ⟨a, rfl⟩ := Int.eq_ofNat_of_zero_le h0
  obtain ⟨b, rfl⟩ := Int.eq_ofNat_of_zero_le h2
  have e : ((a : Int) * 256) = ((a * 256 : Nat) : Int) := by omega
  rw [e, u64_or_nat (a * 256) b (by omega) (by omega), nat_join 8 (a * 256) b (by omega) (by omega)]
  omega

set_option maxHeartbeats 400000 in
theorem holds_any (A : Option Addr) (n c : Nat) (at_ k : Int) (w : World) (hn : n ≤ 9223372036854775807) (hk : 0 ≤ k ∧ k ≤ 16) (ha : -9223372036854775808 ≤ at_ ∧ at_ ≤ 9223372036854775807) (r : Bool) (hr : r = decide (0 ≤ at_ ∧ k ≤ n - at_)) :
    Calls Try.prog 35 #[.slice A n c, .int .i64 at_, .int .i64 k] w fun e w' => e = .returned (.bool r) ∧ w = w' := by
  obtain ⟨a0, a1⟩ := ha
  by_cases h0 : 0 ≤ at_
  · by_cases h1 : k ≤ (n : Int) - at_
    · obtain rfl : r = true := by rw [hr]; simp; omega
      clear hr
      go_enter Try.func35, Try.ntmps35
      go_wp2
      go_ret
      exact ⟨rfl, rfl⟩
    · obtain rfl : r = false := by rw [hr]; simp; omega
      clear hr
      go_enter Try.func35, Try.ntmps35
      go_wp2
      go_ret
      exact ⟨rfl, rfl⟩
  · obtain rfl : r = false := by rw [hr]; simp; omega
    clear hr
    go_enter Try.func35, Try.ntmps35
    go_wp2
    go_ret
    exact ⟨rfl, rfl⟩

set_option maxHeartbeats 400000 in
theorem numb_no (A : Option Addr) (n c : Nat) (at_ k : Int) (w : World) (h : ¬ (0 ≤ at_ ∧ k ≤ n - at_)) (hn : n ≤ 9223372036854775807) (hk : 0 ≤ k ∧ k ≤ 16) (ha : -9223372036854775808 ≤ at_ ∧ at_ ≤ 9223372036854775807) :
    Calls Try.prog 34 #[.slice A n c, .int .i64 at_, .int .i64 k] w fun e w' => e = .returned (.tuple #[.int .u64 0, .bool false]) ∧ w = w' := by
  have H := holds_any A n c at_ k w hn hk ha false (by simp; omega)
  have HH := Lib.hid H
  clear H h hk ha
  go_enter Try.func34, Try.ntmps34
  go_wp2_with (go_at_call 35; refine HH.out.mono ?_; rintro e w' ⟨rfl, rfl⟩)
  go_ret2
  exact ⟨rfl, rfl⟩

set_option maxHeartbeats 400000 in
theorem numb_yes (A : Option Addr) (n c k a : Nat) (zs : List Int) (w : World) (B : Nat) (hs : Shows w B A n zs) (h : a + k ≤ n) (hn : n ≤ 9223372036854775807) (hnc : n ≤ c) (hc63 : c ≤ maxLen) (hk0 : 0 < k) (hk : k ≤ 8) :
    Calls Try.prog 34 #[.slice A n c, .int .i64 a, .int .i64 k] w fun e w' => e = .returned (.tuple #[.int .u64 (numTo zs a k), .bool true]) ∧ w = w' := by
  have H := holds_any A n c a k w hn (by omega) (by omega) true (by simp; omega)
  have HH := Lib.hid H
  obtain ⟨b, o, rfl, _, hc⟩ := hs.at_ (by omega)
  have hz := hs.byte
  clear hs H
  have HC := Lib.hid hc
  have HZ := Lib.hid hz
  clear hc hz
  unfold maxLen at hc63
  go_enter Try.func34, Try.ntmps34
  go_wp2_with (go_at_call 35; refine HH.out.mono ?_; rintro e w' ⟨rfl, rfl⟩)
  go_loop [8, 23] (fun v i => ∃ j : Nat, j ≤ k ∧ i = .int .i64 j ∧ v = .int .u64 (numTo zs a j)) (fun _ i => k - (intOf i).toNat)
  case atStart => exact ⟨0, by omega, rfl, rfl⟩
  case round =>
    obtain ⟨j, hj, rfl, rfl⟩ := hrel
    by_cases hlt : j < k
    · have hcell := HC.out (a + j) (by omega)
      rw [← Nat.add_assoc] at hcell
      have hzb := HZ.out (a + j)
      have hb := numTo_lt64 zs a j HZ.out (by omega)
      have hb2 := numTo_lt64 zs a (j + 1) HZ.out (by omega)
      simp only [numTo] at hb2
      go_wp2
      go_round
      case rel => exact ⟨j + 1, by omega, by go_num, by
        have e : zs[a + j]?.getD 0 = zs.getD (a + j) 0 := by simp [List.getD]
        rw [e, IntWalk.u64_in (zs.getD (a + j) 0) (by omega), or_byte _ _ hb.1 hb2.2 hzb.1 hzb.2]; rfl⟩
      case measure => simp [intOf]; omega
    · obtain rfl : j = k := by omega
      go_wp2
      go_ret2
      exact ⟨rfl, rfl⟩

/-- words.Get, words.Get64: there are no so many bytes. -/
theorem get_no (A : Option Addr) (n c : Nat) (at_ : Int) (w : World) (h : ¬ (0 ≤ at_ ∧ 4 ≤ n - at_)) (hn : n ≤ 9223372036854775807) (ha : -9223372036854775808 ≤ at_ ∧ at_ ≤ 9223372036854775807) :
    Calls Try.prog 33 #[.slice A n c, .int .i64 at_] w fun e w' => e = .returned (.tuple #[.int .u32 0, .bool false]) ∧ w = w' := by
  have HH := Lib.hid (numb_no A n c at_ 4 w h hn (by omega) ha)
  clear h
  go_enter Try.func33, Try.ntmps33
  go_wp2_with (go_at_call 34; refine HH.out.mono ?_; rintro e w' ⟨rfl, rfl⟩)
  go_ret2
  exact ⟨rfl, rfl⟩
theorem get_yes (A : Option Addr) (n c a : Nat) (zs : List Int) (w : World) (B : Nat) (hs : Shows w B A n zs) (h : a + 4 ≤ n) (hn : n ≤ 9223372036854775807) (hnc : n ≤ c) (hc63 : c ≤ maxLen) :
    Calls Try.prog 33 #[.slice A n c, .int .i64 a] w fun e w' => e = .returned (.tuple #[.int .u32 (numTo zs a 4), .bool true]) ∧ w = w' := by
  have HH := Lib.hid (numb_yes A n c 4 a zs w B hs h hn hnc hc63 (by omega) (by omega))
  have hb := numTo_bound zs a hs.byte 4
  have hb1 : 0 ≤ numTo zs a 4 := hb.1
  have hb2 : numTo zs a 4 ≤ 4294967295 := by have := hb.2; have e : (256 : Int) ^ 4 = 4294967296 := by decide
                                             omega
  clear hb hs h hnc hc63
  go_enter Try.func33, Try.ntmps33
  go_wp2_with (go_at_call 34; refine HH.out.mono ?_; rintro e w' ⟨rfl, rfl⟩)
  go_ret2
  exact ⟨rfl, rfl⟩
end Go.Proofs.Ytijhjlpkbnajpaa

/-! decode.Header: the ten cells, or what is wrong with them. -/
namespace Go.Proofs.Ytijhjlpkbnajpaa
open Go.RowKit
set_option linter.unusedVariables false
set_option linter.unusedSimpArgs false

/-- Does a part lie within so many bytes, behind the header? -/
def within (a s t : Int) : Bool := decide (40 ≤ a ∧ a ≤ t ∧ s ≤ t - a)

/-- Do the parts that the ten cells tell lie within? -/
def parts (h1 h2 h3 h4 h8 h9 : Int) : Bool := within h2 h9 h1 && (decide (h2 % 4 = 0) && (within h3 h8 h1 && (within h4 0 h1 && decide (h4 % 8 = 0))))

/-- words.Get at a place that is there. -/
theorem get_at (A : Option Addr) (n c a : Nat) (q : Int) (hq : q = (a : Int)) (zs : List Int) (w : World) (B : Nat) (hs : Shows w B A n zs) (h : a + 4 ≤ n) (hn : n ≤ 9223372036854775807) (hnc : n ≤ c) (hc63 : c ≤ maxLen) (x : Int) (hx : numTo zs a 4 = x) :
    Calls Try.prog 33 #[.slice A n c, .int .i64 q] w fun e w' => e = .returned (.tuple #[.int .u32 x, .bool true]) ∧ w = w' := by
  subst hq hx
  exact get_yes A n c a zs w B hs h hn hnc hc63

/-- The i-th of the ten cells. -/
def hcell (zs : List Int) (i : Nat) : Int := numTo zs (i * 4) 4
theorem hcell_bound {zs : List Int} (hz : ∀ i, 0 ≤ zs.getD i 0 ∧ zs.getD i 0 < 256) (i : Nat) : 0 ≤ hcell zs i ∧ hcell zs i ≤ 4294967295 := by
  have h := numTo_bound zs (i * 4) hz 4
  have e : (256 : Int) ^ 4 = 4294967296 := by decide
  unfold hcell
  omega

/-- The ten cells, of which k are read. -/
def filled (f : Nat → Int) (k : Nat) : Array Value := ((List.range 10).map fun j => Value.int .u32 (if j < k then f j else 0)).toArray
theorem filled_set (f : Nat → Int) (k : Nat) (hk : k < 10) : (filled f k).setIfInBounds k (.int .u32 (f k)) = filled f (k + 1) := by
  apply Array.toList_inj.1
  simp only [filled, Array.toList_setIfInBounds]
  apply List.ext_getElem
  · simp
  · intro i h1 h2
    simp only [List.length_map, List.length_range] at h2
    rw [List.getElem_set]
    split
    · subst i; simp
    · simp only [List.getElem_map, List.getElem_range]
      congr 1
      by_cases h : i < k
      · rw [if_pos h, if_pos (by omega)]
      · rw [if_neg h, if_neg (by omega)]
theorem filled_none (f : Nat → Int) : filled f 0 = #[.int .u32 0, .int .u32 0, .int .u32 0, .int .u32 0, .int .u32 0, .int .u32 0, .int .u32 0, .int .u32 0, .int .u32 0, .int .u32 0] := by
  apply Array.toList_inj.1
  simp [filled, List.range_succ]
theorem filled_all (f : Nat → Int) : filled f 10 = #[.int .u32 (f 0), .int .u32 (f 1), .int .u32 (f 2), .int .u32 (f 3), .int .u32 (f 4), .int .u32 (f 5), .int .u32 (f 6), .int .u32 (f 7), .int .u32 (f 8), .int .u32 (f 9)] := by
  apply Array.toList_inj.1
  simp [filled, List.range_succ]
theorem filled_size (f : Nat → Int) (k : Nat) : (filled f k).size = 10 := by simp [filled]

/-- What is wrong with the header of n bytes; 0: nothing. -/
def headE (n : Nat) (x0 x1 x2 x3 x4 x5 x6 x8 x9 : Int) : Int :=
  if x0 = 3490578157 then (if x5 = 17 ∧ x6 = 16 then (if x1 = (n : Int) ∧ parts x1 x2 x3 x4 x8 x9 = true then 0 else 4) else 3) else 2

/-- What Header answers: the cells beside 0, noughts beside an error. -/
def Headed (f : Nat → Int) (E : Int) (e : Ending) : Prop := ∃ v, e = .returned (.tuple #[v, .int .i64 E]) ∧ (E = 0 → v = .agg (filled f 10)) ∧ (E ≠ 0 → v = .agg (filled f 0))

/-- Decode of bytes with no good header: the header's error. -/
theorem headed_ne {f : Nat → Int} {E : Int} {e : Ending} (h : Headed f E e) (hE : E ≠ 0) : e = .returned (.tuple #[.agg #[.int .u32 0, .int .u32 0, .int .u32 0, .int .u32 0, .int .u32 0, .int .u32 0, .int .u32 0, .int .u32 0, .int .u32 0, .int .u32 0], .int .i64 E]) := by
  obtain ⟨v, rfl, _, h2⟩ := h
  rw [h2 hE, filled_none]

end Go.Proofs.Ytijhjlpkbnajpaa

/-! Layer 4: what Decode answers, as a function of the bytes alone. -/
namespace Go.Proofs.Ytijhjlpkbnajpaa
open Go.RowKit
set_option linter.unusedVariables false
set_option linter.unusedSimpArgs false

/-- A node without addresses. -/
inductive PN where
  | mk (name : ByteArray) (props : List (ByteArray × List Int)) (kids : List PN)
namespace PN
def name : PN → ByteArray | .mk n _ _ => n
def props : PN → List (ByteArray × List Int) | .mk _ p _ => p
def kids : PN → List PN | .mk _ _ k => k
end PN
instance : Inhabited PN := ⟨.mk ⟨#[]⟩ [] []⟩

def PV.pure (p : PV) : ByteArray × List Int := (p.name, p.zs)
mutual
def pureN : Nd → PN
  | .mk n _ _ ps _ _ ks => .mk n (ps.map PV.pure) (pureL ks)
def pureL : List Nd → List PN
  | [] => []
  | k :: r => pureN k :: pureL r
end
theorem pureL_map : ∀ l : List Nd, pureL l = l.map pureN
  | [] => by simp [pureL]
  | k :: r => by simp [pureL, pureL_map r]
theorem pureN_mk (n : Nd) : pureN n = .mk n.name (n.props.map PV.pure) (n.kids.map pureN) := by
  cases n; simp only [pureN, pureL_map]; rfl

/-- A node that is being read: its name, what is read of it, and which names are taken by nodes below it. -/
structure PF where
  name : ByteArray
  props : List (ByteArray × List Int)
  kids : List PN
  taken : List ByteArray
def PF.done (f : PF) : PN := .mk f.name f.props f.kids
def PF.new (s : ByteArray) : PF := ⟨s, [], [], []⟩

/-- Where the reader stands: the place of the next token, the innermost node, those around it. -/
structure PSt where
  pos : Nat
  top : PF
  below : List PF

theorem padN_mod (n : Nat) : (n + padN n) % 4 = 0 := by unfold padN; omega

def tokAt (S : List Int) (a : Nat) : Option Int := if a + 4 ≤ S.length then some (numTo S a 4) else none
/-- The bytes from a place on up to the next nought. -/
def textFrom (S : List Int) (a : Nat) : Option (List Int) := if 0 ∈ S.drop a then some ((S.drop a).takeWhile fun z => decide (z ≠ 0)) else none
/-- The place behind noughts up to a multiple of 4. -/
def behind (S : List Int) (a : Nat) : Option Nat := if a + padN a ≤ S.length ∧ ∀ x ∈ (S.drop a).take (padN a), x = 0 then some (a + padN a) else none

/-- May a token stand, where there are so many open nodes around the innermost one, which has so many nodes? -/
def standB (b k : Nat) (tok : Int) : Bool :=
  if tok = 1 then (decide (0 < b) || decide (k = 0)) else if tok = 2 then decide (0 < b) else if tok = 3 then (decide (0 < b) && decide (k = 0)) else if tok = 4 then true else if tok = 9 then (decide (b = 0) && decide (k = 1)) else false

/-- Is a name among those? -/
def hasS (l : List ByteArray) (s : ByteArray) : Bool := l.any fun x => decide (x = s)
theorem hasS_iff {l : List ByteArray} {s : ByteArray} : hasS l s = true ↔ s ∈ l := by
  unfold hasS
  rw [List.any_eq_true]
  exact ⟨fun ⟨x, h1, h2⟩ => by rw [← of_decide_eq_true h2]; exact h1, fun h => ⟨s, h, decide_eq_true rfl⟩⟩
theorem hasS_false {l : List ByteArray} {s : ByteArray} : hasS l s = false ↔ s ∉ l := by
  rw [← hasS_iff]; simp

noncomputable def okName (s : ByteArray) (d : Nat) : Bool := if d = 1 then s.toList.isEmpty else nodeB s

noncomputable def beginF (S : List Int) (st : PSt) : Except Int PSt :=
  match textFrom S (st.pos + 4) with
  | none => .error 4
  | some s => match behind S (st.pos + 4 + s.length + 1) with
    | none => .error 4
    | some a =>
      if 16 < st.below.length + 1 then .error 6 else if okName (strOfNums s) (st.below.length + 1) = false then .error 5 else if hasS st.top.taken (strOfNums s) = true then .error 9 else
        .ok ⟨a, PF.new (strOfNums s), { st.top with taken := st.top.taken ++ [strOfNums s] } :: st.below⟩

noncomputable def propF (S T : List Int) (st : PSt) : Except Int PSt :=
  if st.pos + 12 ≤ S.length then
    if ((S.length - (st.pos + 12) : Nat) : Int) < numTo S (st.pos + 4) 4 then .error 4 else
    match behind S (st.pos + 12 + (numTo S (st.pos + 4) 4).toNat) with
    | none => .error 4
    | some a => match textFrom T (numTo S (st.pos + 8) 4).toNat with
      | none => .error 4
      | some s => if propB (strOfNums s) = false then .error 5 else if hasS (st.top.props.map Prod.fst) (strOfNums s) = true then .error 9 else
        .ok ⟨a, { st.top with props := st.top.props ++ [(strOfNums s, (S.drop (st.pos + 12)).take (numTo S (st.pos + 4) 4).toNat)] }, st.below⟩
  else .error 4

def leaveF (st : PSt) : PSt :=
  match st.below with
  | [] => st
  | f :: r => ⟨st.pos, { f with kids := f.kids ++ [st.top.done] }, r⟩
def skipF (st : PSt) : PSt := { st with pos := st.pos + 4 }

noncomputable def readF (S T : List Int) (st : PSt) (tok : Int) : Except Int PSt :=
  if tok = 1 then beginF S st else if tok = 3 then propF S T st else if tok = 2 then .ok (skipF (leaveF st)) else .ok (skipF st)

noncomputable def rootF (S T : List Int) : Nat → PSt → Except Int PN
  | 0, _ => .error 4
  | f + 1, st =>
    match tokAt S st.pos with
    | none => .error 4
    | some k =>
      if standB st.below.length st.top.kids.length k = false then .error 4 else
      match readF S T st k with
      | .error e => .error e
      | .ok st' => if k = 9 then (if st'.pos = S.length then .ok (st'.top.kids.headD default) else .error 4) else rootF S T f st'
def start : PSt := ⟨0, PF.new ⟨#[]⟩, []⟩

/-- The reserves from a place on. -/
def resF (zs : List Int) : Nat → Nat → List (Int × Int) → Except Int (List (Int × Int))
  | 0, _, _ => .error 4
  | f + 1, a, l =>
    if a + 16 ≤ zs.length then
      if numTo zs a 8 = 0 ∧ numTo zs (a + 8) 8 = 0 then (if 64 < l.length then .error 7 else .ok l) else resF zs f (a + 16) (l ++ [(numTo zs a 8, numTo zs (a + 8) 8)])
    else .error 4

def errOf {α : Type} : Except Int α → Int
  | .error e => e
  | .ok _ => 0

/-- The part of the bytes that begins at a place, and is so long. -/
def partL (zs : List Int) (a n : Nat) : List Int := (zs.drop a).take n

/-- What the bytes say, but for how many nodes and properties there may be. -/
noncomputable def readAll (zs : List Int) : Except Int (List (Int × Int) × PN) :=
  match resF zs (zs.length + 1) (hcell zs 4).toNat [] with
  | .error e => .error e
  | .ok rs => match rootF (partL zs (hcell zs 2).toNat (hcell zs 9).toNat) (partL zs (hcell zs 3).toNat (hcell zs 8).toNat) ((hcell zs 9).toNat + 1) start with
    | .error e => .error e
    | .ok n => .ok (rs, n)

/-! ### What holds of it -/
theorem textFrom_len {S : List Int} {a : Nat} {s : List Int} (h : textFrom S a = some s) : a + s.length + 1 ≤ S.length := by
  unfold textFrom at h
  split at h
  · rename_i h0
    simp only [Option.some.injEq] at h
    subst h
    have h1 : ((S.drop a).takeWhile fun z => decide (z ≠ 0)).length < (S.drop a).length := by
      have : ∀ l : List Int, 0 ∈ l → (l.takeWhile fun z => decide (z ≠ 0)).length < l.length := by
        intro l
        induction l with
        | nil => intro h; cases h
        | cons x l ih =>
          intro h
          by_cases hx : x = 0
          · simp [List.takeWhile_cons, hx]
          · have h2 : 0 ∈ l := by
              rcases List.mem_cons.1 h with e | e
              · exact absurd e.symm hx
              · exact e
            have := ih h2
            simp [List.takeWhile_cons, hx]
            simpa using this
      exact this _ h0
    rw [List.length_drop] at h1
    omega
  · cases h
theorem behind_some {S : List Int} {a b : Nat} (h : behind S a = some b) : b = a + padN a ∧ b ≤ S.length := by
  unfold behind at h
  split at h
  · rename_i h0
    simp only [Option.some.injEq] at h
    exact ⟨h.symm, h ▸ h0.1⟩
  · cases h
theorem readF_err_ne {S T : List Int} {st : PSt} {tok E : Int} (h : readF S T st tok = .error E) : E ≠ 0 := by
  unfold readF beginF propF at h
  repeat' split at h
  all_goals first | (cases h; done) | (simp only [Except.error.injEq] at h; omega)
/-- A token takes four bytes at least, and the reader stays within. -/
theorem readF_pos {S T : List Int} {st st' : PSt} {tok : Int} (h0 : st.pos + 4 ≤ S.length) (h : readF S T st tok = .ok st') : st.pos + 4 ≤ st'.pos ∧ st'.pos ≤ S.length := by
  unfold readF at h
  split at h
  · unfold beginF at h
    split at h
    · cases h
    · split at h
      · cases h
      · rename_i s hs a ha
        have h1 := behind_some ha
        repeat' split at h
        all_goals first | (cases h; done) | skip
        simp only [Except.ok.injEq] at h
        subst h
        simp only
        omega
  · split at h
    · unfold propF at h
      split at h
      · split at h
        · cases h
        · split at h
          · cases h
          · rename_i a ha
            have h1 := behind_some ha
            repeat' split at h
            all_goals first | (cases h; done) | skip
            simp only [Except.ok.injEq] at h
            subst h
            simp only
            omega
      · cases h
    · split at h <;> simp only [Except.ok.injEq] at h <;> subst h
      · unfold leaveF skipF
        split <;> simp only <;> omega
      · simp only [skipF]; omega
end Go.Proofs.Ytijhjlpkbnajpaa

/-! Texts of bytes that are shown; bytes.Equal. -/
namespace Go.Proofs.Ytijhjlpkbnajpaa
open Go.RowKit
set_option linter.unusedVariables false
set_option linter.unusedSimpArgs false

/-- 'string(b)' of bytes that are shown. -/
theorem run_string {w : World} {B n : Nat} {A : Option Addr} {zs : List Int} (h : Shows w B A n zs) (c : Nat) :
    (convert 64 9 (.slice A n c)).run Try.prog w = .ok (.string (strOfNums zs)) w := by
  rcases Nat.eq_zero_or_pos n with rfl | h0
  · obtain rfl : zs = [] := List.eq_nil_of_length_eq_zero h.1
    rcases A with _ | ⟨b, o, s⟩
    · exact run_convert_bytes_nil w 64 5 Try.underlying64 Try.underlying5 0 c _ Try.underlying9
    · rw [run_convert_bytes_string w 64 9 5 _ 0 c Try.underlying64 Try.underlying5 Try.underlying9,
        run_bytesToString w _ 0 c [] (by simpa using run_loadCells_list (P := Try.prog) w ⟨b, o, s⟩ [] (by simp))]
      rfl
  · obtain ⟨b, o, rfl, _, hc⟩ := h.at_ h0
    exact run_convert_bytes_arg w 64 5 Try.underlying64 Try.underlying5 b o n c zs h.1 hc _ Try.underlying9

theorem nums_inj : ∀ {xs ys : List Int}, (∀ z ∈ xs, 0 ≤ z ∧ z < 256) → (∀ z ∈ ys, 0 ≤ z ∧ z < 256) → (xs.map fun n => UInt8.ofNat n.toNat) = (ys.map fun n => UInt8.ofNat n.toNat) → xs = ys
  | [], [], _, _, _ => rfl
  | [], _ :: _, _, _, h => by simp at h
  | _ :: _, [], _, _, h => by simp at h
  | x :: xs, y :: ys, hx, hy, h => by
    simp only [List.map_cons, List.cons.injEq] at h
    have h1 := hx x (List.mem_cons_self ..)
    have h2 := hy y (List.mem_cons_self ..)
    have h3 := congrArg UInt8.toNat h.1
    simp only [UInt8.toNat_ofNat'] at h3
    rw [nums_inj (fun z hz => hx z (List.mem_cons_of_mem _ hz)) (fun z hz => hy z (List.mem_cons_of_mem _ hz)) h.2]
    congr 1
    omega

/-- Texts of bytes are the same just if the bytes are. -/
theorem str_eqz {xs ys : List Int} (hx : ∀ z ∈ xs, 0 ≤ z ∧ z < 256) (hy : ∀ z ∈ ys, 0 ≤ z ∧ z < 256) : ((strOfNums xs).toList == (strOfNums ys).toList) = decide (xs = ys) := by
  rw [Lib.toList_data, Lib.toList_data, strOfNums_data, strOfNums_data, Bool.eq_iff_iff, beq_iff_eq, decide_eq_true_iff]
  exact ⟨nums_inj hx hy, fun h => by rw [h]⟩
theorem str_eqb (x y : ByteArray) : (x.toList == y.toList) = decide (x = y) := by
  by_cases h : x = y
  · subst h; simp
  · rw [str_ne h, decide_eq_false h]

end Go.Proofs.Ytijhjlpkbnajpaa

/-! The document's numbers and texts, of bytes of any length. -/
namespace Go.Proofs.Ytijhjlpkbnajpaa
open Go.RowKit
set_option linter.unusedVariables false
set_option linter.unusedSimpArgs false

/-- The first nought from a on, below n, is at i. -/
def HitAt (zs : List Int) (a n i : Nat) : Prop := a ≤ i ∧ i < n ∧ zs.getD i 0 = 0 ∧ ∀ j, a ≤ j → j < i → zs.getD j 0 ≠ 0
/-- There is none. -/
def NoHit (zs : List Int) (a n : Nat) : Prop := ∀ j, a ≤ j → j < n → zs.getD j 0 ≠ 0

theorem hit_or_not (zs : List Int) (a : Nat) : ∀ k, NoHit zs a (a + k) ∨ ∃ i, HitAt zs a (a + k) i
  | 0 => .inl fun j h1 h2 => by omega
  | k + 1 => by
    rcases hit_or_not zs a k with h | ⟨i, h1, h2, h3, h4⟩
    · by_cases h0 : zs.getD (a + k) 0 = 0
      · exact .inr ⟨a + k, by omega, by omega, h0, fun j h1 h2 => h j h1 (by omega)⟩
      · refine .inl fun j h1 h2 => ?_
        by_cases e : j = a + k
        · rw [e]; exact h0
        · exact h j h1 (by omega)
    · exact .inr ⟨i, h1, by omega, h3, h4⟩

set_option maxHeartbeats 400000 in
theorem number_no (A : Option Addr) (n c : Nat) (at_ k : Int) (w : World) (h : at_ < 0 ∨ n < at_ ∨ n - at_ < k) (hn : n ≤ 9223372036854775807) (hk : k = 4 ∨ k = 8) (ha : -9223372036854775808 ≤ at_ ∧ at_ ≤ 9223372036854775807) :
    Calls Try.prog 31 #[.slice A n c, .int .i64 at_, .int .i64 k] w fun e w' => e = .returned (.tuple #[.int .u64 0, .bool false]) ∧ w = w' := by
  obtain ⟨a0, a1⟩ := ha
  by_cases h0 : at_ < 0
  · go_enter Try.func31, Try.ntmps31
    go_wp2
    go_ret2
    exact ⟨rfl, rfl⟩
  · by_cases h1 : (n : Int) < at_
    · go_enter Try.func31, Try.ntmps31
      go_wp2
      go_ret2
      exact ⟨rfl, rfl⟩
    · have h2 : n - at_ < k := by omega
      go_enter Try.func31, Try.ntmps31
      go_wp2
      go_ret2
      exact ⟨rfl, rfl⟩

set_option maxHeartbeats 400000 in
theorem number_yes (A : Option Addr) (n c k a : Nat) (zs : List Int) (w : World) (B : Nat) (hs : Shows w B A n zs) (h : a + k ≤ n) (hn : n ≤ 140737488351232) (hk0 : 0 < k) (hk : k ≤ 8) :
    Calls Try.prog 31 #[.slice A n c, .int .i64 a, .int .i64 k] w fun e w' => e = .returned (.tuple #[.int .u64 (numTo zs a k), .bool true]) ∧ w = w' := by
  obtain ⟨b, o, rfl, _, hc⟩ := hs.at_ (by omega)
  have hz := hs.byte
  have h0 : ¬ ((a : Int) < 0) := by omega
  have h1 : ¬ ((n : Int) < (a : Int)) := by omega
  have h2 : ¬ ((n : Int) - (a : Int) < (k : Int)) := by omega
  clear hs
  have HC := Lib.hid hc
  have HZ := Lib.hid hz
  clear hc hz
  go_enter Try.func31, Try.ntmps31
  go_wp2
  go_loop [8, 27] (fun v i => ∃ j : Nat, j ≤ k ∧ i = .int .i64 j ∧ v = .int .u64 (numTo zs a j)) (fun _ i => k - (intOf i).toNat)
  case atStart => exact ⟨0, by omega, rfl, rfl⟩
  case round =>
    obtain ⟨j, hj, rfl, rfl⟩ := hrel
    by_cases hlt : j < k
    · have hcell := HC.out (a + j) (by omega)
      have hzb := HZ.out (a + j)
      have hb := numTo_lt64 zs a j HZ.out (by omega)
      have hb2 := numTo_lt64 zs a (j + 1) HZ.out (by omega)
      simp only [numTo] at hb2
      go_wp2
      go_round
      case rel => exact ⟨j + 1, by omega, by go_num, by
        have e : zs[a + j]?.getD 0 = zs.getD (a + j) 0 := by simp [List.getD]
        rw [e, IntWalk.u64_in (zs.getD (a + j) 0) (by omega), IntWalk.u64_in _ hb2]; rfl⟩
      case measure => simp [intOf]; omega
    · obtain rfl : j = k := by omega
      go_wp2
      go_ret2
      exact ⟨rfl, rfl⟩

theorem take_while_hit {zs : List Int} {a i : Nat} (h : HitAt zs a zs.length i) : (0 : Int) ∈ zs.drop a ∧ ((zs.drop a).takeWhile fun z => decide (z ≠ 0)) = (zs.drop a).take (i - a) := by
  obtain ⟨h1, h2, h3, h4⟩ := h
  have hget : ∀ j, a ≤ j → j < zs.length → (zs.drop a)[j - a]? = some (zs.getD j 0) := fun j hj hl => by
    rw [List.getElem?_drop, show a + (j - a) = j by omega]
    simp [List.getD, List.getElem?_eq_getElem hl]
  refine ⟨List.mem_of_getElem? ((hget i h1 h2).trans (congrArg some h3)), ?_⟩
  have hsplit : zs.drop a = (zs.drop a).take (i - a) ++ (0 :: (zs.drop a).drop (i - a + 1)) := by
    conv => lhs; rw [← List.take_append_drop (i - a) (zs.drop a)]
    congr 1
    rw [List.drop_eq_getElem_cons (by rw [List.length_drop]; omega)]
    congr 1
    have := hget i h1 h2
    rw [List.getElem?_eq_getElem (by rw [List.length_drop]; omega), h3] at this
    exact Option.some.inj this
  conv => lhs; rw [hsplit]
  rw [List.takeWhile_append_of_pos]
  · simp
  · intro z hz
    obtain ⟨j, hj, rfl⟩ := List.getElem_of_mem hz
    rw [List.length_take, List.length_drop] at hj
    have h5 := hget (a + j) (by omega) (by omega)
    rw [show a + j - a = j by omega] at h5
    have h6 : ((zs.drop a).take (i - a))[j]? = some (zs.getD (a + j) 0) := by
      rw [List.getElem?_take_of_lt (by omega)]; exact h5
    rw [List.getElem?_eq_getElem (by rw [List.length_take, List.length_drop]; omega)] at h6
    rw [Option.some.inj h6]
    exact decide_eq_true (h4 (a + j) (by omega) (by omega))
theorem text_hit {zs : List Int} {a i : Nat} (h : HitAt zs a zs.length i) : textFrom zs a = some ((zs.drop a).take (i - a)) := by
  obtain ⟨h1, h2⟩ := take_while_hit h
  rw [textFrom, if_pos h1, h2]
theorem text_nohit {zs : List Int} {a : Nat} (h : NoHit zs a zs.length) : textFrom zs a = none := by
  rw [textFrom, if_neg]
  intro h0
  obtain ⟨j, e⟩ := List.getElem?_of_mem h0
  have hj : j < zs.length - a := by have := (List.getElem?_eq_some_iff.1 e).1; rwa [List.length_drop] at this
  rw [List.getElem?_drop, List.getElem?_eq_getElem (by omega)] at e
  refine h (a + j) (by omega) (by omega) ?_
  simp [List.getD, List.getElem?_eq_getElem (show a + j < zs.length by omega), Option.some.inj e]

/-- What the document's Text answers: the bytes up to the next nought, or that there is none. -/
def TextOut (e : Ending) (o : Option (List Int)) : Prop := e = .returned (.tuple #[.string (match o with | none => ByteArray.empty | some s => strOfNums s), .bool o.isSome])
end Go.Proofs.Ytijhjlpkbnajpaa

/-! Layer 3: which property, or which node right below, has a name. -/
namespace Go.Proofs.Ytijhjlpkbnajpaa
open Go.RowKit
set_option linter.unusedVariables false
set_option linter.unusedSimpArgs false

set_option maxHeartbeats 1000000 in
theorem reffind_any (n : Nd) (s : ByteArray) (w : World) (hin : n.In w w.heap.size) (r : Int) (hr : r = idxOf (n.props.map PV.name) s) :
    Calls Try.prog 25 #[n.val, .string s] w fun e w' => e = .returned (.int .i64 r) ∧ Below w.heap.size w w' := by
  obtain ⟨nm, pa, pc, ps, ka, kc, ks⟩ := n
  have HI := Lib.hid hin
  have HR := Lib.hid hr
  obtain ⟨hl, hm⟩ : ps.length ≤ pc ∧ pc ≤ 9223372036854775807 := hin.plen
  have HM := Lib.hid (show (ps.map PV.name).length = ps.length from List.length_map _)
  clear hin hr
  show Calls _ _ #[.agg #[.string nm, .slice pa ps.length pc, .slice ka ks.length kc], .string s] _ _
  go_enter Try.func25, Try.ntmps25
  go_wp2_with fail
  go_loop [9] (fun i => ∃ k : Nat, k ≤ ps.length ∧ i = .int .i64 k ∧ Missed (ps.map PV.name) s k) (fun i => ps.length - (intOf i).toNat)
  case atStart => exact ⟨0, Nat.zero_le _, rfl, Missed.zero _ _⟩
  case round =>
    obtain ⟨k, hk, rfl, hmiss⟩ := hrel
    have HA := Lib.hid hmiss
    clear hmiss
    by_cases hlt : k < ps.length
    · have HB := Lib.hid ((Below.refl w.heap.size w).alloc (Nat.le_refl _) (.cells #[Value.string nm, .slice pa ps.length pc, .slice ka ks.length kc] 27))
      obtain ⟨b, o, e, hb, c0, c1⟩ := (HI.out.under HB.out).pcell (i := k) hlt
      obtain rfl : pa = _ := e
      replace c0 : _ = some (Value.string ps[k].name) := c0
      clear c1
      have hxm : Hid ((ps.map PV.name)[k]'(by rw [HM.out]; exact hlt) = ps[k].name) := List.getElem_map _
      obtain ⟨x, hx⟩ : ∃ x, x = ps[k].name := ⟨_, rfl⟩
      rw [← hx] at c0 hxm
      clear hx
      by_cases hxs : x = s
      · subst hxs
        obtain rfl : r = k := by rw [HR.out]; exact HA.out.hit _ hxm.out
        go_wp2
        go_ret
        exact ⟨rfl, HB.out⟩
      · have hne := str_ne hxs
        have HF := Lib.hid (HA.out.succ (by rw [HM.out]; exact hlt) (by rw [hxm.out]; exact hxs))
        clear hxs
        go_wp2
        go_round
        case rel => exact ⟨k + 1, by omega, by go_num, HF⟩
        case measure => simp [intOf]; omega
    · obtain rfl : r = -1 := by rw [HR.out]; exact HA.out.all (by rw [HM.out]; exact hlt)
      go_wp2
      go_ret
      exact ⟨rfl, (Below.refl _ _).alloc (Nat.le_refl _) _⟩
end Go.Proofs.Ytijhjlpkbnajpaa

/-! What a value says: cells, a text, texts, the one cell of a property: the document's answers. -/
namespace Go.Proofs.Ytijhjlpkbnajpaa
open Go.RowKit
set_option linter.unusedVariables false
set_option linter.unusedSimpArgs false

theorem info_u32 : (Try.prog.info? 22).map (fun i => (i.zero, i.size, i.bytes)) = some (some (.int .u32 0), 1, 4) := by kernel_rfl
theorem info_str : (Try.prog.info? 9).map (fun i => (i.zero, i.size, i.bytes)) = some (some (.string ⟨#[]⟩), 1, 16) := by kernel_rfl

/-- append of one value, laid by the call itself. -/
theorem app_lit {t e : TypeId} {i0 : TypeInfo} {z : Value} {bytes : Nat} (ht : Try.prog.underlying t = some (.slice e)) (hi : Try.prog.info? e = some i0) (hz : i0.zero = some z) (hs1 : i0.size = 1) (hby : i0.bytes = bytes) (hzs : z.cells.size = 1)
    {w : World} {B n : Nat} {v : Value} {xs : List Value} (h : w.ownsRow B e 1 v n xs) (x : Value) (hx : x.oneCell' = true) (hbig : (n + 1) * bytes ≤ 140737488355328) (hlen : n + 1 ≤ 140737488355328) (hB : B ≤ w.heap.size) (ty : TypeId) :
    ∃ A' c' w', (Builtin.append_ #[t, t] ty #[v, .slice (some ⟨w.heap.size, 0, none⟩) 1 1]).run Try.prog (w.alloc (.cells #[x] e)) = .ok (.slice A' (n + 1) c') w' ∧ w'.ownsRow B e 1 (.slice A' (n + 1) c') (n + 1) (xs ++ [x]) ∧ Below B w w' := by
  have hl : xs.length = n := by have := h.1; omega
  have h1 : (w.alloc (.cells #[x] e)).ownsRow B e 1 v xs.length xs := by rw [hl]; exact h.alloc _
  have hc : Cel (w.alloc (.cells #[x] e)) (w.heap.size + 1) (some ⟨w.heap.size, 0, none⟩) 1 [x] := ⟨rfl, fun _ => ⟨w.heap.size, 0, rfl, Nat.lt_succ_self _, fun i hi => by
    obtain rfl : i = 0 := by omega
    exact World.cell?_alloc_new _ _ _ _⟩⟩
  obtain ⟨v', w', r, g1, g2, g3⟩ := app_cel ht hi hz hs1 hby hzs 1 h1 hc (fun u hu => by rw [List.mem_singleton.1 hu]; exact hx) (by rw [hl]; simpa using hbig) (by rw [hl]; simpa using hlen) (by simp; omega) ty
  rw [List.length_append, hl] at g1
  have g1' : w'.ownsRow B e 1 v' (n + 1) (xs ++ [x]) := g1
  obtain ⟨A', c', rfl, _⟩ := owned_cel g1'
  exact ⟨A', c', w', r, g1', ((Below.refl B w).alloc hB (.cells #[x] e)).grown g2 (by simp; omega) (fun q hq => (h1.lt q hq).1)⟩

/-- The cells of a value. -/
def cellV (zs : List Int) (i : Nat) : Value := .int .u32 (numTo zs (4 * i) 4)
def cellRow (zs : List Int) (k : Nat) : List Value := (List.range k).map (cellV zs)
theorem cellRow_next (zs : List Int) (k : Nat) : cellRow zs (k + 1) = cellRow zs k ++ [cellV zs k] := by
  unfold cellRow; rw [List.range_succ, List.map_append]; rfl
def CellsOut (w w' : World) (n : Nat) (zs : List Int) (e : Ending) : Prop :=
  (n % 4 ≠ 0 → e = .returned (.tuple #[.slice none 0 0, .int .i64 4])) ∧ (n % 4 = 0 → ∃ A c, e = .returned (.tuple #[.slice A (n / 4) c, .int .i64 0]) ∧ w'.ownsRow w.heap.size 22 1 (.slice A (n / 4) c) (n / 4) (cellRow zs (n / 4)))

theorem numTo_u32 {w : World} {B n : Nat} {A : Option Addr} {zs : List Int} (hs : Shows w B A n zs) (a : Nat) : 0 ≤ numTo zs a 4 ∧ numTo zs a 4 ≤ 4294967295 := by
  have h := numTo_bound zs a hs.byte 4
  have e : (256 : Int) ^ 4 = 4294967296 := by decide
  omega

set_option maxRecDepth 20000 in
set_option maxHeartbeats 4000000 in
theorem refcells_any (A : Option Addr) (n c : Nat) (zs : List Int) (w : World) (hs : Shows w w.heap.size A n zs) (hn : n ≤ 140737488351232) (hnc : n ≤ c) (hc : c ≤ 9223372036854775807) :
    Calls Try.prog 26 #[.slice A n c] w fun e w' => CellsOut w w' n zs e ∧ Below w.heap.size w w' := by
  have HS := Lib.hid hs
  have HC := Lib.hid (And.intro hnc hc)
  clear hs hnc hc
  by_cases h4 : n % 4 = 0
  · have q1 : (((n : Int) % 4) != 0) = false := by rw [bne_eq_false_iff_eq]; omega
    have H4 := Lib.hid h4
    have info := info_any info_u32
    clear h4
    go_enter Try.func26, Try.ntmps26
    go_wp2_with fail
    go_loopw [4, 5] (fun out i wr => ∃ k a : Nat, Hid (a = 4 * k ∧ a ≤ n) ∧ i = .int .i64 a ∧ (∃ Ao co, out = .slice Ao k co ∧ wr.ownsRow w.heap.size 22 1 (.slice Ao k co) k (cellRow zs k)) ∧ Below w.heap.size w wr) (fun _ i _ => n - (intOf i).toNat)
    case atStart => exact ⟨0, 0, Lib.hid ⟨rfl, Nat.zero_le _⟩, rfl, ⟨none, 0, rfl, World.ownsRow_nil _ _ _ _⟩, Below.refl _ _⟩
    case round =>
      obtain ⟨k, a, HA, rfl, ⟨Ao, co, rfl, hown⟩, hb⟩ := hrel
      have HB := Lib.hid hb
      have HO := Lib.hid hown
      by_cases hlt : a < n
      · have ha4 : a + 4 ≤ n := by have := HA.out; have := H4.out; omega
        have CN := Lib.hid (number_yes A n c 4 a zs wr w.heap.size (HS.out.below hb) ha4 (by omega) (by omega) (by omega))
        have hnum := numTo_u32 HS.out a
        obtain ⟨x, hx⟩ : ∃ x, numTo zs a 4 = x := ⟨_, rfl⟩
        rw [hx] at CN hnum
        have HX : Hid (cellV zs k = .int .u32 x) := Lib.hid (by rw [← hx, cellV, ← HA.out.1])
        have hcv : IntKind.u32.wrap x = x := IntWalk.u32_in _ hnum
        obtain ⟨i0, hi, hz, hs1, hby⟩ := info
        obtain ⟨A', c', w', r, g1, g2⟩ := app_lit Try.underlying75 hi hz hs1 hby rfl hown (.int .u32 x) rfl (by have := HA.out; omega) (by have := HA.out; omega) hb.size 75
        have HR := Lib.hid (And.intro g1 (hb.trans g2))
        clear hx hi hz hs1 hby g1 g2 hown hb
        go_wp2_with fail
        refine CN.out.mono ?_
        rintro e w2 ⟨rfl, rfl⟩
        go_wp2_with (at_builtin; refine Lib.wpList_append_run_sl _ rfl _ _ _ rfl _ _ rfl rfl r ?_)
        go_roundw
        case rel => exact ⟨k + 1, a + 4, Lib.hid ⟨by have := HA.out; omega, ha4⟩, by go_num, ⟨A', c', rfl, by rw [cellRow_next, HX.out]; exact HR.out.1⟩, HR.out.2⟩
        case measure => simp [intOf]; omega
      · have HE : Hid (k = n / 4) := Lib.hid (by have := HA.out; omega)
        clear hown hb
        go_wp2
        go_ret2
        exact ⟨⟨fun h => absurd H4.out h, fun _ => ⟨Ao, co, by rw [← HE.out]; rfl, by rw [← HE.out]; exact HO.out⟩⟩, HB.out⟩
  · have q1 : (((n : Int) % 4) != 0) = true := by rw [bne_iff_ne]; omega
    have H4 := Lib.hid h4
    clear h4
    go_enter Try.func26, Try.ntmps26
    go_wp2
    go_ret2
    exact ⟨⟨fun _ => rfl, fun h => absurd h H4.out⟩, Below.refl _ _⟩

/-- The text that a value is. -/
noncomputable def textV (zs : List Int) : Option (List Int) := match textFrom zs 0 with
  | none => none
  | some s => if s.length + 1 = zs.length then some s else none
def TextVOut (e : Ending) (o : Option (List Int)) : Prop := e = .returned (.tuple (match o with | none => #[.string ⟨#[]⟩, .int .i64 4] | some s => #[.string (strOfNums s), .int .i64 0]))
theorem strOf_size6 (s : List Int) : (strOfNums s).size = s.length := by
  show (strOfNums s).data.toList.length = s.length
  rw [strOfNums_data, List.length_map]

/-! ### Texts -/
noncomputable def textsGo (zs : List Int) : Nat → Nat → List (List Int)
  | 0, _ => []
  | f + 1, a => if a < zs.length then (match textFrom zs a with | none => [] | some s => s :: textsGo zs f (a + s.length + 1)) else []
/-- The texts that a value is. -/
noncomputable def textsV (zs : List Int) : Option (List (List Int)) := if 0 < zs.length ∧ zs.getD (zs.length - 1) 0 ≠ 0 then none else some (textsGo zs zs.length 0)
abbrev strRow (l : List (List Int)) : List Value := l.map fun s => Value.string (strOfNums s)
def TextsOut (w w' : World) (zs : List Int) (e : Ending) : Prop :=
  (textsV zs = none → e = .returned (.tuple #[.slice none 0 0, .int .i64 4])) ∧ (∀ l, textsV zs = some l → ∃ A c, e = .returned (.tuple #[.slice A l.length c, .int .i64 0]) ∧ w'.ownsRow w.heap.size 9 1 (.slice A l.length c) l.length (strRow l))
theorem text_there {zs : List Int} {a : Nat} (h : zs.getD (zs.length - 1) 0 = 0) (ha : a < zs.length) : ∃ s, textFrom zs a = some s := by
  rw [textFrom, if_pos]
  · exact ⟨_, rfl⟩
  · refine List.mem_of_getElem? (i := zs.length - 1 - a) ?_
    rw [List.getElem?_drop, show a + (zs.length - 1 - a) = zs.length - 1 by omega, List.getElem?_eq_getElem (by omega)]
    simp only [List.getD, List.getElem?_eq_getElem (show zs.length - 1 < zs.length by omega), Option.getD_some] at h
    rw [h]

end Go.Proofs.Ytijhjlpkbnajpaa

/-! The one cell of a node's property: the document's answer. -/
namespace Go.Proofs.Ytijhjlpkbnajpaa
open Go.RowKit
set_option linter.unusedVariables false
set_option linter.unusedSimpArgs false

theorem idx_or : ∀ (l : List ByteArray) (s : ByteArray), idxOf l s = -1 ∨ ∃ k : Nat, ∃ h : k < l.length, idxOf l s = (k : Int) ∧ l[k] = s
  | [], s => .inl rfl
  | x :: l, s => by
    by_cases hx : x = s
    · exact .inr ⟨0, by simp, by rw [idxOf, if_pos hx]; rfl, by simpa using hx⟩
    · rcases idx_or l s with h | ⟨k, h1, h2, h3⟩
      · exact .inl (by rw [idxOf, if_neg hx, h]; rfl)
      · exact .inr ⟨k + 1, by simpa using h1, by rw [idxOf, if_neg hx, h2, if_neg (by omega)]; omega, by simpa using h3⟩

/-- The one cell of a node's property: the cell, whether it is there, the error. -/
def oneV (n : Nd) (s : ByteArray) : Int × Bool × Int :=
  match n.props.find? fun p => decide (p.name = s) with
  | none => (0, false, 0)
  | some p => if p.zs.length = 4 then (numTo p.zs 0 4, true, 0) else (0, false, 4)
def oneVal (o : Int × Bool × Int) : Value := .tuple #[.int .u32 o.1, .bool o.2.1, .int .i64 o.2.2]
theorem find_none : ∀ {ps : List PV} {s : ByteArray}, idxOf (ps.map PV.name) s = -1 → ps.find? (fun p => decide (p.name = s)) = none
  | [], _, _ => rfl
  | p :: r, s, h => by
    rw [List.map_cons, idxOf] at h
    by_cases hp : p.name = s
    · rw [if_pos hp] at h; omega
    · rw [if_neg hp] at h
      rw [List.find?_cons_of_neg (by simpa using hp)]
      refine find_none ?_
      rcases idx_or (r.map PV.name) s with h1 | ⟨k, _, h2, _⟩
      · exact h1
      · rw [h2, if_neg (by omega)] at h; omega
theorem find_at : ∀ {ps : List PV} {s : ByteArray} {k : Nat} (hk : k < ps.length), idxOf (ps.map PV.name) s = (k : Int) → ps.find? (fun p => decide (p.name = s)) = some ps[k]
  | [], _, _, hk, _ => absurd hk (by simp)
  | p :: r, s, k, hk, h => by
    rw [List.map_cons, idxOf] at h
    by_cases hp : p.name = s
    · rw [if_pos hp] at h
      obtain rfl : k = 0 := by omega
      rw [List.find?_cons_of_pos (by simpa using hp)]; rfl
    · rw [if_neg hp] at h
      rw [List.find?_cons_of_neg (by simpa using hp)]
      by_cases h0 : idxOf (r.map PV.name) s < 0
      · rw [if_pos h0] at h; omega
      · rw [if_neg h0] at h
        obtain ⟨j, rfl⟩ : ∃ j, k = j + 1 := ⟨k - 1, by omega⟩
        exact find_at (by simpa using hk) (by omega)
theorem prop_heft {n : Nd} {k : Nat} (h : k < n.props.length) : n.props[k].zs.length ≤ heftN n := by
  have e : heftN n = 16 + n.name.size + (n.props.map heftP).sum + heftL n.kids := by cases n; rw [heftN]; rfl
  have h1 := heftP_next n.props k h
  have h2 := heftP_take n.props (k + 1)
  have e2 : heftP n.props[k] = 16 + n.props[k].name.size + n.props[k].zs.length := rfl
  omega

set_option maxRecDepth 20000 in
set_option maxHeartbeats 4000000 in
theorem refone_all (n : Nd) (s : ByteArray) (w : World) (hin : n.In w w.heap.size) :
    Calls Try.prog 21 #[n.val, .string s] w fun e w' => e = .returned (oneVal (oneV n s)) ∧ Below w.heap.size w w' := by
  obtain ⟨r, hr⟩ : ∃ r, r = idxOf (n.props.map PV.name) s := ⟨_, rfl⟩
  have CF := Lib.hid (fun W hW => reffind_any n s W hW r hr)
  have HI := Lib.hid hin
  have HF : Hid ((r < 0 ∧ oneV n s = (0, false, 0)) ∨ ∃ k : Nat, ∃ h : k < n.props.length, r = (k : Int) ∧ oneV n s = if n.props[k].zs.length = 4 then (numTo n.props[k].zs 0 4, true, 0) else (0, false, 4)) := Lib.hid (by
    rcases idx_or (n.props.map PV.name) s with h | ⟨k, h1, h2, _⟩
    · exact .inl ⟨by omega, by rw [oneV, find_none h]⟩
    · rw [List.length_map] at h1
      exact .inr ⟨k, h1, hr.trans h2, by rw [oneV, find_at h1 h2]⟩)
  have HZ := Lib.hid (fun k (h : k < n.props.length) => (hin.prop (List.getElem_mem h)).1.2)
  obtain ⟨O, hO⟩ : ∃ O, oneV n s = O := ⟨_, rfl⟩
  rw [hO] at HF ⊢
  clear hr hin hO
  obtain ⟨nm, pa, pc, ps, ka, kc, ks⟩ := n
  simp only [Nd.val, Nd.pv, Nd.kv, Nd.name, Nd.pa, Nd.pc, Nd.props, Nd.ka, Nd.kc, Nd.kids] at CF HF HZ ⊢
  have HB := Lib.hid ((Below.refl w.heap.size w).alloc (Nat.le_refl _) (.cells #[Value.string nm, .slice pa ps.length pc, .slice ka ks.length kc] 27))
  go_enter Try.func21, Try.ntmps21
  go_wp2_with fail
  refine (CF.out _ (Nd.In.more HB.out.size (HI.out.under HB.out))).mono ?_
  rintro e w1 ⟨rfl, hb⟩
  have HB1 := Lib.hid (HB.out.trans (hb.mono HB.out.size))
  have x1 := (hb.cell (p := ⟨w.heap.size, 1, none⟩) (by simp)).trans (World.cell?_alloc_new _ _ _ _)
  replace x1 : _ = some (Value.slice pa ps.length pc) := x1
  clear hb
  rcases HF.out with ⟨hr0, hv⟩ | ⟨k, hk, hrk, hv⟩
  · subst hv
    clear HF x1
    go_wp2
    go_ret3
    exact ⟨rfl, HB1.out⟩
  · subst hrk
    obtain ⟨b, o, e, _, _, c1⟩ := (HI.out.under HB1.out).pcell (i := k) hk
    obtain rfl : pa = _ := e
    replace c1 : _ = some (Value.slice ps[k].addr ps[k].zs.length ps[k].cap) := c1
    have hp := (HI.out.under HB1.out).prop (p := ps[k]) (List.getElem_mem hk)
    have hz := HZ.out k hk
    have CC := refcells_any ps[k].addr ps[k].zs.length ps[k].cap ps[k].zs w1 (hp.2.1.more HB1.out.size) (by omega) hp.2.2.1 hp.2.2.2
    obtain ⟨P, hP⟩ : ∃ P, ps[k] = P := ⟨_, rfl⟩
    have hv' : O = if P.zs.length = 4 then (numTo P.zs 0 4, true, 0) else (0, false, 4) := by rw [← hP]; exact hv
    rw [hP] at c1 CC hz
    obtain ⟨N, hN⟩ : ∃ N, P.zs.length = N := ⟨_, rfl⟩
    rw [hN] at c1 CC hz hv'
    have HV := Lib.hid hv'
    have hpl : ps.length ≤ pc ∧ pc ≤ 9223372036854775807 := HI.out.plen
    obtain ⟨hpl1, hpl2⟩ := hpl
    have HCC := Lib.hid CC
    clear HF hv hv' hp CC hP hN
    go_wp2_with fail
    refine HCC.out.mono ?_
    rintro e w2 ⟨⟨q1, q2⟩, hb⟩
    have HB2 := Lib.hid (HB1.out.trans (hb.mono HB1.out.size))
    clear hb c1 x1
    by_cases h4 : N % 4 = 0
    · obtain ⟨A, c, rfl, hrow⟩ := q2 h4
      obtain ⟨A', c', e, hcel, _, _, _⟩ := owned_cel hrow
      simp only [Value.slice.injEq, true_and] at e
      obtain ⟨rfl, rfl⟩ := e
      obtain ⟨M, hM⟩ : ∃ M, N / 4 = M := ⟨_, rfl⟩
      rw [hM] at hcel
      rw [hM]
      by_cases h1 : M = 1
      · subst h1
        obtain ⟨bc, oc, rfl, _, hc0⟩ := hcel.2 (by omega)
        have d0 := hc0 0 (by omega)
        rw [Nat.add_zero] at d0
        replace d0 : w2.cell? ⟨bc, oc, none⟩ = some (Value.int .u32 (numTo P.zs 0 4)) := d0
        obtain ⟨v, hv⟩ : ∃ v, numTo P.zs 0 4 = v := ⟨_, rfl⟩
        have HO : Hid (O = (v, true, 0)) := Lib.hid (by rw [HV.out, if_pos (by omega), hv])
        rw [hv] at d0
        clear q1 q2 hrow hcel hc0 hv hM h4
        go_wp2
        go_ret3
        exact ⟨by rw [HO.out]; rfl, HB2.out⟩
      · have k1 : ((M : Int) != 1) = true := by rw [bne_iff_ne]; omega
        have HO : Hid (O = (0, false, 4)) := Lib.hid (by rw [HV.out, if_neg (by omega)])
        clear q1 q2 hrow hcel hM h4 h1
        go_wp2
        go_ret3
        exact ⟨by rw [HO.out]; rfl, HB2.out⟩
    · obtain rfl := q1 h4
      have HO : Hid (O = (0, false, 4)) := Lib.hid (by rw [HV.out, if_neg (by omega)])
      clear q1 q2 h4
      go_wp2
      go_ret3
      exact ⟨by rw [HO.out]; rfl, HB2.out⟩
theorem refone_any (n : Nd) (s : ByteArray) (w : World) (hin : n.In w w.heap.size) (hz : heftN n ≤ 1073741824) :
    Calls Try.prog 21 #[n.val, .string s] w fun e w' => e = .returned (oneVal (oneV n s)) ∧ Below w.heap.size w w' := refone_all n s w hin
end Go.Proofs.Ytijhjlpkbnajpaa

/-! Handles: which node has which, in the order of all; what is wrong with them: pure. -/
namespace Go.Proofs.Ytijhjlpkbnajpaa
open Go.RowKit
set_option linter.unusedVariables false
set_option linter.unusedSimpArgs false

/-- The name of the property. -/
def phName : ByteArray := ⟨#[112, 104, 97, 110, 100, 108, 101]⟩
/-- One more node: the handles so far, or what is wrong. -/
def refStep (root : Nd) (acc : List (Int × List Nat)) (p : List Nat) : List (Int × List Nat) × Int :=
  match nodeAt root p with
  | none => (acc, 0)
  | some n =>
    if (oneV n phName).2.2 ≠ 0 then ([], (oneV n phName).2.2)
    else if (oneV n phName).2.1 = false then (acc, 0)
    else if (oneV n phName).1 = 0 ∨ (oneV n phName).1 = 4294967295 then ([], 11)
    else if acc.any (fun x => decide (x.1 = (oneV n phName).1)) = true then ([], 9)
    else (acc ++ [((oneV n phName).1, p)], 0)
/-- All handles of the nodes at these places, behind those so far. -/
def refsFrom (root : Nd) : List (Int × List Nat) → List (List Nat) → List (Int × List Nat) × Int
  | acc, [] => (acc, 0)
  | acc, p :: r => if (refStep root acc p).2 = 0 then refsFrom root (refStep root acc p).1 r else ([], (refStep root acc p).2)
/-- All handles of a tree. -/
def refsOf (root : Nd) : List (Int × List Nat) × Int := refsFrom root [] (placesN root [])
theorem refsFrom_err (root : Nd) : ∀ (l : List (List Nat)) (acc : List (Int × List Nat)), (refsFrom root acc l).2 ≠ 0 → (refsFrom root acc l).1 = []
  | [], acc, h => absurd rfl h
  | p :: r, acc, h => by
    rw [refsFrom] at h ⊢
    by_cases h0 : (refStep root acc p).2 = 0
    · rw [if_pos h0] at h ⊢
      exact refsFrom_err root r _ h
    · rw [if_neg h0]
theorem refsOf_err {root : Nd} (h : (refsOf root).2 ≠ 0) : (refsOf root).1 = [] := refsFrom_err root _ _ h
/-- What a good step does. -/
theorem refStep_ok {root : Nd} {acc : List (Int × List Nat)} {p : List Nat} (h : (refStep root acc p).2 = 0) : (refStep root acc p).1 = acc ∨ ∃ h, (∀ x ∈ acc, x.1 ≠ h) ∧ h ≠ 0 ∧ h ≠ 4294967295 ∧ (refStep root acc p).1 = acc ++ [(h, p)] := by
  unfold refStep at h ⊢
  split at h
  · exact .inl rfl
  · rename_i n hn
    by_cases h1 : (oneV n phName).2.2 ≠ 0
    · rw [if_pos h1] at h; exact absurd h h1
    rw [if_neg h1] at h ⊢
    by_cases h2 : (oneV n phName).2.1 = false
    · rw [if_pos h2]; exact .inl rfl
    rw [if_neg h2] at h ⊢
    by_cases h3 : (oneV n phName).1 = 0 ∨ (oneV n phName).1 = 4294967295
    · rw [if_pos h3] at h; exact absurd h (by decide)
    rw [if_neg h3] at h ⊢
    by_cases h4 : acc.any (fun x => decide (x.1 = (oneV n phName).1)) = true
    · rw [if_pos h4] at h; exact absurd h (by decide)
    rw [if_neg h4]
    refine .inr ⟨_, fun x hx e => h4 (List.any_eq_true.2 ⟨x, hx, decide_eq_true e⟩), fun e => h3 (.inl e), fun e => h3 (.inr e), rfl⟩
/-- No handle is there twice. -/
theorem refsFrom_good (root : Nd) : ∀ (l : List (List Nat)) (acc : List (Int × List Nat)), (acc.map Prod.fst).Nodup → ((refsFrom root acc l).1.map Prod.fst).Nodup
  | [], acc, h => h
  | p :: r, acc, h => by
    rw [refsFrom]
    by_cases h1 : (refStep root acc p).2 = 0
    · rw [if_pos h1]
      rcases refStep_ok h1 with e | ⟨v, hv, _, _, e⟩
      · rw [e]; exact refsFrom_good root r acc h
      · refine refsFrom_good root r _ ?_
        rw [e, List.map_append, List.nodup_append]
        refine ⟨h, by simp, fun a ha b hb => ?_⟩
        obtain ⟨x, hx, rfl⟩ := List.mem_map.1 ha
        simp only [List.map_cons, List.map_nil, List.mem_singleton] at hb
        rw [hb]
        exact hv x hx
    · rw [if_neg h1]; exact List.nodup_nil
theorem refsOf_nodup (root : Nd) : ((refsOf root).1.map Prod.fst).Nodup := refsFrom_good root _ _ List.nodup_nil
theorem refsFrom_length (root : Nd) : ∀ (l : List (List Nat)) (acc : List (Int × List Nat)), (refsFrom root acc l).1.length ≤ acc.length + l.length
  | [], acc => by simp [refsFrom]
  | p :: r, acc => by
    rw [refsFrom]
    by_cases h1 : (refStep root acc p).2 = 0
    · rw [if_pos h1]
      have ih := refsFrom_length root r (refStep root acc p).1
      rcases refStep_ok h1 with e | ⟨v, _, _, _, e⟩
      · rw [e] at ih ⊢; simp only [List.length_cons]; omega
      · rw [e] at ih ⊢; simp only [List.length_append, List.length_cons, List.length_nil] at ih ⊢; omega
    · rw [if_neg h1]; simp
/-- Where the node of a handle is. -/
def handleOf (root : Nd) (h : Int) : Option (List Nat) := ((refsOf root).1.find? fun x => decide (x.1 = h)).map Prod.snd
/-- The greatest one. -/
def mostOf (root : Nd) : Int := (refsOf root).1.foldl (fun m x => max m x.1) 0
end Go.Proofs.Ytijhjlpkbnajpaa

/-! Layer 6, PathAll: the places of all nodes of any tree are told in order: out of what the program's All answers. -/
namespace Go.Proofs.Ytijhjlpkbnajpaa
open Go.RowKit
set_option linter.unusedVariables false
set_option linter.unusedSimpArgs false

/-- The five cells of a tree in a new block. -/
theorem box6_cells (w : World) (v0 v1 v2 v3 v4 : Value) (W : World) (h : Below (w.heap.size + 1) (w.alloc (.cells #[v0, v1, v2, v3, v4] 29)) W) :
    W.cell? ⟨w.heap.size, 0, none⟩ = some v0 ∧ W.cell? ⟨w.heap.size, 1, none⟩ = some v1 ∧ W.cell? ⟨w.heap.size, 2, none⟩ = some v2 ∧ W.cell? ⟨w.heap.size, 3, none⟩ = some v3 ∧ W.cell? ⟨w.heap.size, 4, none⟩ = some v4 :=
  ⟨(h.cell (Nat.lt_succ_self _)).trans (World.cell?_alloc_new _ _ _ _), (h.cell (Nat.lt_succ_self _)).trans (World.cell?_alloc_new _ _ _ _), (h.cell (Nat.lt_succ_self _)).trans (World.cell?_alloc_new _ _ _ _), (h.cell (Nat.lt_succ_self _)).trans (World.cell?_alloc_new _ _ _ _), (h.cell (Nat.lt_succ_self _)).trans (World.cell?_alloc_new _ _ _ _)⟩

end Go.Proofs.Ytijhjlpkbnajpaa

/-! Layer 6, PathBack: the path of each node of a formed tree leads to it: out of what the program's All, Path and Find answer. -/
namespace Go.Proofs.Ytijhjlpkbnajpaa
open Go.RowKit
set_option linter.unusedVariables false
set_option linter.unusedSimpArgs false

end Go.Proofs.Ytijhjlpkbnajpaa
