/-
  Base, part 4: what the proofs of this claim lean on.
-/
import Derived.Test.YtnopcnbeklbfoaaBase1
import Derived.Test.YtnopcnbeklbfoaaShelf
import Derived.Test.YtnopcnbeklbfoaaBase3
import Derived.Lib.IndexLaws
import Derived.Test.YtnopcnbeklbfoaaBase2
import Derived.Deep.RegionHeld3

/-! Layer 4: words.Text and words.Pad at slices of any length; bytes.Clone. -/
namespace Go.Proofs.Ytnopcnbeklbfoaa
open Go.RowKit
set_option linter.unusedVariables false
set_option linter.unusedSimpArgs false

/-- The first nought from a on, below n, is at i. -/
def HitAt (zs : List Int) (a n i : Nat) : Prop := a ≤ i ∧ i < n ∧ zs.getD i 0 = 0 ∧ ∀ j, a ≤ j → j < i → zs.getD j 0 ≠ 0
/-- There is none. -/
def NoHit (zs : List Int) (a n : Nat) : Prop := ∀ j, a ≤ j → j < n → zs.getD j 0 ≠ 0

theorem hit_or_not (zs : List Int) (a : Nat) : ∀ k, NoHit zs a (a + k) ∨ ∃ i, HitAt zs a (a + k) i
  | 0 => .inl fun j h1 h2 => by omega
  | k + 1 => by
    rcases hit_or_not zs a k with h | ⟨i, h1, h2, h3, h4⟩
    · by_cases h0 : zs.getD (a + k) 0 = 0
      · exact .inr ⟨a + k, by omega, by omega, h0, fun j h1 h2 => h j h1 (by omega)⟩
      · refine .inl fun j h1 h2 => ?_
        by_cases e : j = a + k
        · rw [e]; exact h0
        · exact h j h1 (by omega)
    · exact .inr ⟨i, h1, by omega, h3, h4⟩

theorem byte_eq_zero (z : Int) (h : 0 ≤ z ∧ z < 256) : UInt8.ofNat z.toNat = (0 : Int).toNat.toUInt8 ↔ z = 0 := by
  constructor
  · intro e
    have e2 := congrArg UInt8.toNat e
    simp at e2
    omega
  · rintro rfl; rfl

theorem index_none (zs : List Int) (a n : Nat) (hz : ∀ z ∈ zs, 0 ≤ z ∧ z < 256) (hl : zs.length = n) (h : NoHit zs a n) : Lib.indexByte (Lib.bytesOf (zs.drop a)) (0 : Int).toNat.toUInt8 = -1 := by
  have hge := Lib.indexByte_ge (Lib.bytesOf (zs.drop a)) (0 : Int).toNat.toUInt8
  by_cases hn : Lib.indexByte (Lib.bytesOf (zs.drop a)) (0 : Int).toNat.toUInt8 = -1
  · exact hn
  · obtain ⟨o, ho⟩ : ∃ o : Nat, Lib.indexByte (Lib.bytesOf (zs.drop a)) (0 : Int).toNat.toUInt8 = o := ⟨_, (Int.toNat_of_nonneg (by omega)).symm⟩
    have h1 := (Lib.indexByte_some ho).1
    rw [Lib.bytesOf, List.getElem?_map, List.getElem?_drop] at h1
    obtain ⟨z, h2, h3⟩ := Option.map_eq_some_iff.1 h1
    have hlt : a + o < n := by
      rcases Nat.lt_or_ge (a + o) zs.length with h | h
      · omega
      · rw [List.getElem?_eq_none h] at h2; cases h2
    exact absurd ((byte_eq_zero z (hz z (List.mem_of_getElem? h2))).1 h3) (by have := h (a + o) (by omega) hlt; simpa [List.getD, h2] using this)

theorem index_some (zs : List Int) (a n i : Nat) (hz : ∀ z ∈ zs, 0 ≤ z ∧ z < 256) (hl : zs.length = n) (h : HitAt zs a n i) : Lib.indexByte (Lib.bytesOf (zs.drop a)) (0 : Int).toNat.toUInt8 = ((i - a : Nat) : Int) := by
  obtain ⟨h1, h2, h3, h4⟩ := h
  have hge := Lib.indexByte_ge (Lib.bytesOf (zs.drop a)) (0 : Int).toNat.toUInt8
  have hi : (Lib.bytesOf (zs.drop a))[i - a]? = some (0 : Int).toNat.toUInt8 := by
    have e : zs[i]? = some zs[i] := List.getElem?_eq_getElem (by omega)
    rw [Lib.bytesOf, List.getElem?_map, List.getElem?_drop, show a + (i - a) = i from by omega, e]
    have e2 : zs[i] = 0 := by simpa [List.getD, e] using h3
    rw [e2]; rfl
  by_cases hn : Lib.indexByte (Lib.bytesOf (zs.drop a)) (0 : Int).toNat.toUInt8 = -1
  · exact absurd hi (Lib.indexByte_none hn _)
  · obtain ⟨o, ho⟩ : ∃ o : Nat, Lib.indexByte (Lib.bytesOf (zs.drop a)) (0 : Int).toNat.toUInt8 = o := ⟨_, (Int.toNat_of_nonneg (by omega)).symm⟩
    obtain ⟨k1, k2⟩ := Lib.indexByte_some ho
    rw [ho]
    congr 1
    rcases Nat.lt_trichotomy o (i - a) with h5 | h5 | h5
    · rw [Lib.bytesOf, List.getElem?_map, List.getElem?_drop] at k1
      obtain ⟨z, g2, g3⟩ := Option.map_eq_some_iff.1 k1
      exact absurd ((byte_eq_zero z (hz z (List.mem_of_getElem? g2))).1 g3) (by have := h4 (a + o) (by omega) (by omega); simpa [List.getD, g2] using this)
    · exact h5
    · exact absurd hi (k2 _ h5)

/-- bytes.IndexByte over bytes that are shown, from a on; the slice may be empty. -/
theorem indexb_any (A : Option Addr) (n c : Nat) (zs : List Int) (w : World) (B : Nat) (hs : Shows w B A n zs) (h0 : 0 < n) :
    Calls Try.prog 85 #[.slice A n c, .int .u8 0] w fun e w' => e = .returned (.int .i64 (Lib.indexByte (Lib.bytesOf zs) (0 : Int).toNat.toUInt8)) ∧ w = w' := by
  obtain ⟨b, o, rfl, _, hc⟩ := hs.at_ h0
  exact (Go.Proofs.Try.bytes_IndexByte b o n c zs 0 w hs.1 hc).mono fun e w' ⟨h1, h2⟩ => ⟨h1, h2.symm⟩

set_option maxHeartbeats 400000 in
theorem text_off (A : Option Addr) (n c : Nat) (at_ : Int) (w : World) (hn : n ≤ 1048576) (h : at_ < 0 ∨ (n : Int) ≤ at_) :
    Calls Try.prog 69 #[.slice A n c, .int .i64 at_] w fun e w' => e = .returned (.tuple #[.string ByteArray.empty, .bool false]) ∧ w = w' := by
  by_cases h0 : at_ < 0
  · go_enter Try.func69, Try.ntmps69
    go_wp2
    go_ret2
    exact ⟨rfl, rfl⟩
  · have h1 : (n : Int) ≤ at_ := by omega
    go_enter Try.func69, Try.ntmps69
    go_wp2
    go_ret2
    exact ⟨rfl, rfl⟩

set_option maxHeartbeats 400000 in
theorem text_no (A : Option Addr) (n c a : Nat) (zs : List Int) (w : World) (B : Nat) (hs : Shows w B A n zs) (hn : n ≤ 1048576) (hnc : n ≤ c) (ha : a < n) (h : NoHit zs a n) :
    Calls Try.prog 69 #[.slice A n c, .int .i64 a] w fun e w' => e = .returned (.tuple #[.string ByteArray.empty, .bool false]) ∧ w = w' := by
  have hi := index_none zs a n hs.2.1 hs.1 h
  have C := Lib.hid (indexb_any (cutAt A c a) (n - a) (c - a) (zs.drop a) w B (hs.from_ (Nat.le_of_lt ha) hnc) (by omega))
  rw [hi] at C
  have r1 := run_from (P := Try.prog) Try.underlying26 size_u8 A n c (a : Int) a rfl (Nat.le_of_lt ha)
  have h0 : ¬ ((a : Int) < 0) := by omega
  have h1 : (a : Int) < (n : Int) := by omega
  clear hs h hi hnc ha
  go_enter Try.func69, Try.ntmps69
  go_wp2_with fail
  refine C.out.mono ?_
  rintro e w' ⟨rfl, rfl⟩
  go_wp2
  go_ret2
  exact ⟨rfl, rfl⟩

set_option maxRecDepth 20000 in
set_option maxHeartbeats 1000000 in
theorem text_yes (A : Option Addr) (n c a i : Nat) (zs : List Int) (w : World) (B : Nat) (hs : Shows w B A n zs) (hn : n ≤ 1048576) (hnc : n ≤ c) (h : HitAt zs a n i) :
    Calls Try.prog 69 #[.slice A n c, .int .i64 a] w fun e w' => e = .returned (.tuple #[.string (strOfNums ((zs.drop a).take (i - a))), .bool true]) ∧ w = w' := by
  have hi := index_some zs a n i hs.2.1 hs.1 h
  have h2 := h.1
  have h3 := h.2.1
  have C := Lib.hid (indexb_any (cutAt A c a) (n - a) (c - a) (zs.drop a) w B (hs.from_ (by omega) hnc) (by omega))
  rw [hi] at C
  have r1 := run_from (P := Try.prog) Try.underlying26 size_u8 A n c (a : Int) a rfl (by omega)
  obtain ⟨m, rfl⟩ : ∃ m, i = a + m := ⟨i - a, by omega⟩
  simp only [Nat.add_sub_cancel_left] at C ⊢
  have ei : IntKind.i64.wrap ((a : Int) + (m : Int)) = (a : Int) + (m : Int) := IntWalk.i64_in _ (by omega)
  have r2 := run_cut (P := Try.prog) Try.underlying26 size_u8 A n c (a : Int) ((a : Int) + (m : Int)) a (a + m) rfl (by omega) (by omega) (by omega)
  simp only [Nat.add_sub_cancel_left] at r2
  have hcv := run_string (hs.cut (l := a) (h := a + m) (by omega) (by omega) hnc) (c - a)
  simp only [Nat.add_sub_cancel_left] at hcv
  have h0 : ¬ ((a : Int) < 0) := by omega
  have h1 : (a : Int) < (n : Int) := by omega
  clear hs h hi hnc h2
  go_enter Try.func69, Try.ntmps69
  go_wp2_with fail
  refine C.out.mono ?_
  rintro e w' ⟨rfl, rfl⟩
  go_wp2
  go_ret2
  exact ⟨rfl, rfl⟩

theorem and_three (n : Int) (h0 : 0 ≤ n) (h1 : n ≤ 9223372036854775807) : bits .and .i64 (-n) 3 = (-n) % 4 := by
  show IntKind.i64.wrap ((BitVec.ofInt 64 (-n) &&& BitVec.ofInt 64 3).toNat : Int) = _
  rw [BitVec.toNat_and, show (BitVec.ofInt 64 3).toNat = 3 from rfl, nat_mask2, BitVec.toNat_ofInt, IntWalk.i64_in _ (by omega)]
  omega

set_option maxHeartbeats 400000 in
theorem pad_any (n : Int) (w : World) (h1 : -9223372036854775808 ≤ n) (h2 : n ≤ 9223372036854775807) :
    Calls Try.prog 83 #[.int .i64 n] w fun e w' => e = .returned (.int .i64 (if n < 0 then 0 else (-n) % 4)) ∧ w = w' := by
  by_cases h : n < 0
  · rw [if_pos h]
    go_enter Try.func83, Try.ntmps83
    go_wp2
    go_ret
    exact ⟨rfl, rfl⟩
  · rw [if_neg h]
    have HE := and_three n (by omega) h2
    go_enter Try.func83, Try.ntmps83
    go_wp2
    go_ret
    exact ⟨rfl, rfl⟩


theorem takeWhile_at : ∀ (l : List Int) (k : Nat), k < l.length → l.getD k 0 = 0 → (∀ j, j < k → l.getD j 0 ≠ 0) → 0 ∈ l ∧ (l.takeWhile fun z => decide (z ≠ 0)) = l.take k
  | x :: l, 0, _, h0, _ => by
    have hx : x = 0 := by simpa using h0
    subst hx
    simp [List.takeWhile_cons]
  | x :: l, k + 1, hk, h0, h1 => by
    have hx : x ≠ 0 := by simpa using h1 0 (by omega)
    obtain ⟨e1, e2⟩ := takeWhile_at l k (by simpa using hk) (by simpa using h0) (fun j hj => by simpa using h1 (j + 1) (by omega))
    refine ⟨List.mem_cons_of_mem _ e1, ?_⟩
    rw [List.takeWhile_cons, if_pos (by simpa using hx), e2, List.take_succ_cons]
theorem getD_drop (zs : List Int) (a k : Nat) : (zs.drop a).getD k 0 = zs.getD (a + k) 0 := by simp [List.getD, List.getElem?_drop]
theorem textFrom_hit {zs : List Int} {a i : Nat} (h : HitAt zs a zs.length i) : textFrom zs a = some ((zs.drop a).take (i - a)) := by
  obtain ⟨h1, h2, h3, h4⟩ := h
  obtain ⟨e1, e2⟩ := takeWhile_at (zs.drop a) (i - a) (by rw [List.length_drop]; omega) (by rw [getD_drop, show a + (i - a) = i by omega]; exact h3) (fun j hj => by rw [getD_drop]; exact h4 _ (by omega) (by omega))
  rw [textFrom, if_pos e1, e2]
theorem textFrom_nohit {zs : List Int} {a : Nat} (h : NoHit zs a zs.length) : textFrom zs a = none := by
  rw [textFrom, if_neg]
  intro h0
  obtain ⟨k, hk, e⟩ := List.getElem_of_mem h0
  rw [List.length_drop] at hk
  refine h (a + k) (by omega) (by omega) ?_
  rw [← getD_drop]
  simp [List.getD, List.getElem?_eq_getElem (show k < (zs.drop a).length by rw [List.length_drop]; omega), e]

def txtOf : Option (List Int) → ByteArray
  | none => ByteArray.empty
  | some s => strOfNums s
/-- words.Text from a place on. -/
theorem text_any (A : Option Addr) (n c a : Nat) (q : Int) (hq : q = (a : Int)) (zs : List Int) (w : World) (B : Nat) (hs : Shows w B A n zs) (hn : n ≤ 1048576) (hnc : n ≤ c) (r : Option (List Int)) (hr : textFrom zs a = r) :
    Calls Try.prog 69 #[.slice A n c, .int .i64 q] w fun e w' => e = .returned (.tuple #[.string (txtOf r), .bool r.isSome]) ∧ w = w' := by
  subst hq
  have hl := hs.1
  rcases Nat.lt_or_ge a n with ha | ha
  · rcases hit_or_not zs a (n - a) with h | ⟨i, h⟩
    · rw [show a + (n - a) = n by omega] at h
      rw [← hl] at h
      rw [textFrom_nohit h] at hr
      subst hr
      exact text_no A n c a zs w B hs hn hnc ha (by rw [← hl]; exact h)
    · rw [show a + (n - a) = n by omega] at h
      have h' := h
      rw [← hl] at h'
      rw [textFrom_hit h'] at hr
      subst hr
      exact text_yes A n c a i zs w B hs hn hnc h
  · have h : NoHit zs a zs.length := fun j h1 h2 => by omega
    rw [textFrom_nohit h] at hr
    subst hr
    exact text_off A n c a w hn (.inr (by omega))
theorem text_any_byte {zs s : List Int} {a : Nat} (hz : ∀ z ∈ zs, 0 ≤ z ∧ z < 256) (h : textFrom zs a = some s) : ∀ z ∈ s, 0 ≤ z ∧ z < 256 := by
  unfold textFrom at h
  split at h
  · simp only [Option.some.injEq] at h
    subst h
    exact fun z hz' => hz z (List.mem_of_mem_drop ((List.takeWhile_sublist _).subset hz'))
  · cases h

/-- words.Pad of a number that isn't below 0. -/
theorem padN_any (n : Nat) (q : Int) (hq : q = (n : Int)) (w : World) (h : n ≤ 9223372036854775807) :
    Calls Try.prog 83 #[.int .i64 q] w fun e w' => e = .returned (.int .i64 (padN n : Nat)) ∧ w = w' := by
  subst hq
  refine (pad_any n w (by omega) (by omega)).mono fun e w' ⟨h1, h2⟩ => ⟨?_, h2⟩
  rw [h1, if_neg (by omega)]
  congr 2
  unfold padN
  omega

set_option maxHeartbeats 1000000 in
theorem bclone_any (A : Option Addr) (n c : Nat) (zs : List Int) (w : World) (hs : Shows w w.heap.size A n zs) (hn : n ≤ 140737488351232) :
    Calls Try.prog 74 #[.slice A n c] w fun e w' => ∃ v', e = .returned v' ∧ w'.ownsRow w.heap.size 5 1 v' n (u8s zs) ∧ Below w.heap.size w w' := by
  obtain ⟨i0, hi0, hz0, hz1, hz2⟩ := info_parts info_u8
  have HS := Lib.hid hs
  clear hs
  have q : ∀ (w : World) (a : Option Addr) (n c n' c' : Nat), (binOp .eql 26 (.slice a n c) (.slice none n' c')).run Try.prog w = .ok (.bool a.isNone) w := fun w a n c n' c' => Lib.run_eql_slice_nil w _ _ a n c n' c' Try.underlying26
  have u22 : ∀ w, Sem.run Try.prog (underlying 26) w = .ok (TypeDesc.slice 5) w := run_underlying Try.underlying26
  rcases A with _ | ad
  · have hn0 : n = 0 := by
      rcases Nat.eq_zero_or_pos n with h | h
      · exact h
      · obtain ⟨b, o, e, _⟩ := HS.out.at_ h
        cases e
    have hz0' : zs = [] := List.eq_nil_of_length_eq_zero (HS.out.1.trans hn0)
    subst hn0 hz0'
    go_enter Try.func74, Try.ntmps74
    go_wp2
    go_ret
    exact ⟨_, rfl, World.ownsRow_nil _ _ _ _, Below.refl _ _⟩
  · have HB0 := Lib.hid ((Below.refl w.heap.size w).alloc (Nat.le_refl _) (.cells #[] 5))
    obtain ⟨v', w', hrun, hown, hgr, _⟩ := run_append_shown (w.alloc (.cells #[] 5)) i0 hi0 hz0 hz1 hz2 w.heap.size (.slice (some ⟨w.heap.size, 0, none⟩) 0 0) 0 [] (World.ownsRow_made w #[] 0 (Nat.le_refl _) (Nat.zero_le _) rfl) w.heap.size (some ad) n c zs (HS.out.below HB0.out) (by omega) (by simp) 26
    have HO := Lib.hid hown
    have HG := Lib.hid hgr
    have HR := Lib.hid hrun
    clear hown hgr hrun hi0 hz0 hz1 hz2
    go_enter Try.func74, Try.ntmps74
    go_wp2_with (at_builtin; refine Lib.wpList_append_run_sl _ rfl _ _ 26 rfl _ _ rfl rfl HR.out ?_)
    go_ret
    refine ⟨_, rfl, ?_, HB0.out.grown HG.out (by simp) ?_⟩
    · have := HO.out
      rw [Nat.zero_add] at this
      simpa using this
    · intro k hk
      simp [Value.ownBlock] at hk
      omega
end Go.Proofs.Ytnopcnbeklbfoaa

/-! Layer 4: what the reader asks of names and of sets of names; where a token may stand. -/
namespace Go.Proofs.Ytnopcnbeklbfoaa
open Go.RowKit Go.Maps Go.WideMaps
set_option linter.unusedVariables false
set_option linter.unusedSimpArgs false

theorem okName_any (s : ByteArray) (d : Nat) (w : World) (hs : s.size ≤ 140737488351232) (hd : d ≤ 1048576) (r : Bool) (hr : okName s d = r) :
    Calls Try.prog 71 #[.string s, .int .i64 d] w fun e w' => e = .returned (.bool r) ∧ Below w.heap.size w w' := by
  by_cases h1 : d = 1
  · subst h1
    have HR := Lib.hid (show s.toList.isEmpty = r by rw [← hr, okName, if_pos rfl])
    clear hr
    go_enter Try.func71, Try.ntmps71
    go_wp2
    go_ret
    exact ⟨congrArg (fun b => Ending.returned (.bool b)) HR.out, Below.refl _ _⟩
  · have hd1 : ((d : Int) == 1) = false := by rw [beq_eq_false_iff_ne]; omega
    have C := Lib.hid (fun w => nodeB_any s w hs r (by rw [← hr, okName, if_neg h1]))
    clear hr h1
    go_enter Try.func71, Try.ntmps71
    go_wp2_with fail
    refine (C.out _).mono ?_
    rintro e w' ⟨rfl, hb⟩
    have HB2 := Lib.hid hb
    clear hb
    go_wp2
    go_ret
    exact ⟨rfl, HB2.out⟩

theorem keyed : Keyed Try.prog 9 := lawS
set_option maxRecDepth 20000 in
set_option maxHeartbeats 1000000 in
theorem take_any (l : List ByteArray) (s : ByteArray) (w : World) (b n : Nat) (hown : w.ownsMap Try.prog 9 unitElem b n (setS l)) (hn : n ≤ 1048576) (hs : s.size ≤ 140737488351232) (r : Bool) (hr : hasS l s = r) :
    Calls Try.prog 72 #[.map (some b), .string s] w fun e w' => e = .returned (.bool (!r)) ∧ (r = true → Below w.heap.size w w') ∧ (r = false → w'.ownsMap Try.prog 9 unitElem b (n + 1) (setS (l ++ [s])) ∧ w.grownBy w' (some b)) := by
  have HO := Lib.hid hown
  have HK := Lib.hid (key_ok hs)
  have hhas := setS_has l s
  rw [hr] at hhas
  have HB := Lib.hid ((Below.refl w.heap.size w).alloc (Nat.le_refl _) (.cells #[] 133))
  have HO2 := Lib.hid (hown.alloc (.cells #[] 133))
  clear hown hs hr
  cases r
  · go_enter Try.func72, Try.ntmps72
    go_wp2_with (first | (at_lookup; refine wpList_lookup_own_unit _ rfl _ _ 95 rfl 9 133 lawS Try.underlying95 (zeroS _) b n _ rfl HO.out _ _ rfl HK.out ?_) | (at_mapUpdate; refine wpList_mapUpdate_own _ rfl _ _ _ 95 rfl 9 133 lawS Try.underlying95 unitElem b n _ rfl HO2.out (by unfold maxLen; omega) _ _ _ rfl rfl HK.out (.agg []) [] unitElem_mk ?_; intro w3 hown3 hgrow3) | fail)
    go_ret
    refine ⟨rfl, (fun h => by cases h), fun _ => ⟨?_, (World.grownBy_alloc w _ _).trans hgrow3⟩⟩
    rw [setS_snoc]
    exact hown3
  · go_enter Try.func72, Try.ntmps72
    go_wp2_with (first | (at_lookup; refine wpList_lookup_own_unit _ rfl _ _ 95 rfl 9 133 lawS Try.underlying95 (zeroS _) b n _ rfl HO.out _ _ rfl HK.out ?_) | fail)
    go_ret
    exact ⟨rfl, fun _ => HB.out, fun h => by cases h⟩

/-- What the reader reads of the innermost node. -/
theorem Rdr.top {w : World} {B R pos g c : Nat} {Sv Tv : Value} {fs : List Fr} {f : Fr} {L : Nat → Nat} {n : Nat} (h : Rdr w B R Sv Tv pos (.slice (some ⟨g, 0, none⟩) n c) (fs ++ [f]) L) :
    w.cell? ⟨g, fs.length * 5, none⟩ = some (.string f.name) ∧ w.cell? ⟨g, fs.length * 5 + 1, none⟩ = some f.pv ∧ w.cell? ⟨g, fs.length * 5 + 2, none⟩ = some f.kv ∧ w.cell? ⟨g, fs.length * 5 + 3, none⟩ = some (.map (some f.pm)) ∧ w.cell? ⟨g, fs.length * 5 + 4, none⟩ = some (.map (some f.km)) := by
  have hn : n = (fs ++ [f]).length := by
    rcases h.row.2 with ⟨h0, _⟩ | ⟨g', cap, cur, h0, _⟩
    · simp at h0
    · simp only [Value.slice.injEq] at h0
      exact h0.2.1
  subst hn
  have key : ∀ r, r < 5 → w.cell? ⟨g, fs.length * 5 + r, none⟩ = f.cells[r]? := fun r hr => by
    rw [h.row.cellAt (fs.length * 5 + r) (by simp; omega)]
    exact flat_last (f := Fr.cells) (sz := 5) (fun _ => rfl) fs f r hr
  exact ⟨key 0 (by omega), key 1 (by omega), key 2 (by omega), key 3 (by omega), key 4 (by omega)⟩

set_option maxHeartbeats 1000000 in
theorem stand_any {w : World} {B R pos g c : Nat} {Sv Tv : Value} {fs : List Fr} {f : Fr} {L : Nat → Nat} (h : Rdr w B R Sv Tv pos (.slice (some ⟨g, 0, none⟩) (fs.length + 1) c) (fs ++ [f]) L) (hn : fs.length ≤ 1048576) (hc : fs.length + 1 ≤ c) (hcm : c ≤ 9223372036854775807)
    (tok : Int) (r : Bool) (hr : standB fs.length f.kids.length tok = r) :
    Calls Try.prog 47 #[.pointer (some ⟨R, 0, none⟩), .int .u32 tok] w fun e w' => e = .returned (.bool r) ∧ ∃ q, w' = w.drewN q := by
  obtain ⟨_, _, _, c3⟩ := h.cells
  obtain ⟨_, _, t2, _, _⟩ := h.top
  have t2' : w.cell? ⟨g, fs.length * 5 + 2, none⟩ = some (.slice f.ka f.kids.length f.kc) := t2
  have C := Lib.hid (innermost_any h hn hc hcm)
  have HR := Lib.hid hr
  obtain ⟨k, hk⟩ : ∃ k, fs.length = k := ⟨_, rfl⟩
  obtain ⟨m, hm⟩ : ∃ m, f.kids.length = m := ⟨_, rfl⟩
  rw [hk] at hn hc c3 C HR t2'
  rw [hm] at HR t2'
  clear h t2 hr
  rcases Nat.eq_zero_or_pos k with h0 | h0
  · subst h0
    have k1 : ¬ ((1 : Int) < ((0 : Nat) : Int) + 1) := by omega
    by_cases e1 : tok = 1
    · subst e1
      go_enter Try.func47, Try.ntmps47
      go_wp2_with fail
      refine C.out.mono ?_
      rintro e w1 ⟨rfl, q, rfl⟩
      go_wp2
      go_ret
      exact ⟨congrArg (fun b => Ending.returned (.bool b)) (by rw [← HR.out]; first | rfl | (simp [standB]; done) | (rw [Bool.eq_iff_iff]; simp [standB]; done) | (rw [Bool.eq_iff_iff]; simp [standB]; omega)), q, rfl⟩
    by_cases e2 : tok = 2
    · subst e2
      go_enter Try.func47, Try.ntmps47
      go_wp2_with fail
      refine C.out.mono ?_
      rintro e w1 ⟨rfl, q, rfl⟩
      go_wp2
      go_ret
      exact ⟨congrArg (fun b => Ending.returned (.bool b)) (by rw [← HR.out]; first | rfl | (simp [standB]; done) | (rw [Bool.eq_iff_iff]; simp [standB]; done) | (rw [Bool.eq_iff_iff]; simp [standB]; omega)), q, rfl⟩
    by_cases e3 : tok = 3
    · subst e3
      go_enter Try.func47, Try.ntmps47
      go_wp2_with fail
      refine C.out.mono ?_
      rintro e w1 ⟨rfl, q, rfl⟩
      go_wp2
      go_ret
      exact ⟨congrArg (fun b => Ending.returned (.bool b)) (by rw [← HR.out]; first | rfl | (simp [standB]; done) | (rw [Bool.eq_iff_iff]; simp [standB]; done) | (rw [Bool.eq_iff_iff]; simp [standB]; omega)), q, rfl⟩
    by_cases e4 : tok = 4
    · subst e4
      go_enter Try.func47, Try.ntmps47
      go_wp2_with fail
      refine C.out.mono ?_
      rintro e w1 ⟨rfl, q, rfl⟩
      go_wp2
      go_ret
      exact ⟨congrArg (fun b => Ending.returned (.bool b)) (by rw [← HR.out]; first | rfl | (simp [standB]; done) | (rw [Bool.eq_iff_iff]; simp [standB]; done) | (rw [Bool.eq_iff_iff]; simp [standB]; omega)), q, rfl⟩
    by_cases e9 : tok = 9
    · subst e9
      go_enter Try.func47, Try.ntmps47
      go_wp2_with fail
      refine C.out.mono ?_
      rintro e w1 ⟨rfl, q, rfl⟩
      go_wp2
      go_ret
      exact ⟨congrArg (fun b => Ending.returned (.bool b)) (by rw [← HR.out]; first | rfl | (simp [standB]; done) | (rw [Bool.eq_iff_iff]; simp [standB]; done) | (rw [Bool.eq_iff_iff]; simp [standB]; omega)), q, rfl⟩
    have n1 : (tok == 1) = false := by rw [beq_eq_false_iff_ne]; exact e1
    have n2 : (tok == 2) = false := by rw [beq_eq_false_iff_ne]; exact e2
    have n3 : (tok == 3) = false := by rw [beq_eq_false_iff_ne]; exact e3
    have n4 : (tok == 4) = false := by rw [beq_eq_false_iff_ne]; exact e4
    have n9 : (tok == 9) = false := by rw [beq_eq_false_iff_ne]; exact e9
    have HE := Lib.hid (show standB 0 m tok = false by simp [standB, e1, e2, e3, e4, e9])
    clear e1 e2 e3 e4 e9
    go_enter Try.func47, Try.ntmps47
    go_wp2_with fail
    refine C.out.mono ?_
    rintro e w1 ⟨rfl, q, rfl⟩
    go_wp2
    go_ret
    exact ⟨congrArg (fun b => Ending.returned (.bool b)) (HE.out.symm.trans HR.out), q, rfl⟩
  · have k1 : (1 : Int) < (k : Int) + 1 := by omega
    by_cases e1 : tok = 1
    · subst e1
      go_enter Try.func47, Try.ntmps47
      go_wp2_with fail
      refine C.out.mono ?_
      rintro e w1 ⟨rfl, q, rfl⟩
      go_wp2
      go_ret
      exact ⟨congrArg (fun b => Ending.returned (.bool b)) (by rw [← HR.out]; first | rfl | (simp [standB]; done) | (rw [Bool.eq_iff_iff]; simp [standB]; done) | (rw [Bool.eq_iff_iff]; simp [standB]; omega)), q, rfl⟩
    by_cases e2 : tok = 2
    · subst e2
      go_enter Try.func47, Try.ntmps47
      go_wp2_with fail
      refine C.out.mono ?_
      rintro e w1 ⟨rfl, q, rfl⟩
      go_wp2
      go_ret
      exact ⟨congrArg (fun b => Ending.returned (.bool b)) (by rw [← HR.out]; first | rfl | (simp [standB]; done) | (rw [Bool.eq_iff_iff]; simp [standB]; done) | (rw [Bool.eq_iff_iff]; simp [standB]; omega)), q, rfl⟩
    by_cases e3 : tok = 3
    · subst e3
      go_enter Try.func47, Try.ntmps47
      go_wp2_with fail
      refine C.out.mono ?_
      rintro e w1 ⟨rfl, q, rfl⟩
      go_wp2
      go_ret
      exact ⟨congrArg (fun b => Ending.returned (.bool b)) (by rw [← HR.out]; first | rfl | (simp [standB]; done) | (rw [Bool.eq_iff_iff]; simp [standB]; done) | (rw [Bool.eq_iff_iff]; simp [standB]; omega)), q, rfl⟩
    by_cases e4 : tok = 4
    · subst e4
      go_enter Try.func47, Try.ntmps47
      go_wp2_with fail
      refine C.out.mono ?_
      rintro e w1 ⟨rfl, q, rfl⟩
      go_wp2
      go_ret
      exact ⟨congrArg (fun b => Ending.returned (.bool b)) (by rw [← HR.out]; first | rfl | (simp [standB]; done) | (rw [Bool.eq_iff_iff]; simp [standB]; done) | (rw [Bool.eq_iff_iff]; simp [standB]; omega)), q, rfl⟩
    by_cases e9 : tok = 9
    · subst e9
      go_enter Try.func47, Try.ntmps47
      go_wp2_with fail
      refine C.out.mono ?_
      rintro e w1 ⟨rfl, q, rfl⟩
      go_wp2
      go_ret
      exact ⟨congrArg (fun b => Ending.returned (.bool b)) (by rw [← HR.out]; first | rfl | (simp [standB]; done) | (rw [Bool.eq_iff_iff]; simp [standB]; done) | (rw [Bool.eq_iff_iff]; simp [standB]; omega)), q, rfl⟩
    have n1 : (tok == 1) = false := by rw [beq_eq_false_iff_ne]; exact e1
    have n2 : (tok == 2) = false := by rw [beq_eq_false_iff_ne]; exact e2
    have n3 : (tok == 3) = false := by rw [beq_eq_false_iff_ne]; exact e3
    have n4 : (tok == 4) = false := by rw [beq_eq_false_iff_ne]; exact e4
    have n9 : (tok == 9) = false := by rw [beq_eq_false_iff_ne]; exact e9
    have HE := Lib.hid (show standB k m tok = false by simp [standB, e1, e2, e3, e4, e9])
    clear e1 e2 e3 e4 e9
    go_enter Try.func47, Try.ntmps47
    go_wp2_with fail
    refine C.out.mono ?_
    rintro e w1 ⟨rfl, q, rfl⟩
    go_wp2
    go_ret
    exact ⟨congrArg (fun b => Ending.returned (.bool b)) (HE.out.symm.trans HR.out), q, rfl⟩
end Go.Proofs.Ytnopcnbeklbfoaa

/-! Layer 4: the reader goes behind noughts up to a multiple of 4. -/
namespace Go.Proofs.Ytnopcnbeklbfoaa
open Go.RowKit Go.Maps Go.WideMaps
set_option linter.unusedVariables false
set_option linter.unusedSimpArgs false

/-- The first k bytes from a on are noughts. -/
def Nought (S : List Int) (a k : Nat) : Prop := ∀ j, j < k → S.getD (a + j) 0 = 0
theorem behind_yes {S : List Int} {a : Nat} (h : a + padN a ≤ S.length) (hz : Nought S a (padN a)) : behind S a = some (a + padN a) := by
  have hall : ∀ x ∈ (S.drop a).take (padN a), x = 0 := by
    intro x hx
    obtain ⟨j, hj, e⟩ := List.getElem_of_mem hx
    rw [List.length_take, List.length_drop] at hj
    have h1 := hz j (by omega)
    rw [List.getElem_take, List.getElem_drop] at e
    have e2 : S.getD (a + j) 0 = x := by rw [← e]; simp [List.getD, List.getElem?_eq_getElem (show a + j < S.length by omega)]
    rw [← e2]
    exact h1
  rw [behind, if_pos ⟨h, hall⟩]
theorem behind_far {S : List Int} {a : Nat} (h : ¬ a + padN a ≤ S.length) : behind S a = none := by
  rw [behind, if_neg (fun h' => h h'.1)]
theorem behind_no {S : List Int} {a j : Nat} (h : a + padN a ≤ S.length) (hj : j < padN a) (hz : S.getD (a + j) 0 ≠ 0) : behind S a = none := by
  rw [behind, if_neg]
  intro h'
  refine hz ?_
  have hlt : j < ((S.drop a).take (padN a)).length := by rw [List.length_take, List.length_drop]; omega
  have := h'.2 _ (List.getElem_mem hlt)
  rw [List.getElem_take, List.getElem_drop] at this
  simpa [List.getD, List.getElem?_eq_getElem (show a + j < S.length by omega)] using this

set_option maxRecDepth 20000 in
set_option maxHeartbeats 2000000 in
theorem behind_any {w : World} {B R pos n c : Nat} {A : Option Addr} {S : List Int} {Tv ov : Value} {fs : List Fr} {L : Nat → Nat} (h : Rdr w B R (.slice A n c) Tv pos ov fs L) (hs : Shows w B A n S) (hn : n ≤ 1048576) (hnc : n ≤ c) (hcm : c ≤ 9223372036854775807)
    (a : Nat) (q : Int) (hq : q = (a : Int)) (ha : a ≤ n) (r : Option Nat) (hr : behind S a = r) :
    Calls Try.prog 70 #[.pointer (some ⟨R, 0, none⟩), .int .i64 q] w fun e w' => e = .returned (.bool r.isSome) ∧ Rdr w' B R (.slice A n c) Tv (a + padN a) ov fs L ∧ Below B w w' := by
  subst hq
  have hl := hs.1
  obtain ⟨p, hp⟩ : ∃ p, padN a = p := ⟨_, rfl⟩
  have hp4 : p < 4 := by rw [← hp]; exact padN_lt a
  have C := Lib.hid (fun w => padN_any a (a : Int) rfl w (by omega))
  rw [hp] at C ⊢
  have G := h.go (a + p)
  have hbase := h.base
  have hR := h.rlt
  have HB0 := Lib.hid ((Below.refl B w).grown G.2 hbase (fun k e => by have : R = k := Option.some.inj e; omega))
  have hsB := hs.below HB0.out
  have HS := Lib.hid hsB
  have HG := Lib.hid G.1
  obtain ⟨d0, _, d2, _⟩ := G.1.cells
  have f2 := h.free 2
  obtain ⟨c0, c1, c2, c3⟩ := h.cells
  have HR := Lib.hid hr
  clear hr h hs G hsB
  have e2 : ((a + p : Nat) : Int) = (a : Int) + (p : Int) := by omega
  rw [e2] at d0 d2 HG HS HB0
  by_cases hfar : a + p ≤ n
  · have r1 := run_cut (P := Try.prog) Try.underlying26 size_u8 A n c (a : Int) ((a : Int) + (p : Int)) a (a + p) rfl (by omega) (by omega) (by omega)
    simp only [Nat.add_sub_cancel_left] at r1
    have hcut := HS.out.cut (l := a) (h := a + p) (by omega) (by omega) hnc
    simp only [Nat.add_sub_cancel_left] at hcut
    obtain ⟨A', hA'⟩ : ∃ A', cutAt A c a = A' := ⟨_, rfl⟩
    rw [hA'] at r1 hcut
    have hget : ∀ j, j < p → ((S.drop a).take p).getD j 0 = S.getD (a + j) 0 := fun j hj => by simp [List.getD, List.getElem?_take_of_lt hj, List.getElem?_drop]
    obtain ⟨zs, hzs⟩ : ∃ zs, (S.drop a).take p = zs := ⟨_, rfl⟩
    rw [hzs] at hcut hget
    have HC := Lib.hid hcut
    have HGT := Lib.hid hget
    clear hcut hget hA' hzs
    go_enter Try.func70, Try.ntmps70
    go_wp2_with fail
    refine (C.out _).mono ?_
    rintro e w1 ⟨rfl, rfl⟩
    go_wp2
    go_quiet (fail)
    go_wp2
    go_quiet (fail)
    go_wp2_with fail
    go_loopw [35] (fun i wr => ∃ k : Nat, k ≤ p ∧ i = .int .i64 k ∧ Nought S a k ∧ Shows wr B A' p zs ∧ Rdr wr B R (.slice A n c) Tv (a + p) ov fs L ∧ Below B w wr) (fun i _ => p - (intOf i).toNat)
    case atStart =>
      refine ⟨0, Nat.zero_le _, rfl, fun j hj => absurd hj (Nat.not_lt_zero j), ?_, ?_, ?_⟩
      · exact HC.out
      · exact (HG.out.under (draws_under _ _)).under (draws_under _ _)
      · exact HB0.out.trans ⟨rfl, rfl, rfl, Nat.le_refl _, fun _ _ => rfl⟩
    case round =>
      obtain ⟨k, hk, rfl, hz, hsh, hrd, hbe⟩ := hrel
      have HZ := Lib.hid hz
      have HRD := Lib.hid hrd
      have HBE := Lib.hid hbe
      by_cases hlt : k < p
      · obtain ⟨b, o, rfl, _, hc⟩ := hsh.at_ (by omega)
        have ck := hc k hlt
        rw [HGT.out k hlt] at ck
        have HSH := Lib.hid hsh
        obtain ⟨x, hx⟩ : ∃ x, S.getD (a + k) 0 = x := ⟨_, rfl⟩
        rw [hx] at ck
        have HX := Lib.hid hx
        clear hc hsh hz hrd hbe hx
        by_cases h0 : x = 0
        · subst h0
          go_wp2
          go_roundw
          case rel => exact ⟨k + 1, by omega, by go_num, fun j hj => (by
            rcases Nat.lt_succ_iff_lt_or_eq.1 hj with h | h
            · exact HZ.out j h
            · rw [h]; exact HX.out), HSH.out, HRD.out, HBE.out⟩
          case measure => simp [intOf]; omega
        · have n0 : (x != 0) = true := by rw [bne_iff_ne]; exact h0
          obtain rfl : r = none := by rw [← HR.out]; exact behind_no (by rw [hp, hl]; exact hfar) (by rw [hp]; exact hlt) (by rw [HX.out]; exact h0)
          go_wp2
          go_ret
          exact ⟨rfl, HRD.out, HBE.out⟩
      · obtain rfl : k = p := by omega
        obtain rfl : r = some (a + k) := by rw [← HR.out, behind_yes (by rw [hp, hl]; exact hfar) (by rw [hp]; exact hz), hp]
        clear hz hsh hrd hbe
        go_wp2
        go_ret
        exact ⟨rfl, HRD.out, HBE.out⟩
  · have h1 : (n : Int) < (a : Int) + (p : Int) := by omega
    obtain rfl : r = none := by rw [← HR.out]; exact behind_far (by rw [hp, hl]; exact hfar)
    clear hfar
    go_enter Try.func70, Try.ntmps70
    go_wp2_with fail
    refine (C.out _).mono ?_
    rintro e w1 ⟨rfl, rfl⟩
    go_wp2
    go_quiet (fail)
    go_wp2
    go_ret
    exact ⟨rfl, HG.out.under (draws_under _ _), HB0.out.trans ⟨rfl, rfl, rfl, Nat.le_refl _, fun _ _ => rfl⟩⟩
end Go.Proofs.Ytnopcnbeklbfoaa

/-! Layer 4: the innermost node gets a name, a property, a node; the innermost node is done with: in memory. -/
namespace Go.Proofs.Ytnopcnbeklbfoaa
open Go.RowKit Go.Maps Go.WideMaps
set_option linter.unusedVariables false
set_option linter.unusedSimpArgs false

section
variable {w w' : World} {B R pos g n c : Nat} {Sv Tv ov : Value} {fs : List Fr} {f : Fr} {L : Nat → Nat}

/-- The innermost node's set of nodes' names has one more. -/
theorem Rdr.tookKid (h : Rdr w B R Sv Tv pos ov (fs ++ [f]) L) (s : ByteArray) (hm : w'.ownsMap Try.prog 9 unitElem f.km (f.taken.length + 1) (setS (f.taken ++ [s]))) (hg : w.grownBy w' (some f.km)) :
    Rdr w' B R Sv Tv pos ov (fs ++ [{ f with taken := f.taken ++ [s] }]) L := by
  have ht := ok_top h.ok
  have hl := ht.lkm
  have hne : ∀ X, some f.km = some X → L X = 4 * fs.length + 6 := fun X e => by rw [← Option.some.inj e]; exact hl
  have hcell := done_cell (B := B) (L := L) hg (fun X e => by have := hne X e; omega)
  have hD := done_of (B := B) (w := w) (w' := w') (L := L) (L' := L) hg.size (fun _ _ h => h)
  refine ⟨h.rd.kept hg (.inr (fun e => ?_)), h.lr, ?_, h.lo, ok_mk (fun i hi => (ok_low h.ok i hi).kept hg (fun X e => by have := hne X e; omega) (fun _ _ _ => rfl)) ?_, Nat.le_trans h.base hg.size⟩
  · have h1 : R = f.km := by simpa [Value.ownBlock] using e
    have h2 := h.lr
    rw [h1] at h2; omega
  · have h1 := h.row.kept hg (by
      cases e : ov.ownBlock with
      | none => exact .inl rfl
      | some g => exact .inr (fun e2 => by have h1 := h.lo g e; have h2 := hne g e2.symm; omega))
    simpa [Fr.cells, Fr.pv, Fr.kv] using h1
  · refine ⟨ht.name, ht.prow.kept hg ?_, ht.krow.kept hg ?_, ht.pmap.kept hg (fun e => ?_), by simpa using hm, ht.lp, ht.lk, ht.lpm, ht.lkm, ht.bpm, ht.bkm, fun p hp => ?_, fun k hk => ?_⟩
    · cases e : f.pv.ownBlock with
      | none => exact .inl rfl
      | some g => exact .inr (fun e2 => by have h1 := ht.lp g e; have h2 := hne g e2.symm; omega)
    · cases e : f.kv.ownBlock with
      | none => exact .inl rfl
      | some g => exact .inr (fun e2 => by have h1 := ht.lk g e; have h2 := hne g e2.symm; omega)
    · have h1 := ht.lpm; have h2 := hne _ e.symm; omega
    · have h1 := ht.props p hp
      exact ⟨(h1.1.at_ h1.2 hcell).more hg.size, h1.2.mono hD⟩
    · have h1 := ht.kids k hk
      exact ⟨(Nd.In.at_ hcell h1.1 h1.2).more hg.size, h1.2.mono hD⟩
/-- .. of properties' names. -/
theorem Rdr.tookProp (h : Rdr w B R Sv Tv pos ov (fs ++ [f]) L) (s : ByteArray) (hm : w'.ownsMap Try.prog 9 unitElem f.pm (f.had.length + 1) (setS (f.had ++ [s]))) (hg : w.grownBy w' (some f.pm)) :
    Rdr w' B R Sv Tv pos ov (fs ++ [{ f with had := f.had ++ [s] }]) L := by
  have ht := ok_top h.ok
  have hl := ht.lpm
  have hne : ∀ X, some f.pm = some X → L X = 4 * fs.length + 5 := fun X e => by rw [← Option.some.inj e]; exact hl
  have hcell := done_cell (B := B) (L := L) hg (fun X e => by have := hne X e; omega)
  have hD := done_of (B := B) (w := w) (w' := w') (L := L) (L' := L) hg.size (fun _ _ h => h)
  refine ⟨h.rd.kept hg (.inr (fun e => ?_)), h.lr, ?_, h.lo, ok_mk (fun i hi => (ok_low h.ok i hi).kept hg (fun X e => by have := hne X e; omega) (fun _ _ _ => rfl)) ?_, Nat.le_trans h.base hg.size⟩
  · have h1 : R = f.pm := by simpa [Value.ownBlock] using e
    have h2 := h.lr
    rw [h1] at h2; omega
  · have h1 := h.row.kept hg (by
      cases e : ov.ownBlock with
      | none => exact .inl rfl
      | some g => exact .inr (fun e2 => by have h1 := h.lo g e; have h2 := hne g e2.symm; omega))
    simpa [Fr.cells, Fr.pv, Fr.kv] using h1
  · refine ⟨ht.name, ht.prow.kept hg ?_, ht.krow.kept hg ?_, by simpa using hm, ht.kmap.kept hg (fun e => ?_), ht.lp, ht.lk, ht.lpm, ht.lkm, ht.bpm, ht.bkm, fun p hp => ?_, fun k hk => ?_⟩
    · cases e : f.pv.ownBlock with
      | none => exact .inl rfl
      | some g => exact .inr (fun e2 => by have h1 := ht.lp g e; have h2 := hne g e2.symm; omega)
    · cases e : f.kv.ownBlock with
      | none => exact .inl rfl
      | some g => exact .inr (fun e2 => by have h1 := ht.lk g e; have h2 := hne g e2.symm; omega)
    · have h1 := ht.lkm; have h2 := hne _ e.symm; omega
    · have h1 := ht.props p hp
      exact ⟨(h1.1.at_ h1.2 hcell).more hg.size, h1.2.mono hD⟩
    · have h1 := ht.kids k hk
      exact ⟨(Nd.In.at_ hcell h1.1 h1.2).more hg.size, h1.2.mono hD⟩

theorem ownsRow_slice {e : TypeId} {sz : Nat} {v : Value} {xs : List Value} (h : w.ownsRow B e sz v n xs) (hn : 0 < n) : ∃ b c, v = .slice (some ⟨b, 0, none⟩) n c ∧ n ≤ c ∧ c ≤ 9223372036854775807 ∧ b < w.heap.size ∧ B ≤ b := by
  rcases h.2 with ⟨rfl, h0⟩ | ⟨g, cap, cur, rfl, hb, hg, h1, h2, _⟩
  · omega
  · exact ⟨g, cap, rfl, h1, h2, (Array.getElem?_eq_some_iff.1 hg).1, hb⟩
theorem ownsRow_less {e : TypeId} {sz m : Nat} {xs ys : List Value} (h : w.ownsRow B e sz (.slice (some ⟨g, 0, none⟩) n c) n (xs ++ ys)) (hm : m ≤ n) (hx : xs.length = m * sz) : w.ownsRow B e sz (.slice (some ⟨g, 0, none⟩) m c) m xs := by
  rcases h.2 with ⟨h0, _⟩ | ⟨g', cap, cur, h0, hb, hg, h1, h2, h3, h4⟩
  · simp at h0
  · simp only [Value.slice.injEq, Option.some.injEq, Addr.mk.injEq, and_true, true_and] at h0
    obtain ⟨rfl, rfl⟩ := h0
    refine ⟨hx, .inr ⟨g, c, cur, rfl, hb, hg, Nat.le_trans hm h1, h2, h3, ?_⟩⟩
    have h5 : (cur.toList.take (n * sz)).take (m * sz) = cur.toList.take (m * sz) := by rw [List.take_take, Nat.min_eq_left (Nat.mul_le_mul_right _ hm)]
    rw [← h5, h4, ← hx, List.take_left]

theorem own_off {o row : Option Nat} (h : ∀ g, o = some g → row ≠ some g) : o = none ∨ o ≠ row := by
  cases o with
  | none => exact .inl rfl
  | some g => exact .inr (fun e => h g rfl e.symm)

/-- The innermost node is done with: the reader's row is one shorter. -/
theorem Rdr.drop (h : Rdr w B R Sv Tv pos (.slice (some ⟨g, 0, none⟩) (fs.length + 1) c) (fs ++ [f]) L) (hp : f.props.length ≤ 1048576) (hk : f.kids.length ≤ 1048576) :
    ∃ L', Rdr (w.setCell ⟨R, 3, none⟩ (.slice (some ⟨g, 0, none⟩) fs.length c)) B R Sv Tv pos (.slice (some ⟨g, 0, none⟩) fs.length c) fs L' ∧
      f.node.In (w.setCell ⟨R, 3, none⟩ (.slice (some ⟨g, 0, none⟩) fs.length c)) (w.setCell ⟨R, 3, none⟩ (.slice (some ⟨g, 0, none⟩) fs.length c)).heap.size ∧ f.node.At (Done B (w.setCell ⟨R, 3, none⟩ (.slice (some ⟨g, 0, none⟩) fs.length c)) L') ∧
      w.grownBy (w.setCell ⟨R, 3, none⟩ (.slice (some ⟨g, 0, none⟩) fs.length c)) (some R) := by
  obtain ⟨r1, hg⟩ := h.rd.stored 3 (.slice (some ⟨g, 0, none⟩) fs.length c)
  obtain ⟨w', hw'⟩ : ∃ w', w.setCell ⟨R, 3, none⟩ (.slice (some ⟨g, 0, none⟩) fs.length c) = w' := ⟨_, rfl⟩
  rw [hw'] at r1 hg ⊢
  obtain ⟨L', hL'⟩ : ∃ L' : Nat → Nat, L' = fun b => if 4 * fs.length + 3 ≤ L b then 0 else L b := ⟨_, rfl⟩
  have hlow : ∀ b, L b < 4 * fs.length + 3 → L' b = L b := fun b hb => by rw [hL']; simp; omega
  have hhigh : ∀ b, 4 * fs.length + 3 ≤ L b → L' b = 0 := fun b hb => by rw [hL']; simp; omega
  have hzero : ∀ b, b < w.heap.size → L b = 0 → L' b = 0 := fun b _ hb => by rw [hlow b (by omega), hb]
  have ht := ok_top h.ok
  have hlr := h.lr
  have hne : ∀ X, some R = some X → L X = 1 := fun X e => by rw [← Option.some.inj e]; exact hlr
  have hcell := done_cell (B := B) (L := L) hg (fun X e => by have := hne X e; omega)
  have hD := done_of (B := B) (w := w) (w' := w') (L := L) (L' := L') hg.size hzero
  have hrow : w'.ownsRow B 97 5 (.slice (some ⟨g, 0, none⟩) fs.length c) fs.length (fs.flatMap Fr.cells) := by
    have h1 := h.row
    have e5 : (fs ++ [f]).length = fs.length + 1 := by simp
    rw [e5, List.flatMap_append] at h1
    have h2 := ownsRow_less h1 (Nat.le_succ _) (flat_len (f := Fr.cells) (sz := 5) (fun _ => rfl) fs)
    exact h2.kept hg (own_off (fun b e e2 => by
      have h3 := h.lo b e
      have h4 := hne b e2
      omega))
  have hp' := ht.prow.kept hg (own_off (fun b e e2 => by have h3 := ht.lp b e; have h4 := hne b e2; omega))
  have hk' := ht.krow.kept hg (own_off (fun b e e2 => by have h3 := ht.lk b e; have h4 := hne b e2; omega))
  have plen : f.props.length ≤ f.pc ∧ f.pc ≤ 9223372036854775807 := by
    rcases ht.prow.2 with ⟨e, h0⟩ | ⟨b, cap, cur, e, _, _, h1, h2, _⟩
    · simp only [Fr.pv, Value.slice.injEq] at e; omega
    · simp only [Fr.pv, Value.slice.injEq] at e
      exact ⟨by rw [e.2.2]; exact h1, by rw [e.2.2]; exact h2⟩
  have klen : f.kids.length ≤ f.kc ∧ f.kc ≤ 9223372036854775807 := by
    rcases ht.krow.2 with ⟨e, h0⟩ | ⟨b, cap, cur, e, _, _, h1, h2, _⟩
    · simp only [Fr.kv, Value.slice.injEq] at e; omega
    · simp only [Fr.kv, Value.slice.injEq] at e
      exact ⟨by rw [e.2.2]; exact h1, by rw [e.2.2]; exact h2⟩
  refine ⟨L', ⟨by simpa using r1, by rw [hlow R (by omega)]; exact hlr, hrow, fun b e => ?_, fun i hi => ?_, Nat.le_trans h.base hg.size⟩, ?_, ?_, hg⟩
  · have h1 := h.lo b e
    rw [hlow b (by omega)]; exact h1
  · exact (ok_low h.ok i hi).kept hg (fun X e => by have := hne X e; omega) (fun b _ hb => hlow b (by omega))
  · refine .mk _ ⟨?_, ?_, ?_⟩ plen.1 plen.2 klen.1 klen.2 (fun h0 => ?_) (fun p hp => ?_) (fun h0 => ?_) (fun k hk => ?_)
    · have := ht.name; show f.name.size ≤ _; omega
    · show f.props.length * 40 ≤ _; omega
    · show f.kids.length * 64 ≤ _; omega
    · obtain ⟨b, cap, e, _, _, hb, _⟩ := ownsRow_slice hp' h0
      simp only [Fr.pv, Value.slice.injEq] at e
      refine ⟨b, 0, e.1, hb, fun i hi => ?_⟩
      rw [Fr.pv, e.1] at hp'
      have at2 := fun r (hr : r < 2) => flat_at (f := pC) (sz := 2) (fun _ => rfl) f.props i r hi hr
      rw [Nat.zero_add, hp'.cellAt (i * 2) (by have : i < f.props.length := hi; omega), hp'.cellAt (i * 2 + 1) (by have : i < f.props.length := hi; omega)]
      exact ⟨at2 0 (by omega), at2 1 (by omega)⟩
    · have h1 := ht.props p hp
      exact (h1.1.at_ h1.2 hcell).more hg.size
    · obtain ⟨b, cap, e, _, _, hb, _⟩ := ownsRow_slice hk' h0
      simp only [Fr.kv, Value.slice.injEq] at e
      refine ⟨b, 0, e.1, hb, fun i hi => ?_⟩
      rw [Fr.kv, e.1] at hk'
      have at2 := fun r (hr : r < 3) => flat_at (f := kC) (sz := 3) (fun _ => rfl) f.kids i r hi hr
      rw [Nat.zero_add, hk'.cellAt (i * 3) (by have : i < f.kids.length := hi; omega), hk'.cellAt (i * 3 + 1) (by have : i < f.kids.length := hi; omega), hk'.cellAt (i * 3 + 2) (by have : i < f.kids.length := hi; omega)]
      exact ⟨at2 0 (by omega), at2 1 (by omega), at2 2 (by omega)⟩
    · have h1 := ht.kids k hk
      exact (Nd.In.at_ hcell h1.1 h1.2).more hg.size
  · refine .mk _ (fun h0 b o e => ?_) (fun p hp => (ht.props p hp).2.mono hD) (fun h0 b o e => ?_) (fun k hk => (ht.kids k hk).2.mono hD)
    · have hb : f.pv.ownBlock = some b := by
        have e' : f.pa = some ⟨b, o, none⟩ := e
        rw [Fr.pv, e']; rfl
      have h1 := ht.lp b hb
      exact ⟨(ht.prow.lt b hb).1, Nat.lt_of_lt_of_le (ht.prow.lt b hb).2 hg.size, hhigh b (by omega)⟩
    · have hb : f.kv.ownBlock = some b := by
        have e' : f.ka = some ⟨b, o, none⟩ := e
        rw [Fr.kv, e']; rfl
      have h1 := ht.lk b hb
      exact ⟨(ht.krow.lt b hb).1, Nat.lt_of_lt_of_le (ht.krow.lt b hb).2 hg.size, hhigh b (by omega)⟩
end
end Go.Proofs.Ytnopcnbeklbfoaa

/-! Layer 4: the innermost node gets a property, a node: in memory. -/
namespace Go.Proofs.Ytnopcnbeklbfoaa
open Go.RowKit Go.Maps Go.WideMaps
set_option linter.unusedVariables false
set_option linter.unusedSimpArgs false

theorem info_prop : (Try.prog.info? 52).map (fun i => (i.zero, i.size, i.bytes)) = some (some (.agg #[.string ⟨#[]⟩, .slice none 0 0]), 2, 40) := by kernel_rfl
theorem info_kid : (Try.prog.info? 38).map (fun i => (i.zero, i.size, i.bytes)) = some (some (.agg #[.string ⟨#[]⟩, .slice none 0 0, .slice none 0 0]), 3, 64) := by kernel_rfl

section
variable {w w' : World} {B R pos g c : Nat} {Sv Tv ov : Value} {fs : List Fr} {f : Fr} {L : Nat → Nat}

theorem Rdr.addProp (h : Rdr w B R Sv Tv pos (.slice (some ⟨g, 0, none⟩) (fs.length + 1) c) (fs ++ [f]) L) (p : PV) (hp : p.In w w.heap.size) (ha : p.At (Done B w L)) (hn : f.props.length ≤ 1048576) (ty : TypeId) :
    ∃ pa' pc' w', (Builtin.append_ #[35, 35] ty #[f.pv, .slice (some ⟨w.heap.size, 0, none⟩) 1 1]).run Try.prog (w.alloc (.cells #[.string p.name, p.val] 52)) = .ok (.slice pa' (f.props.length + 1) pc') w' ∧
      (∃ L', Rdr (w'.setCell ⟨g, fs.length * 5 + 1, none⟩ (.slice pa' (f.props.length + 1) pc')) B R Sv Tv pos (.slice (some ⟨g, 0, none⟩) (fs.length + 1) c) (fs ++ [{ f with pa := pa', pc := pc', props := f.props ++ [p] }]) L') ∧
      Below B w (w'.setCell ⟨g, fs.length * 5 + 1, none⟩ (.slice pa' (f.props.length + 1) pc')) ∧ w'.cell? ⟨g, fs.length * 5 + 1, none⟩ = some f.pv ∧ w'.frozen? ⟨g, fs.length * 5 + 1, none⟩ = false := by
  obtain ⟨i0, hi0, hz0, hz1, hz2⟩ := info_parts info_prop
  have hbase := h.base
  have ht := ok_top h.ok
  have e5 : (fs ++ [f]).length = fs.length + 1 := by simp
  obtain ⟨w1, e1⟩ : ∃ w1, w1 = w.alloc (.cells #[.string p.name, p.val] 52) := ⟨_, rfl⟩
  have s1 : w1.heap.size = w.heap.size + 1 := by rw [e1]; simp
  have k1 : w.grownBy w1 none := by rw [e1]; exact World.grownBy_alloc _ _ _
  have nn : ∀ {P : Nat → Prop}, (∀ X, (none : Option Nat) = some X → P X) := fun {_} X e => by cases e
  have r1 : w1.ownsRow B 52 2 f.pv f.props.length (f.props.flatMap pC) := ht.prow.kept k1 (own_off (fun b _ e2 => by cases e2))
  obtain ⟨v', w2, hrun, hown, k2, _, hat⟩ := run_append_own_at (P := Try.prog) w1 B 35 ty 52 i0 _ 2 40 Try.underlying35 hi0 hz0 hz1 hz2 rfl (by omega) f.pv f.props.length _ r1
    ⟨w.heap.size, 0, none⟩ 1 1 [.string p.name, p.val] rfl (by rw [e1]; exact cells_new w _ _) (fun u hu => by
      simp only [List.mem_cons, List.not_mem_nil, or_false] at hu
      rcases hu with rfl | rfl <;> rfl) (by unfold maxLen; omega) (by omega) (by omega)
  obtain ⟨pb, pc', rfl, _, _, _, hpb⟩ := ownsRow_slice hown (by omega)
  have hgo : (Value.slice (some ⟨g, 0, none⟩) (fs.length + 1) c).ownBlock = some g := rfl
  have hLg := h.lo g hgo
  have hgl := (h.row.lt g hgo)
  have hlr := h.lr
  have hRl := h.rlt
  obtain ⟨L', hL'⟩ : ∃ L', L' = lab L w1.heap.size (4 * fs.length + 3) := ⟨_, rfl⟩
  have hold : ∀ b, b < w.heap.size → L' b = L b := fun b hb => by rw [hL', lab_other _ _ _ _ (by omega)]
  have hpbl : L' pb = 4 * fs.length + 3 := by
    have e0 : (Value.slice (some ⟨pb, 0, none⟩) (f.props.length + 1) pc').ownBlock = some pb := rfl
    rw [e0] at hat
    rcases hat with h1 | h1
    · rw [hold pb (ht.prow.lt pb h1.symm).2]; exact ht.lp pb h1.symm
    · rw [Option.some.inj h1, hL', lab_same]
  have hL2 : ∀ X, f.pv.ownBlock = some X → L' X = 4 * fs.length + 3 := fun X e => by rw [hold X (ht.prow.lt X e).2]; exact ht.lp X e
  have hg' : L' g = 2 := by rw [hold g hgl.2]; exact hLg
  have hR' : L' R = 1 := by rw [hold R hRl.2]; exact hlr
  have hL3 : ∀ X, some g = some X → L' X = 2 := fun X e => by rw [← Option.some.inj e]; exact hg'
  have rd2 := (h.rd.kept k1 (own_off (fun b _ e2 => by cases e2))).kept k2 (own_off (fun b e e2 => by have h1 := hL2 b e2; have h2 : R = b := Option.some.inj e; rw [← h2] at h1; omega))
  have row2 := (h.row.kept k1 (own_off (fun b _ e2 => by cases e2))).kept k2 (own_off (fun b e e2 => by have h1 := hL2 b e2; have h2 : g = b := Option.some.inj e; rw [← h2] at h1; omega))
  rw [e5] at row2
  obtain ⟨row3, k3⟩ := row2.stored (fs.length * 5 + 1) (.slice (some ⟨pb, 0, none⟩) (f.props.length + 1) pc')
  have rd3 := rd2.kept k3 (own_off (fun b e e2 => by have h1 := hL3 b e2; have h2 : R = b := Option.some.inj e; rw [← h2] at h1; omega))
  have low : ∀ i (hi : i < fs.length), FrOk (w2.setCell ⟨g, fs.length * 5 + 1, none⟩ (.slice (some ⟨pb, 0, none⟩) (f.props.length + 1) pc')) B L' i fs[i] := fun i hi =>
    (((ok_low h.ok i hi).kept (L' := L') k1 nn (fun b hb _ => hold b hb)).kept (L' := L') k2 (fun X e => by have := hL2 X e; omega) (fun _ _ _ => rfl)).kept (L' := L') k3 (fun X e => by have := hL3 X e; omega) (fun _ _ _ => rfl)
  have c1 := done_cell (B := B) (L := L) k1 nn
  have c2 := done_cell (B := B) (L := L') k2 (fun X e => by have := hL2 X e; omega)
  have c3 := done_cell (B := B) (L := L') k3 (fun X e => by have := hL3 X e; omega)
  have D1 := done_of (B := B) (w := w) (w' := w1) (L := L) (L' := L') k1.size (fun b hb h0 => (hold b hb).trans h0)
  have D2 := done_of (B := B) (w := w1) (w' := w2) (L := L') (L' := L') k2.size (fun _ _ h => h)
  have D3 := done_of (B := B) (w := w2) (w' := _) (L := L') (L' := L') k3.size (fun _ _ h => h)
  have pvs : ∀ q : PV, q.In w w.heap.size → q.At (Done B w L) → q.In (w2.setCell ⟨g, fs.length * 5 + 1, none⟩ (.slice (some ⟨pb, 0, none⟩) (f.props.length + 1) pc')) (w2.setCell ⟨g, fs.length * 5 + 1, none⟩ (.slice (some ⟨pb, 0, none⟩) (f.props.length + 1) pc')).heap.size ∧ q.At (Done B (w2.setCell ⟨g, fs.length * 5 + 1, none⟩ (.slice (some ⟨pb, 0, none⟩) (f.props.length + 1) pc')) L') := fun q h1 h2 =>
    ⟨((((h1.at_ h2 c1).at_ (h2.mono D1) c2).at_ ((h2.mono D1).mono D2) c3).more (Nat.le_trans k1.size (Nat.le_trans k2.size k3.size))), ((h2.mono D1).mono D2).mono D3⟩
  refine ⟨some ⟨pb, 0, none⟩, pc', w2, by rw [← hrun, e1], ⟨L', ⟨rd3, hR', ?_, fun b e => ?_, ok_mk low ?_, ?_⟩⟩, ?_, ?_, ?_⟩
  · have e6 : (fs ++ [{ f with pa := some ⟨pb, 0, none⟩, pc := pc', props := f.props ++ [p] }]).length = fs.length + 1 := by simp
    rw [e6, ← flat_set (f := Fr.cells) (sz := 5) (fun _ => rfl) fs f { f with pa := some ⟨pb, 0, none⟩, pc := pc', props := f.props ++ [p] } 1 (.slice (some ⟨pb, 0, none⟩) (f.props.length + 1) pc') (by omega) (by simp [Fr.cells, Fr.pv, Fr.kv])]
    exact row3
  · rw [← Option.some.inj (hgo.symm.trans e)]; exact hg'
  · refine ⟨ht.name, ?_, ?_, ?_, ?_, fun b e => ?_, fun b e => ?_, ?_, ?_, ht.bpm, ht.bkm, fun q hq => ?_, fun k hk => ?_⟩
    · have h1 := hown.kept k3 (own_off (fun b e e2 => by have h1 := hL3 b e2; have h2 : pb = b := Option.some.inj e; rw [← h2] at h1; omega))
      have e7 : (f.props ++ [p]).length = f.props.length + 1 := by simp
      show World.ownsRow _ B _ 2 (.slice _ (f.props ++ [p]).length _) (f.props ++ [p]).length _
      rw [e7, List.flatMap_append]
      simpa [pC] using h1
    · exact ((ht.krow.kept k1 (own_off (fun b _ e2 => by cases e2))).kept k2 (own_off (fun b e e2 => by have h1 := hL2 b e2; have h2 := ht.lk b e; have h3 := hold b (ht.krow.lt b e).2; omega))).kept k3 (own_off (fun b e e2 => by have h1 := hL3 b e2; have h2 := ht.lk b e; have h3 := hold b (ht.krow.lt b e).2; omega))
    · exact ((ht.pmap.kept k1 (by simp)).kept k2 (fun e => by have h1 := hL2 _ e.symm; have h2 := ht.lpm; have h3 := hold _ ht.pmap.lt; omega)).kept k3 (fun e => by have h1 := hL3 _ e.symm; have h2 := ht.lpm; have h3 := hold _ ht.pmap.lt; omega)
    · exact ((ht.kmap.kept k1 (by simp)).kept k2 (fun e => by have h1 := hL2 _ e.symm; have h2 := ht.lkm; have h3 := hold _ ht.kmap.lt; omega)).kept k3 (fun e => by have h1 := hL3 _ e.symm; have h2 := ht.lkm; have h3 := hold _ ht.kmap.lt; omega)
    · have h2 : pb = b := Option.some.inj e
      rw [← h2]; exact hpbl
    · have h1 := ht.lk b e
      rw [hold b (ht.krow.lt b e).2]; exact h1
    · show L' f.pm = _
      rw [hold _ ht.pmap.lt]; exact ht.lpm
    · show L' f.km = _
      rw [hold _ ht.kmap.lt]; exact ht.lkm
    · rcases List.mem_append.1 hq with hq | hq
      · exact pvs q (ht.props q hq).1 (ht.props q hq).2
      · rw [List.mem_singleton.1 hq]; exact pvs p hp ha
    · have h1 := ht.kids k hk
      exact ⟨(Nd.In.at_ c3 (Nd.In.at_ c2 (Nd.In.at_ c1 h1.1 h1.2) (h1.2.mono D1)) ((h1.2.mono D1).mono D2)).more (Nat.le_trans k1.size (Nat.le_trans k2.size k3.size)), ((h1.2.mono D1).mono D2).mono D3⟩
  · exact Nat.le_trans hbase (Nat.le_trans k1.size (Nat.le_trans k2.size k3.size))
  · have b1 : Below B w w1 := ⟨k1.os, k1.tape, k1.output, k1.size, fun k hk => k1.block k (by omega) (by simp)⟩
    have b2 : Below B w w2 := b1.grown k2 (by omega) (fun k e => (ht.prow.lt k e).1)
    exact b2.grown k3 (by have := k2.size; omega) (fun k e => by rw [← Option.some.inj e]; exact hgl.1)
  · rw [row2.cellAt _ (by omega)]
    exact flat_last (f := Fr.cells) (sz := 5) (fun _ => rfl) fs f 1 (by omega)
  · exact row2.frozenAt _

theorem set_three (xs : List Value) (a b c x y z : Value) (m : Nat) (h : xs.length = m * 3) : (((xs ++ [a, b, c]).set (m * 3) x).set (m * 3 + 1) y).set (m * 3 + 2) z = xs ++ [x, y, z] := by
  rw [List.set_append_right _ _ (by omega), List.set_append_right _ _ (by omega), List.set_append_right _ _ (by omega), h]
  have e0 : m * 3 - m * 3 = 0 := by omega
  have e1 : m * 3 + 1 - m * 3 = 1 := by omega
  have e2 : m * 3 + 2 - m * 3 = 2 := by omega
  rw [e0, e1, e2]
  rfl

theorem Rdr.addKid (h : Rdr w B R Sv Tv pos (.slice (some ⟨g, 0, none⟩) (fs.length + 1) c) (fs ++ [f]) L) (nd : Nd) (hp : nd.In w w.heap.size) (ha : nd.At (Done B w L)) (hn : f.kids.length ≤ 1048576) (ty : TypeId) :
    ∃ kb kc' w', (Builtin.append_ #[36, 36] ty #[f.kv, .slice (some ⟨w.heap.size, 0, none⟩) 1 1]).run Try.prog (w.alloc (.cells #[.string ⟨#[]⟩, .slice none 0 0, .slice none 0 0] 38)) = .ok (.slice (some ⟨kb, 0, none⟩) (f.kids.length + 1) kc') w' ∧
      (∃ L', Rdr ((((w'.setCell ⟨kb, f.kids.length * 3, none⟩ (.string nd.name)).setCell ⟨kb, f.kids.length * 3 + 1, none⟩ nd.pv).setCell ⟨kb, f.kids.length * 3 + 2, none⟩ nd.kv).setCell ⟨g, fs.length * 5 + 2, none⟩ (.slice (some ⟨kb, 0, none⟩) (f.kids.length + 1) kc')) B R Sv Tv pos (.slice (some ⟨g, 0, none⟩) (fs.length + 1) c) (fs ++ [{ f with ka := some ⟨kb, 0, none⟩, kc := kc', kids := f.kids ++ [nd] }]) L') ∧
      Below B w ((((w'.setCell ⟨kb, f.kids.length * 3, none⟩ (.string nd.name)).setCell ⟨kb, f.kids.length * 3 + 1, none⟩ nd.pv).setCell ⟨kb, f.kids.length * 3 + 2, none⟩ nd.kv).setCell ⟨g, fs.length * 5 + 2, none⟩ (.slice (some ⟨kb, 0, none⟩) (f.kids.length + 1) kc')) ∧
      w'.cell? ⟨g, fs.length * 5 + 2, none⟩ = some f.kv ∧ w'.frozen? ⟨g, fs.length * 5 + 2, none⟩ = false ∧ (∀ j, j < 3 → (∃ x, w'.cell? ⟨kb, f.kids.length * 3 + j, none⟩ = some x) ∧ w'.frozen? ⟨kb, f.kids.length * 3 + j, none⟩ = false) ∧ kb ≠ g ∧ f.kids.length + 1 ≤ kc' ∧ kc' ≤ 9223372036854775807 ∧ kb < w'.heap.size ∧ w.grownBy w' f.kv.ownBlock ∧ (f.kv.ownBlock = some kb ∨ w.heap.size < kb) := by
  obtain ⟨i0, hi0, hz0, hz1, hz2⟩ := info_parts info_kid
  have hbase := h.base
  have ht := ok_top h.ok
  have e5 : (fs ++ [f]).length = fs.length + 1 := by simp
  obtain ⟨w1, e1⟩ : ∃ w1, w1 = w.alloc (.cells #[.string ⟨#[]⟩, .slice none 0 0, .slice none 0 0] 38) := ⟨_, rfl⟩
  have s1 : w1.heap.size = w.heap.size + 1 := by rw [e1]; simp
  have k1 : w.grownBy w1 none := by rw [e1]; exact World.grownBy_alloc _ _ _
  have nn : ∀ {P : Nat → Prop}, (∀ X, (none : Option Nat) = some X → P X) := fun {_} X e => by cases e
  have r1 : w1.ownsRow B 38 3 f.kv f.kids.length (f.kids.flatMap kC) := ht.krow.kept k1 (own_off (fun b _ e2 => by cases e2))
  obtain ⟨v', w2, hrun, hown, k2, _, hat⟩ := run_append_own_at (P := Try.prog) w1 B 36 ty 38 i0 _ 3 64 Try.underlying36 hi0 hz0 hz1 hz2 rfl (by omega) f.kv f.kids.length _ r1
    ⟨w.heap.size, 0, none⟩ 1 1 [.string ⟨#[]⟩, .slice none 0 0, .slice none 0 0] rfl (by rw [e1]; exact cells_new w _ _) (fun u hu => by
      simp only [List.mem_cons, List.not_mem_nil, or_false] at hu
      rcases hu with rfl | rfl | rfl <;> rfl) (by unfold maxLen; omega) (by omega) (by omega)
  obtain ⟨kb, kc', rfl, hkc1, hkc2, hkl, hkb⟩ := ownsRow_slice hown (by omega)
  have hgo : (Value.slice (some ⟨g, 0, none⟩) (fs.length + 1) c).ownBlock = some g := rfl
  have hLg := h.lo g hgo
  have hgl := (h.row.lt g hgo)
  have hlr := h.lr
  have hRl := h.rlt
  obtain ⟨L', hL'⟩ : ∃ L', L' = lab L w1.heap.size (4 * fs.length + 4) := ⟨_, rfl⟩
  have hold : ∀ b, b < w.heap.size → L' b = L b := fun b hb => by rw [hL', lab_other _ _ _ _ (by omega)]
  have hkbl : L' kb = 4 * fs.length + 4 := by
    have e0 : (Value.slice (some ⟨kb, 0, none⟩) (f.kids.length + 1) kc').ownBlock = some kb := rfl
    rw [e0] at hat
    rcases hat with h1 | h1
    · rw [hold kb (ht.krow.lt kb h1.symm).2]; exact ht.lk kb h1.symm
    · rw [Option.some.inj h1, hL', lab_same]
  have hg' : L' g = 2 := by rw [hold g hgl.2]; exact hLg
  have hne : kb ≠ g := fun e => by rw [e] at hkbl; omega
  have hR' : L' R = 1 := by rw [hold R hRl.2]; exact hlr
  have hL2 : ∀ X, f.kv.ownBlock = some X → L' X = 4 * fs.length + 4 := fun X e => by rw [hold X (ht.krow.lt X e).2]; exact ht.lk X e
  have hL3 : ∀ X, some kb = some X → L' X = 4 * fs.length + 4 := fun X e => by rw [← Option.some.inj e]; exact hkbl
  have hL4 : ∀ X, some g = some X → L' X = 2 := fun X e => by rw [← Option.some.inj e]; exact hg'
  obtain ⟨o3, q3⟩ := hown.stored (f.kids.length * 3) (.string nd.name)
  obtain ⟨o4, q4⟩ := o3.stored (f.kids.length * 3 + 1) nd.pv
  obtain ⟨o5, q5⟩ := o4.stored (f.kids.length * 3 + 2) nd.kv
  have k3 := (q3.trans q4).trans q5
  have hset := set_three (f.kids.flatMap kC) (.string ⟨#[]⟩) (.slice none 0 0) (.slice none 0 0) (.string nd.name) nd.pv nd.kv f.kids.length (flat_len (f := kC) (sz := 3) (fun _ => rfl) _)
  rw [hset] at o5
  have ncell : ∀ j, j < 3 → (∃ x, w2.cell? ⟨kb, f.kids.length * 3 + j, none⟩ = some x) ∧ w2.frozen? ⟨kb, f.kids.length * 3 + j, none⟩ = false := fun j hj => by
    refine ⟨?_, hown.frozenAt _⟩
    rw [hown.cellAt _ (by omega)]
    have hl : (f.kids.flatMap kC ++ [Value.string ⟨#[]⟩, .slice none 0 0, .slice none 0 0]).length = f.kids.length * 3 + 3 := by rw [List.length_append, flat_len (f := kC) (sz := 3) (fun _ => rfl)]; rfl
    exact ⟨_, List.getElem?_eq_getElem (by omega)⟩
  have row2 := (h.row.kept k1 (own_off (fun b _ e2 => by cases e2))).kept k2 (own_off (fun b e e2 => by have h1 := hL2 b e2; have h2 : g = b := Option.some.inj e; rw [← h2] at h1; omega))
  rw [e5] at row2
  have fin : ∀ w3, w2.grownBy w3 (some kb) → w3.ownsRow B 38 3 (.slice (some ⟨kb, 0, none⟩) (f.kids.length + 1) kc') (f.kids.length + 1) (f.kids.flatMap kC ++ [.string nd.name, nd.pv, nd.kv]) →
      (∃ L', Rdr (w3.setCell ⟨g, fs.length * 5 + 2, none⟩ (.slice (some ⟨kb, 0, none⟩) (f.kids.length + 1) kc')) B R Sv Tv pos (.slice (some ⟨g, 0, none⟩) (fs.length + 1) c) (fs ++ [{ f with ka := some ⟨kb, 0, none⟩, kc := kc', kids := f.kids ++ [nd] }]) L') ∧
      Below B w (w3.setCell ⟨g, fs.length * 5 + 2, none⟩ (.slice (some ⟨kb, 0, none⟩) (f.kids.length + 1) kc')) := by
    intro w3 k3 o3
    have row3 := row2.kept k3 (own_off (fun b e e2 => by have h1 := hL3 b e2; have h2 : g = b := Option.some.inj e; rw [← h2] at h1; omega))
    obtain ⟨row4, k4⟩ := row3.stored (fs.length * 5 + 2) (.slice (some ⟨kb, 0, none⟩) (f.kids.length + 1) kc')
    obtain ⟨w4, e4⟩ : ∃ w4, w4 = w3.setCell ⟨g, fs.length * 5 + 2, none⟩ (.slice (some ⟨kb, 0, none⟩) (f.kids.length + 1) kc') := ⟨_, rfl⟩
    rw [← e4] at row4 k4 ⊢
    have rd2 := (h.rd.kept k1 (own_off (fun b _ e2 => by cases e2))).kept k2 (own_off (fun b e e2 => by have h1 := hL2 b e2; have h2 : R = b := Option.some.inj e; rw [← h2] at h1; omega))
    have rd3 := rd2.kept k3 (own_off (fun b e e2 => by have h1 := hL3 b e2; have h2 : R = b := Option.some.inj e; rw [← h2] at h1; omega))
    have rd4 := rd3.kept k4 (own_off (fun b e e2 => by have h1 := hL4 b e2; have h2 : R = b := Option.some.inj e; rw [← h2] at h1; omega))
    have low : ∀ i (hi : i < fs.length), FrOk w4 B L' i fs[i] := fun i hi =>
      ((((ok_low h.ok i hi).kept (L' := L') k1 nn (fun b hb _ => hold b hb)).kept (L' := L') k2 (fun X e => by have := hL2 X e; omega) (fun _ _ _ => rfl)).kept (L' := L') k3 (fun X e => by have := hL3 X e; omega) (fun _ _ _ => rfl)).kept (L' := L') k4 (fun X e => by have := hL4 X e; omega) (fun _ _ _ => rfl)
    have c1 := done_cell (B := B) (L := L) k1 nn
    have c2 := done_cell (B := B) (L := L') k2 (fun X e => by have := hL2 X e; omega)
    have c3 := done_cell (B := B) (L := L') k3 (fun X e => by have := hL3 X e; omega)
    have c4 := done_cell (B := B) (L := L') k4 (fun X e => by have := hL4 X e; omega)
    have D1 := done_of (B := B) (w := w) (w' := w1) (L := L) (L' := L') k1.size (fun b hb h0 => (hold b hb).trans h0)
    have D2 := done_of (B := B) (w := w1) (w' := w2) (L := L') (L' := L') k2.size (fun _ _ h => h)
    have D3 := done_of (B := B) (w := w2) (w' := w3) (L := L') (L' := L') k3.size (fun _ _ h => h)
    have D4 := done_of (B := B) (w := w3) (w' := w4) (L := L') (L' := L') k4.size (fun _ _ h => h)
    have sz : w.heap.size ≤ w4.heap.size := Nat.le_trans k1.size (Nat.le_trans k2.size (Nat.le_trans k3.size k4.size))
    have nds : ∀ q : Nd, q.In w w.heap.size → q.At (Done B w L) → q.In w4 w4.heap.size ∧ q.At (Done B w4 L') := fun q h1 h2 =>
      ⟨(Nd.In.at_ c4 (Nd.In.at_ c3 (Nd.In.at_ c2 (Nd.In.at_ c1 h1 h2) (h2.mono D1)) ((h2.mono D1).mono D2)) (((h2.mono D1).mono D2).mono D3)).more sz, (((h2.mono D1).mono D2).mono D3).mono D4⟩
    refine ⟨⟨L', ⟨rd4, hR', ?_, fun b e => ?_, ok_mk low ?_, Nat.le_trans hbase sz⟩⟩, ?_⟩
    · have e6 : (fs ++ [{ f with ka := some ⟨kb, 0, none⟩, kc := kc', kids := f.kids ++ [nd] }]).length = fs.length + 1 := by simp
      rw [e6, ← flat_set (f := Fr.cells) (sz := 5) (fun _ => rfl) fs f { f with ka := some ⟨kb, 0, none⟩, kc := kc', kids := f.kids ++ [nd] } 2 (.slice (some ⟨kb, 0, none⟩) (f.kids.length + 1) kc') (by omega) (by simp [Fr.cells, Fr.pv, Fr.kv])]
      exact row4
    · rw [← Option.some.inj (hgo.symm.trans e)]; exact hg'
    · refine ⟨ht.name, ?_, ?_, ?_, ?_, fun b e => ?_, fun b e => ?_, ?_, ?_, ht.bpm, ht.bkm, fun q hq => ?_, fun k hk => ?_⟩
      · exact (((ht.prow.kept k1 (own_off (fun b _ e2 => by cases e2))).kept k2 (own_off (fun b e e2 => by have h1 := hL2 b e2; have h2 := ht.lp b e; have h3 := hold b (ht.prow.lt b e).2; omega))).kept k3 (own_off (fun b e e2 => by have h1 := hL3 b e2; have h2 := ht.lp b e; have h3 := hold b (ht.prow.lt b e).2; omega))).kept k4 (own_off (fun b e e2 => by have h1 := hL4 b e2; have h2 := ht.lp b e; have h3 := hold b (ht.prow.lt b e).2; omega))
      · have h1 := o3.kept k4 (own_off (fun b e e2 => by have h1 := hL4 b e2; have h2 : kb = b := Option.some.inj e; rw [← h2] at h1; omega))
        have e7 : (f.kids ++ [nd]).length = f.kids.length + 1 := by simp
        show World.ownsRow _ B _ 3 (.slice _ (f.kids ++ [nd]).length _) (f.kids ++ [nd]).length _
        rw [e7, List.flatMap_append]
        simpa [kC] using h1
      · exact (((ht.pmap.kept k1 (by simp)).kept k2 (fun e => by have h1 := hL2 _ e.symm; have h2 := ht.lpm; have h3 := hold _ ht.pmap.lt; omega)).kept k3 (fun e => by have h1 := hL3 _ e.symm; have h2 := ht.lpm; have h3 := hold _ ht.pmap.lt; omega)).kept k4 (fun e => by have h1 := hL4 _ e.symm; have h2 := ht.lpm; have h3 := hold _ ht.pmap.lt; omega)
      · exact (((ht.kmap.kept k1 (by simp)).kept k2 (fun e => by have h1 := hL2 _ e.symm; have h2 := ht.lkm; have h3 := hold _ ht.kmap.lt; omega)).kept k3 (fun e => by have h1 := hL3 _ e.symm; have h2 := ht.lkm; have h3 := hold _ ht.kmap.lt; omega)).kept k4 (fun e => by have h1 := hL4 _ e.symm; have h2 := ht.lkm; have h3 := hold _ ht.kmap.lt; omega)
      · have h1 := ht.lp b e
        rw [hold b (ht.prow.lt b e).2]; exact h1
      · have h2 : kb = b := Option.some.inj e
        rw [← h2]; exact hkbl
      · show L' f.pm = _
        rw [hold _ ht.pmap.lt]; exact ht.lpm
      · show L' f.km = _
        rw [hold _ ht.kmap.lt]; exact ht.lkm
      · have h1 := ht.props q hq
        exact ⟨((((h1.1.at_ h1.2 c1).at_ (h1.2.mono D1) c2).at_ ((h1.2.mono D1).mono D2) c3).at_ (((h1.2.mono D1).mono D2).mono D3) c4).more sz, (((h1.2.mono D1).mono D2).mono D3).mono D4⟩
      · rcases List.mem_append.1 hk with hk | hk
        · exact nds k (ht.kids k hk).1 (ht.kids k hk).2
        · rw [List.mem_singleton.1 hk]; exact nds nd hp ha
    · have b1 : Below B w w1 := ⟨k1.os, k1.tape, k1.output, k1.size, fun k hk => k1.block k (by omega) (by simp)⟩
      have b2 : Below B w w2 := b1.grown k2 (by omega) (fun k e => (ht.krow.lt k e).1)
      have b3 : Below B w w3 := b2.grown k3 (by have := k2.size; omega) (fun k e => by rw [← Option.some.inj e]; exact hkb)
      exact b3.grown k4 (by have := k2.size; have := k3.size; omega) (fun k e => by rw [← Option.some.inj e]; exact hgl.1)
  obtain ⟨fin1, fin2⟩ := fin _ k3 o5
  refine ⟨kb, kc', w2, by rw [← hrun, e1], fin1, fin2, ?_, row2.frozenAt _, ncell, hne, hkc1, hkc2, hkl, ?_, ?_⟩
  · rw [row2.cellAt _ (by omega)]
    exact flat_last (f := Fr.cells) (sz := 5) (fun _ => rfl) fs f 2 (by omega)
  · exact ⟨k2.os.trans k1.os, k2.tape.trans k1.tape, k2.output.trans k1.output, Nat.le_trans k1.size k2.size, fun i hi hne => (k2.block i (Nat.lt_of_lt_of_le hi k1.size) hne).trans (k1.block i hi (by simp))⟩
  · have e0 : (Value.slice (some ⟨kb, 0, none⟩) (f.kids.length + 1) kc').ownBlock = some kb := rfl
    rw [e0] at hat
    rcases hat with h1 | h1
    · exact .inl h1.symm
    · exact .inr (by have := Option.some.inj h1; omega)
end
end Go.Proofs.Ytnopcnbeklbfoaa

/-! Layer 4: the reader reads where a node begins. -/
namespace Go.Proofs.Ytnopcnbeklbfoaa
open Go.RowKit Go.Maps Go.WideMaps
set_option linter.unusedVariables false
set_option linter.unusedSimpArgs false

/-- The names that are taken are those of what there is. -/
def Told (fs : List Fr) (f : Fr) : Prop := f.had = f.props.map PV.name ∧ ∀ x ∈ fs, x.had = x.props.map PV.name
/-- The reader as it lies says st. -/
def RSt (w : World) (B R : Nat) (Sv Tv : Value) (st : PSt) : Prop :=
  ∃ g c fs f L, Rdr w B R Sv Tv st.pos (.slice (some ⟨g, 0, none⟩) (fs.length + 1) c) (fs ++ [f]) L ∧ fs.length + 1 ≤ c ∧ c ≤ 9223372036854775807 ∧ st.top = f.pure ∧ st.below = (fs.map Fr.pure).reverse ∧ Told fs f

theorem RSt.mk {w : World} {B R pos : Nat} {Sv Tv ov : Value} {fs : List Fr} {f : Fr} {L : Nat → Nat} (h : Rdr w B R Sv Tv pos ov (fs ++ [f]) L) (ht : Told fs f) : RSt w B R Sv Tv ⟨pos, f.pure, (fs.map Fr.pure).reverse⟩ := by
  obtain ⟨g, c, rfl, h1, h2⟩ := h.slice (by simp)
  have e : (fs ++ [f]).length = fs.length + 1 := by simp
  rw [e] at h h1
  exact ⟨g, c, fs, f, L, h, h1, h2, rfl, rfl, ht⟩

theorem quiet_eq {P : Program} {f : FuncId} {args : Array Value} {w : World} {n : Nat} {v : Value} (h : Calls P f args (w.drewN n) fun e w' => e = .returned v ∧ w.drewN n = w') : Calls P f args (w.drewN n) fun e w'' => e = .returned v ∧ ∃ m, w'' = w.drewN m :=
  h.mono fun _ _ ⟨he, hm⟩ => ⟨he, n, hm.symm⟩
theorem drew_below (B : Nat) (w : World) (m : Nat) : Below B w (w.drewN m) := ⟨rfl, rfl, rfl, Nat.le_refl _, fun _ _ => rfl⟩

set_option maxRecDepth 20000 in
set_option maxHeartbeats 2000000 in
theorem begin_any {w : World} {B R pos n c g oc : Nat} {A : Option Addr} {S : List Int} {Tv : Value} {fs : List Fr} {f : Fr} {L : Nat → Nat} (h : Rdr w B R (.slice A n c) Tv pos (.slice (some ⟨g, 0, none⟩) (fs.length + 1) oc) (fs ++ [f]) L)
    (hoc : fs.length + 1 ≤ oc) (hocm : oc ≤ 9223372036854775807) (ht : Told fs f) (hs : Shows w B A n S) (hn : n ≤ 1048576) (hnc : n ≤ c) (hcm : c ≤ 9223372036854775807) (hpos : pos + 4 ≤ n) (hfs : fs.length ≤ 16) (htk : f.taken.length ≤ 1048576)
    (r : Except Int PSt) (hr : beginF S ⟨pos, f.pure, (fs.map Fr.pure).reverse⟩ = r) :
    Calls Try.prog 60 #[.pointer (some ⟨R, 0, none⟩)] w fun e w' => e = .returned (.int .i64 (errOf r)) ∧ Below B w w' ∧ ∀ st', r = .ok st' → RSt w' B R (.slice A n c) Tv st' := by
  obtain ⟨c0, c1, c2, c3⟩ := h.cells
  have hl := hs.1
  obtain ⟨tf, htf⟩ : ∃ tf, textFrom S (pos + 4) = tf := ⟨_, rfl⟩
  have CT := Lib.hid (fun (m : Nat) (q : Int) (hq : q = ((pos + 4 : Nat) : Int)) => text_any A n c (pos + 4) q hq S (w.drewN m) B (hs.drewN m) hn hnc tf htf)
  unfold beginF at hr
  simp only [htf] at hr
  cases tf with
  | none =>
    have hr4 : r = .error 4 := hr.symm
    subst hr4
    clear hr h hs ht
    go_enter Try.func60, Try.ntmps60
    go_wp2
    go_quiet (first | (go_at_call 69; refine quiet_eq (CT.out _ _ (by omega))) | fail)
    go_wp2
    go_ret
    exact ⟨rfl, drew_below _ _ _, fun st' h => by cases h⟩
  | some s =>
    have hle := textFrom_len htf
    have hb := text_any_byte hs.2.1 htf
    obtain ⟨rb, hrb⟩ : ∃ rb, behind S (pos + 4 + s.length + 1) = rb := ⟨_, rfl⟩
    have hsz : (strOfNums s).size = s.length := by unfold strOfNums ByteArray.size; simp
    obtain ⟨nm, hnm⟩ : ∃ nm, strOfNums s = nm := ⟨_, rfl⟩
    have CB := Lib.hid (fun (m : Nat) (q : Int) (hq : q = ((pos + 4 + s.length + 1 : Nat) : Int)) => behind_any (h.under (draws_under w m)) (hs.drewN m) hn hnc hcm (pos + 4 + s.length + 1) q hq (by omega) rb hrb)
    simp only [hrb, hnm] at hr
    rw [hnm] at hsz
    replace CT : Hid (∀ (m : Nat) (q : Int), q = ((pos + 4 : Nat) : Int) → Calls Try.prog 69 #[.slice A n c, .int .i64 q] (w.drewN m) fun e w' => e = .returned (.tuple #[.string nm, .bool true]) ∧ w.drewN m = w') := by
      have := CT.out
      rw [← hnm]
      exact Lib.hid this
    have HS := Lib.hid hs
    clear hb htf hs
    obtain ⟨ln, hln⟩ : ∃ ln, s.length = ln := ⟨_, rfl⟩
    rw [hln] at hle hsz CB
    have hrb' := hrb
    rw [hln] at hrb'
    clear hrb hnm hln
    cases rb with
    | none =>
      have hr4 : r = .error 4 := hr.symm
      subst hr4
      clear hr h
      go_enter Try.func60, Try.ntmps60
      go_wp2
      go_quiet (first | (go_at_call 69; refine quiet_eq (CT.out _ _ (by omega))) | fail)
      go_wp2_with fail
      refine (CB.out _ _ (by omega)).mono ?_
      rintro e w1 ⟨rfl, _, hb1⟩
      have HB1 := Lib.hid ((drew_below B w _).trans hb1)
      clear hb1
      go_wp2
      go_ret
      exact ⟨rfl, HB1.out, fun st' h => by cases h⟩
    | some a =>
      have hmap : (fs.map Fr.pure).reverse.length = fs.length := by simp
      simp only [hmap] at hr
      by_cases h16 : 16 < fs.length + 1
      · rw [if_pos h16] at hr
        have hr4 : r = .error 6 := hr.symm
        subst hr4
        clear hr h
        have h16i : (16 : Int) < (fs.length : Int) + 1 := by omega
        go_enter Try.func60, Try.ntmps60
        go_wp2
        go_quiet (first | (go_at_call 69; refine quiet_eq (CT.out _ _ (by omega))) | fail)
        go_wp2_with fail
        refine (CB.out _ _ (by omega)).mono ?_
        rintro e w1 ⟨rfl, hr1, hb1⟩
        have HB1 := Lib.hid ((drew_below B w _).trans hb1)
        obtain ⟨_, _, _, d3⟩ := hr1.cells
        clear hb1 hr1
        go_wp2
        go_ret
        exact ⟨rfl, HB1.out, fun st' h => by cases h⟩
      · rw [if_neg h16] at hr
        have h16i : ¬ ((16 : Int) < (fs.length : Int) + 1) := by omega
        have ha := (behind_some hrb').1
        obtain ⟨ok, hok⟩ : ∃ ok, okName nm (fs.length + 1) = ok := ⟨_, rfl⟩
        have CN := Lib.hid (fun w => okName_any nm (fs.length + 1) w (by omega) (by omega) ok hok)
        have eL : ((fs.length + 1 : Nat) : Int) = (fs.length : Int) + 1 := by omega
        rw [eL] at CN
        rw [hok] at hr
        have HT := Lib.hid ht
        have HRR := Lib.hid hr
        clear hr h hok h16 ht
        go_enter Try.func60, Try.ntmps60
        go_wp2
        go_quiet (first | (go_at_call 69; refine quiet_eq (CT.out _ _ (by omega))) | fail)
        go_wp2_with fail
        refine (CB.out _ _ (by omega)).mono ?_
        rintro e w1 ⟨rfl, hr1, hb1⟩
        have HB1 := Lib.hid ((drew_below B w _).trans hb1)
        obtain ⟨_, _, _, d3⟩ := hr1.cells
        rw [← ha] at hr1
        have HR1 := Lib.hid hr1
        clear hb1 hr1
        go_wp2_with fail
        refine (CN.out _).mono ?_
        rintro e w2 ⟨rfl, hb2⟩
        have HR2 := Lib.hid (HR1.out.under hb2)
        have HB2 := Lib.hid (HB1.out.trans (hb2.mono HR1.out.base))
        clear hb2
        cases ok with
        | false =>
          have hr5 : r = .error 5 := HRR.out.symm
          subst hr5
          go_wp2
          go_ret
          exact ⟨rfl, HB2.out, fun st' h => by cases h⟩
        | true =>
          go_wp2_with fail
          refine (innermost_any HR2.out (by omega) hoc hocm).mono ?_
          rintro e w3 ⟨rfl, q, rfl⟩
          have HR3 := Lib.hid (HR2.out.under (draws_under _ q))
          have HB3 := Lib.hid (HB2.out.trans (drew_below B _ q))
          obtain ⟨_, _, _, _, t4⟩ := HR3.out.top
          obtain ⟨tk, htk'⟩ : ∃ tk, hasS f.taken nm = tk := ⟨_, rfl⟩
          have CK := Lib.hid (take_any f.taken nm (w2.drewN q) f.km f.taken.length (ok_top HR3.out.ok).kmap htk (by omega) tk htk')
          have HRR2 : Hid ((if tk = true then Except.error 9 else Except.ok ⟨a, PF.new nm, { f.pure with taken := f.pure.taken ++ [nm] } :: (fs.map Fr.pure).reverse⟩) = r) := by
            have := HRR.out
            rw [← htk']
            exact Lib.hid this
          clear htk' HRR
          go_wp2_with fail
          refine CK.out.mono ?_
          rintro e w4 ⟨rfl, y1, y2⟩
          cases tk with
          | true =>
            have hr9 : r = .error 9 := HRR2.out.symm
            subst hr9
            have HB4 := Lib.hid (HB3.out.trans ((y1 rfl).mono HR3.out.base))
            clear y1 y2
            go_wp2
            go_ret
            exact ⟨rfl, HB4.out, fun st' h => by cases h⟩
          | false =>
            have y3 := y2 rfl
            have HR4 := Lib.hid (HR3.out.tookKid nm y3.1 y3.2)
            have HB4 := Lib.hid (HB3.out.grown y3.2 HR3.out.base (fun k e => by rw [← Option.some.inj e]; exact (ok_top HR3.out.ok).bkm))
            clear y1 y2 y3
            go_wp2_with fail
            refine (enter_any HR4.out (by simp; omega) nm (by omega)).mono ?_
            rintro e w5 ⟨rfl, ⟨v', L', p, k, hr5⟩, hb5⟩
            have HR5 := Lib.hid hr5
            have HB5 := Lib.hid (HB4.out.trans hb5)
            clear hr5 hb5
            go_wp2
            go_ret
            have hrr : r = .ok ⟨a, PF.new nm, { f.pure with taken := f.pure.taken ++ [nm] } :: (fs.map Fr.pure).reverse⟩ := HRR2.out.symm
            rw [hrr]
            refine ⟨rfl, HB5.out, fun st' h => ?_⟩
            have hst := Except.ok.inj h
            subst hst
            have := RSt.mk HR5.out ⟨rfl, fun x hx => by
              rcases List.mem_append.1 hx with hx | hx
              · exact HT.out.2 x hx
              · rw [List.mem_singleton.1 hx]; exact HT.out.1⟩
            simpa [Fr.new, Fr.pure, PF.new] using this
end Go.Proofs.Ytnopcnbeklbfoaa

/-! Layer 4: the reader reads a property. -/
namespace Go.Proofs.Ytnopcnbeklbfoaa
open Go.RowKit Go.Maps Go.WideMaps
set_option linter.unusedVariables false
set_option linter.unusedSimpArgs false

theorem quiet_eq2 {P : Program} {f : FuncId} {args : Array Value} {w : World} {k n : Nat} {v : Value} (h : Calls P f args (w.drewN (k + n)) fun e w' => e = .returned v ∧ w.drewN (k + n) = w') : Calls P f args (w.drewN (k + n)) fun e w'' => e = .returned v ∧ ∃ m, w'' = w.drewN (k + m) :=
  h.mono fun _ _ ⟨he, hm⟩ => ⟨he, n, hm.symm⟩
/-- words.Get at any place. -/
theorem get_ite (A : Option Addr) (n c a : Nat) (q : Int) (hq : q = (a : Int)) (zs : List Int) (w : World) (B : Nat) (hs : Shows w B A n zs) (hn : n ≤ 1048576) (hnc : n ≤ c) (hc : c ≤ maxLen) (ha : a ≤ 4611686018427387904) (x : Int) (b : Bool) (hb : decide (a + 4 ≤ n) = b) (hx : (if a + 4 ≤ n then numTo zs a 4 else 0) = x) :
    Calls Try.prog 21 #[.slice A n c, .int .i64 q] w fun e w' => e = .returned (.tuple #[.int .u32 x, .bool b]) ∧ w = w' := by
  subst hq
  by_cases h : a + 4 ≤ n
  · rw [if_pos h] at hx
    rw [decide_eq_true h] at hb
    subst hx hb
    exact get_yes A n c a zs w B hs h (by omega) hnc hc
  · rw [if_neg h] at hx
    rw [decide_eq_false h] at hb
    subst hx hb
    exact get_no A n c a w (by omega) (by omega) (by omega)

section
variable {P : Program} {t e : TypeId} (ht : P.underlying t = some (.slice e)) (he : ∀ w, (Go.sizeOf e).run P w = .ok 1 w)
include ht he
theorem run_upto32 (A : Option Addr) (n c : Nat) (H : Int) (h : Nat) (hH : H = h) (hh : h ≤ c) (W : World) : (Instr.slice t (.slice A n c) none (some (.int .u32 H)) none).run P W = .ok (.slice A h c) W := by
  subst hH
  have ht' : P.underlying t = some (.slice (P.elem t)) := by simp [Program.elem, ht]
  have he' : P.elem t = e := by simp [Program.elem, ht]
  rw [run_slice_h W t _ _ _ ht' .u32 _ (by omega) (by omega), he', he]
  rcases A with _ | ⟨b, o, s⟩ <;> simp [Result.andThen, sliced, Addr.add]
end

/-- What the program asks first of a property: is there a name's place, and as many bytes as it says? -/
theorem propF_short {S T : List Int} {st : PSt} (h : ¬ st.pos + 12 ≤ S.length) : propF S T st = .error 4 := by
  unfold propF; rw [if_neg h]
theorem propF_far {S T : List Int} {st : PSt} (h : st.pos + 12 ≤ S.length) (h2 : ((S.length - (st.pos + 12) : Nat) : Int) < numTo S (st.pos + 4) 4) : propF S T st = .error 4 := by
  unfold propF; rw [if_pos h, if_pos h2]

/-- An append whose run is known, at the operation. -/
theorem wp_append_run {P : Program} {w w' : World} {o : Oper} {a : Act} {K : Act → World → Prop} {Q : Exit → Act → World → Prop} (s x : Operand) (t : TypeId) (ho : o.op = .call { callee := .builtin .append, args := #[s, x], argTypes := #[t, t] })
    (u y : Value) (hs : a.eval s = u) (hx : a.eval x = y) {v : Value} (hr : (Builtin.append_ #[t, t] o.type #[u, y]).run P w = .ok v w') (hK : K (a.put o.dst v) w') : o.wp P a w K Q := by
  unfold Oper.wp execOp
  simp only [ho, resolve, invoke, builtin, Sem.run_bind, Sem.run_pure, Result.andThen_ok, List.map_toArray, List.map_cons, List.map_nil, hs, hx, hr]
  exact hK

/-- What is known behind bytes.Clone of a property's value: what append leaves, and what the reader is then. -/
structure Cloned (w : World) (B R : Nat) (Sv Tv : Value) (a g oc : Nat) (nm : ByteArray) (vs : List Int) (fs : List Fr) (f : Fr) (A5 : Option Addr) (sz c5 : Nat) (w5 : World) : Prop where
  cell : w5.cell? ⟨g, fs.length * 5 + 1, none⟩ = some f.pv
  cell2 : (w5.alloc (.cells #[.string nm, .slice A5 sz c5] 52)).cell? ⟨g, fs.length * 5 + 1, none⟩ = some f.pv
  out : ∃ pa' pc' w6, (Builtin.append_ #[35, 35] 35 #[f.pv, .slice (some ⟨w5.heap.size, 0, none⟩) 1 1]).run Try.prog (w5.alloc (.cells #[.string nm, .slice A5 sz c5] 52)) = .ok (.slice pa' (f.props.length + 1) pc') w6 ∧
    (∃ L6, Rdr (w6.setCell ⟨g, fs.length * 5 + 1, none⟩ (.slice pa' (f.props.length + 1) pc')) B R Sv Tv a (.slice (some ⟨g, 0, none⟩) (fs.length + 1) oc) (fs ++ [{ f with pa := pa', pc := pc', props := f.props ++ [⟨nm, A5, c5, vs⟩] }]) L6) ∧
    Below B w (w6.setCell ⟨g, fs.length * 5 + 1, none⟩ (.slice pa' (f.props.length + 1) pc')) ∧ w6.cell? ⟨g, fs.length * 5 + 1, none⟩ = some f.pv ∧ w6.frozen? ⟨g, fs.length * 5 + 1, none⟩ = false

theorem clone_for {w w4 : World} {B R a g oc sz c4 : Nat} {A3 : Option Addr} {Sv Tv : Value} {nm : ByteArray} {vs : List Int} {fs : List Fr} {f : Fr} {L : Nat → Nat} (h : Rdr w4 B R Sv Tv a (.slice (some ⟨g, 0, none⟩) (fs.length + 1) oc) (fs ++ [f]) L)
    (hb : Below B w w4) (hv : Shows w4 B A3 sz vs) (hc4 : sz ≤ 140737488351232) (hnm : nm.size ≤ 140737488351232) (hn : f.props.length ≤ 1048576) :
    Calls Try.prog 74 #[.slice A3 sz c4] w4.drew fun e w5 => ∃ A5 c5, e = .returned (.slice A5 sz c5) ∧ Cloned w B R Sv Tv a g oc nm vs fs f A5 sz c5 w5 := by
  have hbw := h.base
  refine (bclone_any A3 sz c4 vs w4.drew ((hv.keep (w' := w4.drew) (fun _ _ => rfl)).more hbw) hc4).mono ?_
  rintro e w5 ⟨v5, rfl, ho5, hb5⟩
  have HBq : Below w4.heap.size w4 w5 := (Below.refl w4.heap.size w4).drew.trans hb5
  have hg5 : w4.grownBy w5 none := below_grown HBq (Nat.le_refl _)
  obtain ⟨A5, c5, rfl, hs5, hc51, hc52⟩ := owned_shows ho5 hv.2.1
  have hvl : vs.length = sz := hv.1
  have HPI : (⟨nm, A5, c5, vs⟩ : PV).In w5 w5.heap.size := ⟨⟨by show nm.size ≤ _; omega, by show vs.length ≤ _; omega⟩, by show Shows w5 w5.heap.size A5 vs.length vs; rw [hvl]; exact hs5, by show vs.length ≤ c5; rw [hvl]; exact hc51, hc52⟩
  have hR5 := h.kept (L' := fun b => if b < w4.heap.size then L b else 0) hg5 (fun X e => by cases e) (fun b hb => if_pos hb)
  have hAt : (⟨nm, A5, c5, vs⟩ : PV).At (Done B w5 (fun b => if b < w4.heap.size then L b else 0)) := fun h0 b o e => by
    have e' : A5 = some ⟨b, o, none⟩ := e
    have h1 := ho5.lt b (by rw [e']; rfl)
    have h2 : w4.heap.size ≤ b := h1.1
    exact ⟨Nat.le_trans hbw h2, h1.2, if_neg (by omega)⟩
  obtain ⟨pa', pc', w6, hrun, hR6, hB6, hcell6, hfroz6⟩ := hR5.addProp ⟨nm, A5, c5, vs⟩ HPI hAt hn 35
  have S5 : w5.cell? ⟨g, fs.length * 5 + 1, none⟩ = some f.pv := hR5.top.2.1
  exact ⟨A5, c5, rfl, S5, Lib.cell?_alloc_some _ S5, pa', pc', w6, by rw [← hvl]; exact hrun, hR6, (hb.trans (HBq.mono hbw)).trans hB6, hcell6, hfroz6⟩

set_option maxRecDepth 20000 in
set_option maxHeartbeats 4000000 in
theorem prop_any_read {w : World} {B R pos n c n2 c2 g oc : Nat} {A A2 : Option Addr} {S T : List Int} {fs : List Fr} {f : Fr} {L : Nat → Nat} (h : Rdr w B R (.slice A n c) (.slice A2 n2 c2) pos (.slice (some ⟨g, 0, none⟩) (fs.length + 1) oc) (fs ++ [f]) L)
    (hoc : fs.length + 1 ≤ oc) (hocm : oc ≤ 9223372036854775807) (ht : Told fs f) (hs : Shows w B A n S) (hn : n ≤ 1048576) (hnc : n ≤ c) (hcm : c ≤ 9223372036854775807)
    (hs2 : Shows w B A2 n2 T) (hn2 : n2 ≤ 1048576) (hnc2 : n2 ≤ c2) (hcm2 : c2 ≤ 9223372036854775807) (hpos : pos + 4 ≤ n) (hfs : fs.length ≤ 16) (htk : f.props.length ≤ 1048575)
    (r : Except Int PSt) (hr : propF S T ⟨pos, f.pure, (fs.map Fr.pure).reverse⟩ = r) :
    Calls Try.prog 61 #[.pointer (some ⟨R, 0, none⟩)] w fun e w' => e = .returned (.int .i64 (errOf r)) ∧ Below B w w' ∧ ∀ st', r = .ok st' → RSt w' B R (.slice A n c) (.slice A2 n2 c2) st' := by
  obtain ⟨c0, c1, cp, c3⟩ := h.cells
  have hl := hs.1
  have hl2 := hs2.1
  by_cases h12 : pos + 12 ≤ n
  · obtain ⟨sz, hsz⟩ : ∃ sz : Nat, numTo S (pos + 4) 4 = (sz : Int) := ⟨(numTo S (pos + 4) 4).toNat, by have := (numTo_bound S (pos + 4) hs.byte 4).1; omega⟩
    obtain ⟨na, hna⟩ : ∃ na : Nat, numTo S (pos + 8) 4 = (na : Int) := ⟨(numTo S (pos + 8) 4).toNat, by have := (numTo_bound S (pos + 8) hs.byte 4).1; omega⟩
    have e256 : (256 : Int) ^ 4 = 4294967296 := by decide
    have hszb : sz ≤ 4294967295 := by have := (numTo_bound S (pos + 4) hs.byte 4).2; omega
    have hnab : na ≤ 4294967295 := by have := (numTo_bound S (pos + 8) hs.byte 4).2; omega
    have G1 := Lib.hid (fun (m : Nat) (q : Int) (hq : q = ((pos + 4 : Nat) : Int)) => get_ite A n c (pos + 4) q hq S (w.drewN m) B (hs.drewN m) hn hnc hcm (by omega) (sz : Int) true (by simp; omega) (by rw [if_pos (by omega), hsz]))
    have G2 := Lib.hid (fun (m : Nat) (q : Int) (hq : q = ((pos + 8 : Nat) : Int)) => get_ite A n c (pos + 8) q hq S (w.drewN m) B (hs.drewN m) hn hnc hcm (by omega) (na : Int) true (by simp; omega) (by rw [if_pos (by omega), hna]))
    have hu : pos + 12 ≤ S.length := by omega
    by_cases hfar : n - (pos + 12) < sz
    · have hr4 : r = .error 4 := by rw [← hr]; exact propF_far hu (by show ((S.length - (pos + 12) : Nat) : Int) < numTo S (pos + 4) 4; rw [hsz]; omega)
      subst hr4
      have hlt : (n : Int) - ((pos : Int) + 12) < (sz : Int) := by omega
      clear hr h hs hs2 ht hsz hna
      go_enter Try.func61, Try.ntmps61
      go_wp2
      go_quiet (first | (go_at_call 21; refine quiet_eq (G1.out _ _ (by omega))) | fail)
      go_wp2
      go_quiet (first | (go_at_call 21; refine quiet_eq2 (G2.out _ _ (by omega))) | fail)
      go_wp2
      go_ret
      exact ⟨rfl, drew_below _ _ _, fun st' h => by cases h⟩
    · have hrd : propF S T ⟨pos, f.pure, (fs.map Fr.pure).reverse⟩ = (match behind S (pos + 12 + sz) with
          | none => .error 4
          | some a => match textFrom T na with
            | none => .error 4
            | some s => if propB (strOfNums s) = false then .error 5 else if hasS (f.pure.props.map Prod.fst) (strOfNums s) = true then .error 9 else
              .ok ⟨a, { f.pure with props := f.pure.props ++ [(strOfNums s, (S.drop (pos + 12)).take sz)] }, (fs.map Fr.pure).reverse⟩) := by
        unfold propF
        rw [if_pos (by exact hu), if_neg (by show ¬ ((S.length - (pos + 12) : Nat) : Int) < numTo S (pos + 4) 4; rw [hsz]; omega)]
        simp only [hsz, hna, Int.toNat_natCast]
        rfl
      rw [hrd] at hr
      have hgt : ¬ ((n : Int) - ((pos : Int) + 12) < (sz : Int)) := by omega
      obtain ⟨rb, hrb⟩ : ∃ rb, behind S (pos + 12 + sz) = rb := ⟨_, rfl⟩
      obtain ⟨tf, htf⟩ : ∃ tf, textFrom T na = tf := ⟨_, rfl⟩
      have CB := Lib.hid (fun (m : Nat) (q : Int) (hq : q = ((pos + 12 + sz : Nat) : Int)) => behind_any (h.under (draws_under w m)) (hs.drewN m) hn hnc hcm (pos + 12 + sz) q hq (by omega) rb hrb)
      have r1 := run_from (P := Try.prog) Try.underlying26 size_u8 A n c ((pos : Int) + 12) (pos + 12) (by omega) h12
      have hv := hs.cut (l := pos + 12) (h := pos + 12 + sz) (by omega) (by omega) hnc
      simp only [Nat.add_sub_cancel_left] at hv
      have r2 := run_upto32 (P := Try.prog) Try.underlying26 size_u8 (cutAt A c (pos + 12)) (n - (pos + 12)) (c - (pos + 12)) (sz : Int) sz rfl (by omega)
      obtain ⟨A3, hA3⟩ : ∃ A3, cutAt A c (pos + 12) = A3 := ⟨_, rfl⟩
      obtain ⟨c4, hc4⟩ : ∃ c4, c - (pos + 12) = c4 := ⟨_, rfl⟩
      obtain ⟨n4, hn4⟩ : ∃ n4, n - (pos + 12) = n4 := ⟨_, rfl⟩
      obtain ⟨vs, hvs⟩ : ∃ vs, (S.drop (pos + 12)).take sz = vs := ⟨_, rfl⟩
      rw [hA3] at r1 r2 hv
      rw [hc4] at r1 r2
      rw [hn4] at r1 r2
      rw [hvs] at hv hr
      simp only [hrb, htf] at hr
      have HV := Lib.hid hv
      have HS2 := Lib.hid hs2
      have HT := Lib.hid ht
      have HTF := Lib.hid htf
      have HRB := Lib.hid hrb
      have HR := Lib.hid hr
      clear hr h hs hs2 ht hsz hna hrd hv hA3 hc4 hn4 hvs htf hrb
      go_enter Try.func61, Try.ntmps61
      go_wp2
      go_quiet (first | (go_at_call 21; refine quiet_eq (G1.out _ _ (by omega))) | fail)
      go_wp2
      go_quiet (first | (go_at_call 21; refine quiet_eq2 (G2.out _ _ (by omega))) | fail)
      go_wp2_with fail
      refine (CB.out _ _ (by omega)).mono ?_
      rintro e w1 ⟨rfl, hr1, hb1⟩
      have HB1 := Lib.hid ((drew_below B w _).trans hb1)
      cases rb with
      | none =>
        have hr4 : r = .error 4 := HR.out.symm
        subst hr4
        clear hb1 hr1
        go_wp2
        go_ret
        exact ⟨rfl, HB1.out, fun st' h => by cases h⟩
      | some a =>
        rw [← (behind_some HRB.out).1] at hr1
        have HR1 := Lib.hid hr1
        obtain ⟨d0, d1, _, d3⟩ := hr1.cells
        have CT := Lib.hid (text_any A2 n2 c2 na (na : Int) rfl T w1 B (HS2.out.below HB1.out) hn2 hnc2 tf HTF.out)
        clear hb1 hr1
        go_wp2_with fail
        refine CT.out.mono ?_
        rintro e w2 ⟨rfl, rfl⟩
        go_wp2_with fail
        refine (innermost_any HR1.out (by omega) hoc hocm).mono ?_
        rintro e w3 ⟨rfl, q, rfl⟩
        have HR3 := Lib.hid (HR1.out.under (draws_under _ q))
        have HB3 := Lib.hid (HB1.out.trans (drew_below B _ q))
        cases tf with
        | none =>
          have hr4 : r = .error 4 := HR.out.symm
          subst hr4
          go_wp2
          go_ret
          exact ⟨rfl, HB3.out, fun st' h => by cases h⟩
        | some s =>
          have hle := textFrom_len HTF.out
          have hsz2 : (strOfNums s).size = s.length := by unfold strOfNums ByteArray.size; simp
          have HR' : Hid ((if propB (strOfNums s) = false then Except.error 5 else if hasS (f.pure.props.map Prod.fst) (strOfNums s) = true then .error 9 else
              .ok ⟨a, { f.pure with props := f.pure.props ++ [(strOfNums s, vs)] }, (fs.map Fr.pure).reverse⟩) = r) := HR
          have HX : Hid (txtOf (some s) = strOfNums s) := Lib.hid rfl
          rw [HX.out]
          obtain ⟨nm, hnm⟩ : ∃ nm, strOfNums s = nm := ⟨_, rfl⟩
          rw [hnm] at hsz2 HR' ⊢
          obtain ⟨pb, hpb⟩ : ∃ pb, propB nm = pb := ⟨_, rfl⟩
          have CP := Lib.hid (propB_any nm (w1.drewN q) (by omega) pb hpb)
          rw [hpb] at HR'
          clear HR HX hnm hpb
          go_wp2_with fail
          refine CP.out.mono ?_
          rintro e w4 ⟨rfl, rfl⟩
          cases pb with
          | false =>
            have hr5 : r = .error 5 := HR'.out.symm
            subst hr5
            go_wp2
            go_ret
            exact ⟨rfl, HB3.out, fun st' h => by cases h⟩
          | true =>
            obtain ⟨_, t1, _, t3, _⟩ := HR3.out.top
            have hhad : f.pure.props.map Prod.fst = f.had := by rw [HT.out.1]; simp [Fr.pure, PV.pure, Function.comp_def]
            have hlen : f.had.length = f.props.length := by rw [HT.out.1]; simp
            obtain ⟨tk, htk'⟩ : ∃ tk, hasS f.had nm = tk := ⟨_, rfl⟩
            have CK := Lib.hid (take_any f.had nm (w1.drewN q) f.pm f.had.length (ok_top HR3.out.ok).pmap (by omega) (by omega) tk htk')
            have HR2 : Hid ((if tk = true then Except.error 9 else Except.ok ⟨a, { f.pure with props := f.pure.props ++ [(nm, vs)] }, (fs.map Fr.pure).reverse⟩) = r) := by
              have := HR'.out
              rw [← htk', ← hhad]
              exact Lib.hid this
            clear htk' HR'
            go_wp2_with fail
            refine CK.out.mono ?_
            rintro e w4 ⟨rfl, y1, y2⟩
            cases tk with
            | true =>
              have hr9 : r = .error 9 := HR2.out.symm
              subst hr9
              have HB4 := Lib.hid (HB3.out.trans ((y1 rfl).mono HR3.out.base))
              clear y1 y2
              go_wp2
              go_ret
              exact ⟨rfl, HB4.out, fun st' h => by cases h⟩
            | false =>
              have y3 := y2 rfl
              have HR4 := Lib.hid (HR3.out.tookProp nm y3.1 y3.2)
              have HB4 := Lib.hid (HB3.out.grown y3.2 HR3.out.base (fun k e => by rw [← Option.some.inj e]; exact (ok_top HR3.out.ok).bpm))
              have HV4 := Lib.hid (HV.out.below HB4.out)
              clear y1 y2 y3
              obtain ⟨_, s1, _, _, _⟩ := HR4.out.top
              have CC : Hid (Calls Try.prog 74 #[.slice A3 sz c4] w4.drew fun e w5 => ∃ A5 c5, e = .returned (.slice A5 sz c5) ∧ Cloned w B R (.slice A n c) (.slice A2 n2 c2) a g oc nm vs fs { f with had := f.had ++ [nm] } A5 sz c5 w5) :=
                Lib.hid (clone_for HR4.out HB4.out HV4.out (by omega) (by omega) (by show f.props.length ≤ _; omega))
              go_wp2_with fail
              refine wp_region_held_drew (S := fun _ => True) (by kernel_rfl) trivial (fun _ => ?_)
              refine held_take 0 rfl (by kernel_rfl) (by kernel_rfl) (by kernel_rfl) (fun _ _ _ h => h) (by rfl) trivial (v := ?_) (fun w hSw => ?_) (fun _ => ?_)
              rotate_left
              · (go_simp; (try with_reducible rfl))
              simp only [Act.put, List.setIfInBounds_toArray, List.set_cons_zero, List.set_cons_succ]
              refine held_take 1 rfl (by kernel_rfl) (by kernel_rfl) (by kernel_rfl) (fun _ _ _ h => h) (by rfl) trivial (v := ?_) (fun w hSw => ?_) (fun _ => ?_)
              rotate_left
              · (go_simp; (try with_reducible rfl))
              simp only [Act.put, List.setIfInBounds_toArray, List.set_cons_zero, List.set_cons_succ]
              refine held_take 2 rfl (by kernel_rfl) (by kernel_rfl) (by kernel_rfl) (fun _ _ _ h => h) (by rfl) trivial (v := ?_) (fun w hSw => ?_) (fun _ => ?_)
              rotate_left
              · (go_simp; (try with_reducible rfl))
              simp only [Act.put, List.setIfInBounds_toArray, List.set_cons_zero, List.set_cons_succ]
              refine held_take 3 rfl (by kernel_rfl) (by kernel_rfl) (by kernel_rfl) (fun _ _ _ h => h) (by rfl) trivial (v := ?_) (fun w hSw => ?_) (fun _ => ?_)
              rotate_left
              · (go_simp; (try with_reducible rfl))
              simp only [Act.put, List.setIfInBounds_toArray, List.set_cons_zero, List.set_cons_succ]
              refine held_take 4 rfl (by kernel_rfl) (by kernel_rfl) (by kernel_rfl) (fun _ _ _ h => h) (by rfl) trivial (v := ?_) (fun w hSw => ?_) (fun _ => ?_)
              rotate_left
              · (go_simp; (try with_reducible rfl))
              simp only [Act.put, List.setIfInBounds_toArray, List.set_cons_zero, List.set_cons_succ]
              refine held_take 6 rfl (by kernel_rfl) (by kernel_rfl) (by kernel_rfl) (fun _ _ _ h => h) (by rfl) trivial (v := ?_) (fun w hSw => ?_) (fun _ => ?_)
              rotate_left
              · (go_simp; (try with_reducible rfl))
              simp only [Act.put, List.setIfInBounds_toArray, List.set_cons_zero, List.set_cons_succ]
              refine held_take 7 rfl (by kernel_rfl) (by kernel_rfl) (by kernel_rfl) (fun _ _ _ h => h) (by rfl) trivial (v := ?_) (fun w hSw => ?_) (fun _ => ?_)
              rotate_left
              · (go_simp; (try with_reducible rfl))
              simp only [Act.put, List.setIfInBounds_toArray, List.set_cons_zero, List.set_cons_succ]
              refine held_two 5 8 (by kernel_rfl) rfl rfl (by rfl) (by rfl) (fun K hK => ?_) (fun K hK => ?_)
              · go_simp
                refine hK.out _ _ trivial (fun _ => ?_)
                clear hK K
                refine held_call 8 (by kernel_rfl) rfl (by rfl) (fun K hK => ?_)
                go_simp
                refine CC.out.mono ?_
                rintro e w5 ⟨A5, c5, rfl, hcl⟩
                have HCL := Lib.hid hcl
                have S5 := hcl.cell
                have S5a := hcl.cell2
                clear hcl
                dsimp only
                refine hK.out _ _ trivial (fun _ => ?_)
                clear hK K
                refine held_take 9 rfl (by kernel_rfl) (by kernel_rfl) (by kernel_rfl) (fun _ _ _ h => h) (by rfl) trivial (v := ?_) (fun w hSw => ?_) (fun _ => ?_)
                rotate_left
                · (go_simp; (try with_reducible rfl))
                simp only [Act.put, List.setIfInBounds_toArray, List.set_cons_zero, List.set_cons_succ]
                refine held_call 10 (by kernel_rfl) rfl (by rfl) (fun K hK => ?_)
                go_simp
                refine hK.out _ _ trivial (fun _ => ?_)
                clear hK K
                obtain ⟨pa', pc', w6, hrun, hR6, hB6, hc6, hf6⟩ := HCL.out.out
                have HRUN := Lib.hid hrun
                have HR6 := Lib.hid hR6
                have HB6 := Lib.hid hB6
                clear hrun hR6 hB6
                refine held_call 11 (by kernel_rfl) rfl (by rfl) (fun K hK => ?_)
                refine wp_append_run (.tmp 89) (.tmp 94) _ rfl _ _ rfl rfl HRUN.out ?_
                simp only [Act.put, List.setIfInBounds_toArray, List.set_cons_zero, List.set_cons_succ]
                refine hK.out _ _ trivial (fun _ => ?_)
                clear hK K
                refine held_take 12 rfl (by kernel_rfl) (by kernel_rfl) (by kernel_rfl) (fun _ _ _ h => h) (by rfl) trivial (v := ?_) (fun w hSw => ?_) (fun _ => ?_)
                rotate_left
                · (go_simp; (try with_reducible rfl))
                simp only [Act.put, List.setIfInBounds_toArray, List.set_cons_zero, List.set_cons_succ]
                refine held_take 13 rfl (by kernel_rfl) (by kernel_rfl) (by kernel_rfl) (fun _ _ _ h => h) (by rfl) trivial (v := ?_) (fun w hSw => ?_) (fun _ => ?_)
                rotate_left
                · (go_simp; (try with_reducible rfl))
                simp only [Act.put, List.setIfInBounds_toArray, List.set_cons_zero, List.set_cons_succ]
                refine held_take 14 rfl (by kernel_rfl) (by kernel_rfl) (by kernel_rfl) (fun _ _ _ h => h) (by rfl) trivial (v := ?_) (fun w hSw => ?_) (fun _ => ?_)
                rotate_left
                · (go_simp; (try with_reducible rfl))
                simp only [Act.put, List.setIfInBounds_toArray, List.set_cons_zero, List.set_cons_succ]
                refine held_call 15 (by kernel_rfl) rfl (by rfl) (fun K hK => ?_)
                go_simp
                refine hK.out _ _ trivial (fun _ => ?_)
                clear hK K
                refine wpAnyH_done (by kernel_rfl) ?_ _
                go_wp2
                go_ret
                have hrr : r = .ok ⟨a, { f.pure with props := f.pure.props ++ [(nm, vs)] }, (fs.map Fr.pure).reverse⟩ := HR2.out.symm
                rw [hrr]
                refine ⟨rfl, HB6.out, fun st' h => ?_⟩
                have hst := Except.ok.inj h
                subst hst
                obtain ⟨L6, hL6⟩ := HR6.out
                have := RSt.mk hL6 ⟨by simp [HT.out.1], HT.out.2⟩
                simpa [Fr.pure, PV.pure] using this
              · go_simp
                refine CC.out.mono ?_
                rintro e w5 ⟨A5, c5, rfl, hcl⟩
                have HCL := Lib.hid hcl
                have S5 := hcl.cell
                have S5a := hcl.cell2
                clear hcl
                dsimp only
                refine hK.out _ _ trivial (fun _ => ?_)
                clear hK K
                refine held_take 9 rfl (by kernel_rfl) (by kernel_rfl) (by kernel_rfl) (fun _ _ _ h => h) (by rfl) trivial (v := ?_) (fun w hSw => ?_) (fun _ => ?_)
                rotate_left
                · (go_simp; (try with_reducible rfl))
                simp only [Act.put, List.setIfInBounds_toArray, List.set_cons_zero, List.set_cons_succ]
                refine held_two 5 10 (by kernel_rfl) rfl rfl (by rfl) (by rfl) (fun K hK => ?_) (fun K hK => ?_)
                · go_simp
                  refine hK.out _ _ trivial (fun _ => ?_)
                  clear hK K
                  refine held_call 10 (by kernel_rfl) rfl (by rfl) (fun K hK => ?_)
                  go_simp
                  refine hK.out _ _ trivial (fun _ => ?_)
                  clear hK K
                  obtain ⟨pa', pc', w6, hrun, hR6, hB6, hc6, hf6⟩ := HCL.out.out
                  have HRUN := Lib.hid hrun
                  have HR6 := Lib.hid hR6
                  have HB6 := Lib.hid hB6
                  clear hrun hR6 hB6
                  refine held_call 11 (by kernel_rfl) rfl (by rfl) (fun K hK => ?_)
                  refine wp_append_run (.tmp 89) (.tmp 94) _ rfl _ _ rfl rfl HRUN.out ?_
                  simp only [Act.put, List.setIfInBounds_toArray, List.set_cons_zero, List.set_cons_succ]
                  refine hK.out _ _ trivial (fun _ => ?_)
                  clear hK K
                  refine held_take 12 rfl (by kernel_rfl) (by kernel_rfl) (by kernel_rfl) (fun _ _ _ h => h) (by rfl) trivial (v := ?_) (fun w hSw => ?_) (fun _ => ?_)
                  rotate_left
                  · (go_simp; (try with_reducible rfl))
                  simp only [Act.put, List.setIfInBounds_toArray, List.set_cons_zero, List.set_cons_succ]
                  refine held_take 13 rfl (by kernel_rfl) (by kernel_rfl) (by kernel_rfl) (fun _ _ _ h => h) (by rfl) trivial (v := ?_) (fun w hSw => ?_) (fun _ => ?_)
                  rotate_left
                  · (go_simp; (try with_reducible rfl))
                  simp only [Act.put, List.setIfInBounds_toArray, List.set_cons_zero, List.set_cons_succ]
                  refine held_take 14 rfl (by kernel_rfl) (by kernel_rfl) (by kernel_rfl) (fun _ _ _ h => h) (by rfl) trivial (v := ?_) (fun w hSw => ?_) (fun _ => ?_)
                  rotate_left
                  · (go_simp; (try with_reducible rfl))
                  simp only [Act.put, List.setIfInBounds_toArray, List.set_cons_zero, List.set_cons_succ]
                  refine held_call 15 (by kernel_rfl) rfl (by rfl) (fun K hK => ?_)
                  go_simp
                  refine hK.out _ _ trivial (fun _ => ?_)
                  clear hK K
                  refine wpAnyH_done (by kernel_rfl) ?_ _
                  go_wp2
                  go_ret
                  have hrr : r = .ok ⟨a, { f.pure with props := f.pure.props ++ [(nm, vs)] }, (fs.map Fr.pure).reverse⟩ := HR2.out.symm
                  rw [hrr]
                  refine ⟨rfl, HB6.out, fun st' h => ?_⟩
                  have hst := Except.ok.inj h
                  subst hst
                  obtain ⟨L6, hL6⟩ := HR6.out
                  have := RSt.mk hL6 ⟨by simp [HT.out.1], HT.out.2⟩
                  simpa [Fr.pure, PV.pure] using this
                · go_simp
                  refine hK.out _ _ trivial (fun _ => ?_)
                  clear hK K
                  refine held_call 5 (by kernel_rfl) rfl (by rfl) (fun K hK => ?_)
                  go_simp
                  refine hK.out _ _ trivial (fun _ => ?_)
                  clear hK K
                  obtain ⟨pa', pc', w6, hrun, hR6, hB6, hc6, hf6⟩ := HCL.out.out
                  have HRUN := Lib.hid hrun
                  have HR6 := Lib.hid hR6
                  have HB6 := Lib.hid hB6
                  clear hrun hR6 hB6
                  refine held_call 11 (by kernel_rfl) rfl (by rfl) (fun K hK => ?_)
                  refine wp_append_run (.tmp 89) (.tmp 94) _ rfl _ _ rfl rfl HRUN.out ?_
                  simp only [Act.put, List.setIfInBounds_toArray, List.set_cons_zero, List.set_cons_succ]
                  refine hK.out _ _ trivial (fun _ => ?_)
                  clear hK K
                  refine held_take 12 rfl (by kernel_rfl) (by kernel_rfl) (by kernel_rfl) (fun _ _ _ h => h) (by rfl) trivial (v := ?_) (fun w hSw => ?_) (fun _ => ?_)
                  rotate_left
                  · (go_simp; (try with_reducible rfl))
                  simp only [Act.put, List.setIfInBounds_toArray, List.set_cons_zero, List.set_cons_succ]
                  refine held_take 13 rfl (by kernel_rfl) (by kernel_rfl) (by kernel_rfl) (fun _ _ _ h => h) (by rfl) trivial (v := ?_) (fun w hSw => ?_) (fun _ => ?_)
                  rotate_left
                  · (go_simp; (try with_reducible rfl))
                  simp only [Act.put, List.setIfInBounds_toArray, List.set_cons_zero, List.set_cons_succ]
                  refine held_take 14 rfl (by kernel_rfl) (by kernel_rfl) (by kernel_rfl) (fun _ _ _ h => h) (by rfl) trivial (v := ?_) (fun w hSw => ?_) (fun _ => ?_)
                  rotate_left
                  · (go_simp; (try with_reducible rfl))
                  simp only [Act.put, List.setIfInBounds_toArray, List.set_cons_zero, List.set_cons_succ]
                  refine held_call 15 (by kernel_rfl) rfl (by rfl) (fun K hK => ?_)
                  go_simp
                  refine hK.out _ _ trivial (fun _ => ?_)
                  clear hK K
                  refine wpAnyH_done (by kernel_rfl) ?_ _
                  go_wp2
                  go_ret
                  have hrr : r = .ok ⟨a, { f.pure with props := f.pure.props ++ [(nm, vs)] }, (fs.map Fr.pure).reverse⟩ := HR2.out.symm
                  rw [hrr]
                  refine ⟨rfl, HB6.out, fun st' h => ?_⟩
                  have hst := Except.ok.inj h
                  subst hst
                  obtain ⟨L6, hL6⟩ := HR6.out
                  have := RSt.mk hL6 ⟨by simp [HT.out.1], HT.out.2⟩
                  simpa [Fr.pure, PV.pure] using this
  · have hr4 : r = .error 4 := by rw [← hr]; exact propF_short (by show ¬ pos + 12 ≤ S.length; omega)
    subst hr4
    obtain ⟨x1, hx1⟩ : ∃ x1, (if pos + 4 + 4 ≤ n then numTo S (pos + 4) 4 else 0) = x1 := ⟨_, rfl⟩
    obtain ⟨b1, hb1⟩ : ∃ b1, decide (pos + 4 + 4 ≤ n) = b1 := ⟨_, rfl⟩
    have G1 := Lib.hid (fun (m : Nat) (q : Int) (hq : q = ((pos + 4 : Nat) : Int)) => get_ite A n c (pos + 4) q hq S (w.drewN m) B (hs.drewN m) hn hnc hcm (by omega) x1 b1 hb1 hx1)
    have G2 := Lib.hid (fun (m : Nat) (q : Int) (hq : q = ((pos + 8 : Nat) : Int)) => get_ite A n c (pos + 8) q hq S (w.drewN m) B (hs.drewN m) hn hnc hcm (by omega) 0 false (by simp; omega) (by rw [if_neg (by omega)]))
    clear hr h hs hs2 ht hx1 hb1
    go_enter Try.func61, Try.ntmps61
    go_wp2
    go_quiet (first | (go_at_call 21; refine quiet_eq (G1.out _ _ (by omega))) | fail)
    go_wp2
    go_quiet (first | (go_at_call 21; refine quiet_eq2 (G2.out _ _ (by omega))) | fail)
    go_wp2
    go_ret
    exact ⟨rfl, drew_below _ _ _, fun st' h => by cases h⟩
end Go.Proofs.Ytnopcnbeklbfoaa

/-! Layer 4: the innermost node is put below the one in which it stands. -/
namespace Go.Proofs.Ytnopcnbeklbfoaa
open Go.RowKit Go.Maps Go.WideMaps
set_option linter.unusedVariables false
set_option linter.unusedSimpArgs false

section
variable {P : Program} {ops : Array Oper} {l : List Oper} {Q : Exit → Act → World → Prop} {S : World → Prop}
/-- Three operations may come now. -/
theorem held_three (i j k : Nat) {oi oj ok : Oper} {fuel : Nat} {listed : Array Bool} {a : Act} {w : World} (hr : Region.ready .any l.toArray listed = [i, j, k]) (hi : l[i]? = some oi) (hj : l[j]? = some oj) (hk : l[k]? = some ok) (hwi : Region.wanted oi (yielded l.toArray a.tmps) = true) (hwj : Region.wanted oj (yielded l.toArray a.tmps) = true) (hwk : Region.wanted ok (yielded l.toArray a.tmps) = true)
    (h1 : ∀ K : Act → World → Prop, Shut (∀ a w, S w → (S w → wpAnyH P .any l.toArray Q S fuel (listed.setIfInBounds i true) a w) → K a w) → Oper.wp P oi a w K Q)
    (h2 : ∀ K : Act → World → Prop, Shut (∀ a w, S w → (S w → wpAnyH P .any l.toArray Q S fuel (listed.setIfInBounds j true) a w) → K a w) → Oper.wp P oj a w K Q)
    (h3 : ∀ K : Act → World → Prop, Shut (∀ a w, S w → (S w → wpAnyH P .any l.toArray Q S fuel (listed.setIfInBounds k true) a w) → K a w) → Oper.wp P ok a w K Q) : wpAnyH P .any l.toArray Q S (fuel + 1) listed a w :=
  wpAnyH_ready hr (by simp) (AllReadyH.cons (by simpa using hi) (fun K hK => by rw [if_pos hwi]; exact h1 K hK) (AllReadyH.cons (by simpa using hj) (fun K hK => by rw [if_pos hwj]; exact h2 K hK) (AllReadyH.cons (by simpa using hk) (fun K hK => by rw [if_pos hwk]; exact h3 K hK) AllReadyH.nil)))
end

theorem alloc_set_new (w : World) (a : Addr) (v : Value) (cs : Array Value) (t : TypeId) (j : Nat) : ((w.setCell a v).alloc (.cells cs t)).cell? ⟨w.heap.size, j, none⟩ = cs[j]? := by
  have e : (w.setCell a v).heap.size = w.heap.size := by simp
  rw [← e]
  exact World.cell?_alloc_new _ _ _ _
theorem setCell_swap (w : World) (a b : Addr) (u v : Value) (h : a.block ≠ b.block) : (w.setCell a u).setCell b v = (w.setCell b v).setCell a u := by
  simp only [World.setCell]
  congr 1
  apply Array.ext_getElem?
  intro i
  simp only [Array.getElem?_modify]
  by_cases h1 : b.block = i
  · by_cases h2 : a.block = i
    · exact absurd (h2.trans h1.symm) h
    · simp [h1, h2]
  · simp [h1]

set_option maxRecDepth 20000 in
set_option maxHeartbeats 4000000 in
theorem leave_any {w : World} {B R pos g oc : Nat} {Sv Tv : Value} {fs : List Fr} {f0 f : Fr} {L : Nat → Nat} (h : Rdr w B R Sv Tv pos (.slice (some ⟨g, 0, none⟩) ((fs ++ [f0]).length + 1) oc) ((fs ++ [f0]) ++ [f]) L)
    (hoc : fs.length + 2 ≤ oc) (hocm : oc ≤ 9223372036854775807) (hfs : fs.length ≤ 1000) (hp : f.props.length ≤ 1048576) (hk : f.kids.length ≤ 1048576) (hk0 : f0.kids.length ≤ 1048576) :
    Calls Try.prog 62 #[.pointer (some ⟨R, 0, none⟩)] w fun e w' => e = .returned (.tuple #[]) ∧ Below B w w' ∧
      ∃ ka kc L', Rdr w' B R Sv Tv pos (.slice (some ⟨g, 0, none⟩) (fs.length + 1) oc) (fs ++ [{ f0 with ka := ka, kc := kc, kids := f0.kids ++ [f.node] }]) L' := by
  have e1 : (fs ++ [f0]).length = fs.length + 1 := by simp
  have C := Lib.hid (innermost_any h (by omega) (by omega) hocm)
  obtain ⟨_, _, _, c3⟩ := h.cells
  obtain ⟨t0, t1, t2, _, _⟩ := h.top
  have hlt := h.row.lt g rfl
  rw [e1] at c3 t0 t1 t2 C
  replace t1 : _ = some (Value.slice f.pa f.props.length f.pc) := t1
  replace t2 : _ = some (Value.slice f.ka f.kids.length f.kc) := t2
  have HR := Lib.hid h
  have f3 := h.free 3
  have hRl := h.rlt.2
  clear h
  go_enter Try.func62, Try.ntmps62
  go_wp2_with fail
  refine C.out.mono ?_
  rintro e w1 ⟨rfl, q, hq⟩
  have HR1 := Lib.hid (show Rdr w1 B R Sv Tv pos (.slice (some ⟨g, 0, none⟩) ((fs ++ [f0]).length + 1) oc) ((fs ++ [f0]) ++ [f]) L by rw [hq]; exact HR.out.under (draws_under _ _))
  have HB1 := Lib.hid (show Below B w w1 by rw [hq]; exact drew_below _ _ _)
  clear c3 t0 t1 t2 f3 hlt hRl
  obtain ⟨_, _, _, c3⟩ := HR1.out.cells
  obtain ⟨t0, t1, t2, _, _⟩ := HR1.out.top
  rw [e1] at c3 t0 t1 t2
  replace t1 : _ = some (Value.slice f.pa f.props.length f.pc) := t1
  replace t2 : _ = some (Value.slice f.ka f.kids.length f.kc) := t2
  have f3 := HR1.out.free 3
  have hz1 := (HR1.out.row.lt g rfl).2
  have hz2 := HR1.out.rlt.2
  clear hq C HR
  go_wp2_with fail
  go_region
  obtain ⟨L2, hR2, hn2, ha2, hg2⟩ := HR1.out.drop hp hk
  rw [e1] at hR2 hn2 ha2 hg2
  have hbase := hR2.base
  have HW := Lib.hid (fun (w5 : World) (hb : Below (w1.setCell ⟨R, 3, none⟩ (.slice (some ⟨g, 0, none⟩) (fs.length + 1) oc)).heap.size (w1.setCell ⟨R, 3, none⟩ (.slice (some ⟨g, 0, none⟩) (fs.length + 1) oc)) w5) => (⟨hR2.under hb, hn2.on hb, (ha2.mono (done_of hb.size (fun _ _ h => h)) : f.node.At (Done B w5 L2)), (HB1.out.grown hg2 HR1.out.base (fun k e => by rw [← Option.some.inj e]; exact HR1.out.rlt.1)).trans (hb.mono hbase)⟩ : Rdr w5 B R Sv Tv pos (.slice (some ⟨g, 0, none⟩) (fs.length + 1) oc) (fs ++ [f0]) L2 ∧ f.node.In w5 w5.heap.size ∧ f.node.At (Done B w5 L2) ∧ Below B w w5))
  have hkb0 : ∀ X, f0.kv.ownBlock = some X → X < w1.heap.size := fun X e => by have := ((ok_top hR2.ok).krow.lt X e).2; simpa using this
  have HB4 : Below (w1.setCell ⟨R, 3, none⟩ (.slice (some ⟨g, 0, none⟩) (fs.length + 1) oc)).heap.size (w1.setCell ⟨R, 3, none⟩ (.slice (some ⟨g, 0, none⟩) (fs.length + 1) oc)) ((w1.setCell ⟨R, 3, none⟩ (.slice (some ⟨g, 0, none⟩) (fs.length + 1) oc)).alloc (.cells #[.string f.name, .slice f.pa f.props.length f.pc, .slice f.ka f.kids.length f.kc] 38)).drew := ((Below.refl _ _).alloc (Nat.le_refl _) _).drew
  have hR4 := (HW.out _ HB4).1
  have C2 := Lib.hid (innermost_any hR4 (by omega) (by omega) hocm)
  have HB4' := Lib.hid HB4
  clear hR2 hn2 ha2 hg2 hR4 HB4
  go_wp2_with fail
  refine C2.out.mono ?_
  rintro e w5 ⟨rfl, q5, hq5⟩
  have HB5 : Hid (Below (w1.setCell ⟨R, 3, none⟩ (.slice (some ⟨g, 0, none⟩) (fs.length + 1) oc)).heap.size (w1.setCell ⟨R, 3, none⟩ (.slice (some ⟨g, 0, none⟩) (fs.length + 1) oc)) w5) := by rw [hq5]; exact Lib.hid (HB4'.out.trans (drew_below _ _ q5))
  have d0 : w5.cell? ⟨w1.heap.size, 0, none⟩ = some (.string f.name) := by rw [hq5]; exact alloc_set_new _ _ _ _ _ _
  have d1 : w5.cell? ⟨w1.heap.size, 1, none⟩ = some (.slice f.pa f.props.length f.pc) := by rw [hq5]; exact alloc_set_new _ _ _ _ _ _
  have d2 : w5.cell? ⟨w1.heap.size, 2, none⟩ = some (.slice f.ka f.kids.length f.kc) := by rw [hq5]; exact alloc_set_new _ _ _ _ _ _
  have hw5 : w1.heap.size < w5.heap.size := by rw [hq5]; simp
  clear C2 hq5 HB4'
  obtain ⟨hR5, hn5, ha5, hb5⟩ := HW.out w5.drew HB5.out.drew
  have k2 := hR5.top.2.2.1
  obtain ⟨kb, kc', w6, hrun, hR6, hB6, hc6, hf6, hk6, hne, hkc1, hkc2, hkl, hg6, hkn⟩ := hR5.addKid f.node hn5 ha5 hk0 36
  replace k2 : w5.cell? ⟨g, fs.length * 5 + 2, none⟩ = some (Value.slice f0.ka f0.kids.length f0.kc) := k2
  have k2a : ∀ o, (w5.alloc o).cell? ⟨g, fs.length * 5 + 2, none⟩ = some (Value.slice f0.ka f0.kids.length f0.kc) := fun o => Lib.cell?_alloc_some o k2
  have d0a : ∀ o, (w5.alloc o).cell? ⟨w1.heap.size, 0, none⟩ = some (.string f.name) := fun o => Lib.cell?_alloc_some o d0
  have d1a : ∀ o, (w5.alloc o).cell? ⟨w1.heap.size, 1, none⟩ = some (.slice f.pa f.props.length f.pc) := fun o => Lib.cell?_alloc_some o d1
  have d2a : ∀ o, (w5.alloc o).cell? ⟨w1.heap.size, 2, none⟩ = some (.slice f.ka f.kids.length f.kc) := fun o => Lib.cell?_alloc_some o d2
  obtain ⟨m, hm⟩ : ∃ m, f0.kids.length = m := ⟨_, rfl⟩
  have hrun' : (Builtin.append_ #[36, 36] 36 #[.slice f0.ka f0.kids.length f0.kc, .slice (some ⟨w5.heap.size, 0, none⟩) 1 1]).run Try.prog (w5.drew.alloc (.cells #[.string ⟨#[]⟩, .slice none 0 0, .slice none 0 0] 38)) = .ok (.slice (some ⟨kb, 0, none⟩) (f0.kids.length + 1) kc') w6 := hrun
  clear hrun
  rw [hm] at hrun' hR6 hB6 hk6 hkc1 k2 k2a hk0
  have hmi : (m : Int) < (m : Int) + 1 := by omega
  obtain ⟨⟨x0, q0⟩, f0'⟩ := hk6 0 (by omega)
  obtain ⟨⟨x1, q1⟩, f1'⟩ := hk6 1 (by omega)
  obtain ⟨⟨x2, q2⟩, f2'⟩ := hk6 2 (by omega)
  rw [Nat.add_zero] at q0 f0'
  have HRUN := Lib.hid hrun'
  have HR6 := Lib.hid hR6
  have HB6 := Lib.hid (hb5.trans hB6)
  have HWS : Hid (∀ u, (((w6.setCell ⟨g, fs.length * 5 + 2, none⟩ u).setCell ⟨kb, m * 3, none⟩ (.string f.name)).setCell ⟨kb, m * 3 + 1, none⟩ (.slice f.pa f.props.length f.pc)).setCell ⟨kb, m * 3 + 2, none⟩ (.slice f.ka f.kids.length f.kc) = (((w6.setCell ⟨kb, m * 3, none⟩ (.string f.name)).setCell ⟨kb, m * 3 + 1, none⟩ (.slice f.pa f.props.length f.pc)).setCell ⟨kb, m * 3 + 2, none⟩ (.slice f.ka f.kids.length f.kc)).setCell ⟨g, fs.length * 5 + 2, none⟩ u) := Lib.hid (fun u => by
    rw [setCell_swap w6 _ ⟨kb, m * 3, none⟩ _ _ (fun e => hne e.symm), setCell_swap _ _ ⟨kb, m * 3 + 1, none⟩ _ _ (fun e => hne e.symm), setCell_swap _ _ ⟨kb, m * 3 + 2, none⟩ _ _ (fun e => hne e.symm)])
  clear hR5 hn5 ha5 hb5 hrun' hR6 hB6 hk6 hg6 hkn HW HB5 t0 t1 t2 c3
  have z0 : ∀ u, (w6.setCell ⟨g, fs.length * 5 + 2, none⟩ u).cell? ⟨kb, m * 3, none⟩ = some x0 := fun u => (World.cell?_setCell_other _ _ _ _ (fun e => hne (congrArg Addr.block e).symm)).trans q0
  have z1 : ∀ u, (w6.setCell ⟨g, fs.length * 5 + 2, none⟩ u).cell? ⟨kb, m * 3 + 1, none⟩ = some x1 := fun u => (World.cell?_setCell_other _ _ _ _ (fun e => hne (congrArg Addr.block e).symm)).trans q1
  have z2 : ∀ u, (w6.setCell ⟨g, fs.length * 5 + 2, none⟩ u).cell? ⟨kb, m * 3 + 2, none⟩ = some x2 := fun u => (World.cell?_setCell_other _ _ _ _ (fun e => hne (congrArg Addr.block e).symm)).trans q2
  go_wp2_with fail
  refine wp_region_held_drew (S := fun _ => True) (by kernel_rfl) trivial (fun _ => ?_)
  refine held_take 0 rfl (by kernel_rfl) (by kernel_rfl) (by kernel_rfl) (fun _ _ _ h => h) (by rfl) trivial (v := ?_) (fun w hSw => ?_) (fun _ => ?_)
  rotate_left
  · (go_simp; (try with_reducible rfl))
  simp only [Act.put, List.setIfInBounds_toArray, List.set_cons_zero, List.set_cons_succ]
  refine held_take 1 rfl (by kernel_rfl) (by kernel_rfl) (by kernel_rfl) (fun _ _ _ h => h) (by rfl) trivial (v := ?_) (fun w hSw => ?_) (fun _ => ?_)
  rotate_left
  · (go_simp; (try with_reducible rfl))
  simp only [Act.put, List.setIfInBounds_toArray, List.set_cons_zero, List.set_cons_succ]
  refine held_take 2 rfl (by kernel_rfl) (by kernel_rfl) (by kernel_rfl) (fun _ _ _ h => h) (by rfl) trivial (v := ?_) (fun w hSw => ?_) (fun _ => ?_)
  rotate_left
  · (go_simp; (try with_reducible rfl))
  simp only [Act.put, List.setIfInBounds_toArray, List.set_cons_zero, List.set_cons_succ]
  refine held_take 3 rfl (by kernel_rfl) (by kernel_rfl) (by kernel_rfl) (fun _ _ _ h => h) (by rfl) trivial (v := ?_) (fun w hSw => ?_) (fun _ => ?_)
  rotate_left
  · (go_simp; (try with_reducible rfl))
  simp only [Act.put, List.setIfInBounds_toArray, List.set_cons_zero, List.set_cons_succ]
  refine held_three 4 5 7 (by kernel_rfl) rfl rfl rfl (by rfl) (by rfl) (by rfl) (fun K hK => ?_) (fun K hK => ?_) (fun K hK => ?_)
  · go_simp
    refine hK.out _ _ trivial (fun _ => ?_)
    clear hK K
    refine held_take 6 rfl (by kernel_rfl) (by kernel_rfl) (by kernel_rfl) (fun _ _ _ h => h) (by rfl) trivial (v := ?_) (fun w hSw => ?_) (fun _ => ?_)
    rotate_left
    · (go_simp; (try with_reducible rfl))
    simp only [Act.put, List.setIfInBounds_toArray, List.set_cons_zero, List.set_cons_succ]
    refine held_two 5 7 (by kernel_rfl) rfl rfl (by rfl) (by rfl) (fun K hK => ?_) (fun K hK => ?_)
    · go_simp
      refine hK.out _ _ trivial (fun _ => ?_)
      clear hK K
      refine held_call 7 (by kernel_rfl) rfl (by rfl) (fun K hK => ?_)
      go_simp
      refine hK.out _ _ trivial (fun _ => ?_)
      clear hK K
      refine held_call 8 (by kernel_rfl) rfl (by rfl) (fun K hK => ?_)
      refine wp_append_run (.tmp 29) (.tmp 32) _ rfl _ _ rfl rfl HRUN.out ?_
      simp only [Act.put, List.setIfInBounds_toArray, List.set_cons_zero, List.set_cons_succ]
      refine hK.out _ _ trivial (fun _ => ?_)
      clear hK K
      refine held_take 9 rfl (by kernel_rfl) (by kernel_rfl) (by kernel_rfl) (fun _ _ _ h => h) (by rfl) trivial (v := ?_) (fun w hSw => ?_) (fun _ => ?_)
      rotate_left
      · (go_simp; (try with_reducible rfl))
      simp only [Act.put, List.setIfInBounds_toArray, List.set_cons_zero, List.set_cons_succ]
      refine held_take 11 rfl (by kernel_rfl) (by kernel_rfl) (by kernel_rfl) (fun _ _ _ h => h) (by rfl) trivial (v := ?_) (fun w hSw => ?_) (fun _ => ?_)
      rotate_left
      · (go_simp; (try with_reducible rfl))
      simp only [Act.put, List.setIfInBounds_toArray, List.set_cons_zero, List.set_cons_succ]
      refine held_take 12 rfl (by kernel_rfl) (by kernel_rfl) (by kernel_rfl) (fun _ _ _ h => h) (by rfl) trivial (v := ?_) (fun w hSw => ?_) (fun _ => ?_)
      rotate_left
      · (go_simp; (try with_reducible rfl))
      simp only [Act.put, List.setIfInBounds_toArray, List.set_cons_zero, List.set_cons_succ]
      refine held_take 13 rfl (by kernel_rfl) (by kernel_rfl) (by kernel_rfl) (fun _ _ _ h => h) (by rfl) trivial (v := ?_) (fun w hSw => ?_) (fun _ => ?_)
      rotate_left
      · (go_simp; (try with_reducible rfl))
      simp only [Act.put, List.setIfInBounds_toArray, List.set_cons_zero, List.set_cons_succ]
      refine held_two 10 14 (by kernel_rfl) rfl rfl (by rfl) (by rfl) (fun K hK => ?_) (fun K hK => ?_)
      · go_simp
        refine hK.out _ _ trivial (fun _ => ?_)
        clear hK K
        refine held_call 14 (by kernel_rfl) rfl (by rfl) (fun K hK => ?_)
        go_simp
        refine hK.out _ _ trivial (fun _ => ?_)
        clear hK K
        refine wpAnyH_done (by kernel_rfl) ?_ _
        go_wp2
        go_end0
        obtain ⟨L6, hL6⟩ := HR6.out
        exact ⟨rfl, HB6.out, _, _, _, hL6⟩
      · go_simp
        refine hK.out _ _ trivial (fun _ => ?_)
        clear hK K
        refine held_call 10 (by kernel_rfl) rfl (by rfl) (fun K hK => ?_)
        go_simp
        refine hK.out _ _ trivial (fun _ => ?_)
        clear hK K
        refine wpAnyH_done (by kernel_rfl) ?_ _
        go_wp2
        go_end0
        obtain ⟨L6, hL6⟩ := HR6.out
        rw [HWS.out]
        exact ⟨rfl, HB6.out, _, _, _, hL6⟩
    · go_simp
      refine hK.out _ _ trivial (fun _ => ?_)
      clear hK K
      refine held_call 5 (by kernel_rfl) rfl (by rfl) (fun K hK => ?_)
      go_simp
      refine hK.out _ _ trivial (fun _ => ?_)
      clear hK K
      refine held_call 8 (by kernel_rfl) rfl (by rfl) (fun K hK => ?_)
      refine wp_append_run (.tmp 29) (.tmp 32) _ rfl _ _ rfl rfl HRUN.out ?_
      simp only [Act.put, List.setIfInBounds_toArray, List.set_cons_zero, List.set_cons_succ]
      refine hK.out _ _ trivial (fun _ => ?_)
      clear hK K
      refine held_take 9 rfl (by kernel_rfl) (by kernel_rfl) (by kernel_rfl) (fun _ _ _ h => h) (by rfl) trivial (v := ?_) (fun w hSw => ?_) (fun _ => ?_)
      rotate_left
      · (go_simp; (try with_reducible rfl))
      simp only [Act.put, List.setIfInBounds_toArray, List.set_cons_zero, List.set_cons_succ]
      refine held_take 11 rfl (by kernel_rfl) (by kernel_rfl) (by kernel_rfl) (fun _ _ _ h => h) (by rfl) trivial (v := ?_) (fun w hSw => ?_) (fun _ => ?_)
      rotate_left
      · (go_simp; (try with_reducible rfl))
      simp only [Act.put, List.setIfInBounds_toArray, List.set_cons_zero, List.set_cons_succ]
      refine held_take 12 rfl (by kernel_rfl) (by kernel_rfl) (by kernel_rfl) (fun _ _ _ h => h) (by rfl) trivial (v := ?_) (fun w hSw => ?_) (fun _ => ?_)
      rotate_left
      · (go_simp; (try with_reducible rfl))
      simp only [Act.put, List.setIfInBounds_toArray, List.set_cons_zero, List.set_cons_succ]
      refine held_take 13 rfl (by kernel_rfl) (by kernel_rfl) (by kernel_rfl) (fun _ _ _ h => h) (by rfl) trivial (v := ?_) (fun w hSw => ?_) (fun _ => ?_)
      rotate_left
      · (go_simp; (try with_reducible rfl))
      simp only [Act.put, List.setIfInBounds_toArray, List.set_cons_zero, List.set_cons_succ]
      refine held_two 10 14 (by kernel_rfl) rfl rfl (by rfl) (by rfl) (fun K hK => ?_) (fun K hK => ?_)
      · go_simp
        refine hK.out _ _ trivial (fun _ => ?_)
        clear hK K
        refine held_call 14 (by kernel_rfl) rfl (by rfl) (fun K hK => ?_)
        go_simp
        refine hK.out _ _ trivial (fun _ => ?_)
        clear hK K
        refine wpAnyH_done (by kernel_rfl) ?_ _
        go_wp2
        go_end0
        obtain ⟨L6, hL6⟩ := HR6.out
        exact ⟨rfl, HB6.out, _, _, _, hL6⟩
      · go_simp
        refine hK.out _ _ trivial (fun _ => ?_)
        clear hK K
        refine held_call 10 (by kernel_rfl) rfl (by rfl) (fun K hK => ?_)
        go_simp
        refine hK.out _ _ trivial (fun _ => ?_)
        clear hK K
        refine wpAnyH_done (by kernel_rfl) ?_ _
        go_wp2
        go_end0
        obtain ⟨L6, hL6⟩ := HR6.out
        rw [HWS.out]
        exact ⟨rfl, HB6.out, _, _, _, hL6⟩
  · go_simp
    refine hK.out _ _ trivial (fun _ => ?_)
    clear hK K
    refine held_two 4 7 (by kernel_rfl) rfl rfl (by rfl) (by rfl) (fun K hK => ?_) (fun K hK => ?_)
    · go_simp
      refine hK.out _ _ trivial (fun _ => ?_)
      clear hK K
      refine held_take 6 rfl (by kernel_rfl) (by kernel_rfl) (by kernel_rfl) (fun _ _ _ h => h) (by rfl) trivial (v := ?_) (fun w hSw => ?_) (fun _ => ?_)
      rotate_left
      · (go_simp; (try with_reducible rfl))
      simp only [Act.put, List.setIfInBounds_toArray, List.set_cons_zero, List.set_cons_succ]
      refine held_call 7 (by kernel_rfl) rfl (by rfl) (fun K hK => ?_)
      go_simp
      refine hK.out _ _ trivial (fun _ => ?_)
      clear hK K
      refine held_call 8 (by kernel_rfl) rfl (by rfl) (fun K hK => ?_)
      refine wp_append_run (.tmp 29) (.tmp 32) _ rfl _ _ rfl rfl HRUN.out ?_
      simp only [Act.put, List.setIfInBounds_toArray, List.set_cons_zero, List.set_cons_succ]
      refine hK.out _ _ trivial (fun _ => ?_)
      clear hK K
      refine held_take 9 rfl (by kernel_rfl) (by kernel_rfl) (by kernel_rfl) (fun _ _ _ h => h) (by rfl) trivial (v := ?_) (fun w hSw => ?_) (fun _ => ?_)
      rotate_left
      · (go_simp; (try with_reducible rfl))
      simp only [Act.put, List.setIfInBounds_toArray, List.set_cons_zero, List.set_cons_succ]
      refine held_take 11 rfl (by kernel_rfl) (by kernel_rfl) (by kernel_rfl) (fun _ _ _ h => h) (by rfl) trivial (v := ?_) (fun w hSw => ?_) (fun _ => ?_)
      rotate_left
      · (go_simp; (try with_reducible rfl))
      simp only [Act.put, List.setIfInBounds_toArray, List.set_cons_zero, List.set_cons_succ]
      refine held_take 12 rfl (by kernel_rfl) (by kernel_rfl) (by kernel_rfl) (fun _ _ _ h => h) (by rfl) trivial (v := ?_) (fun w hSw => ?_) (fun _ => ?_)
      rotate_left
      · (go_simp; (try with_reducible rfl))
      simp only [Act.put, List.setIfInBounds_toArray, List.set_cons_zero, List.set_cons_succ]
      refine held_take 13 rfl (by kernel_rfl) (by kernel_rfl) (by kernel_rfl) (fun _ _ _ h => h) (by rfl) trivial (v := ?_) (fun w hSw => ?_) (fun _ => ?_)
      rotate_left
      · (go_simp; (try with_reducible rfl))
      simp only [Act.put, List.setIfInBounds_toArray, List.set_cons_zero, List.set_cons_succ]
      refine held_two 10 14 (by kernel_rfl) rfl rfl (by rfl) (by rfl) (fun K hK => ?_) (fun K hK => ?_)
      · go_simp
        refine hK.out _ _ trivial (fun _ => ?_)
        clear hK K
        refine held_call 14 (by kernel_rfl) rfl (by rfl) (fun K hK => ?_)
        go_simp
        refine hK.out _ _ trivial (fun _ => ?_)
        clear hK K
        refine wpAnyH_done (by kernel_rfl) ?_ _
        go_wp2
        go_end0
        obtain ⟨L6, hL6⟩ := HR6.out
        exact ⟨rfl, HB6.out, _, _, _, hL6⟩
      · go_simp
        refine hK.out _ _ trivial (fun _ => ?_)
        clear hK K
        refine held_call 10 (by kernel_rfl) rfl (by rfl) (fun K hK => ?_)
        go_simp
        refine hK.out _ _ trivial (fun _ => ?_)
        clear hK K
        refine wpAnyH_done (by kernel_rfl) ?_ _
        go_wp2
        go_end0
        obtain ⟨L6, hL6⟩ := HR6.out
        rw [HWS.out]
        exact ⟨rfl, HB6.out, _, _, _, hL6⟩
    · go_simp
      refine hK.out _ _ trivial (fun _ => ?_)
      clear hK K
      refine held_call 4 (by kernel_rfl) rfl (by rfl) (fun K hK => ?_)
      go_simp
      refine hK.out _ _ trivial (fun _ => ?_)
      clear hK K
      refine held_take 6 rfl (by kernel_rfl) (by kernel_rfl) (by kernel_rfl) (fun _ _ _ h => h) (by rfl) trivial (v := ?_) (fun w hSw => ?_) (fun _ => ?_)
      rotate_left
      · (go_simp; (try with_reducible rfl))
      simp only [Act.put, List.setIfInBounds_toArray, List.set_cons_zero, List.set_cons_succ]
      refine held_call 8 (by kernel_rfl) rfl (by rfl) (fun K hK => ?_)
      refine wp_append_run (.tmp 29) (.tmp 32) _ rfl _ _ rfl rfl HRUN.out ?_
      simp only [Act.put, List.setIfInBounds_toArray, List.set_cons_zero, List.set_cons_succ]
      refine hK.out _ _ trivial (fun _ => ?_)
      clear hK K
      refine held_take 9 rfl (by kernel_rfl) (by kernel_rfl) (by kernel_rfl) (fun _ _ _ h => h) (by rfl) trivial (v := ?_) (fun w hSw => ?_) (fun _ => ?_)
      rotate_left
      · (go_simp; (try with_reducible rfl))
      simp only [Act.put, List.setIfInBounds_toArray, List.set_cons_zero, List.set_cons_succ]
      refine held_take 11 rfl (by kernel_rfl) (by kernel_rfl) (by kernel_rfl) (fun _ _ _ h => h) (by rfl) trivial (v := ?_) (fun w hSw => ?_) (fun _ => ?_)
      rotate_left
      · (go_simp; (try with_reducible rfl))
      simp only [Act.put, List.setIfInBounds_toArray, List.set_cons_zero, List.set_cons_succ]
      refine held_take 12 rfl (by kernel_rfl) (by kernel_rfl) (by kernel_rfl) (fun _ _ _ h => h) (by rfl) trivial (v := ?_) (fun w hSw => ?_) (fun _ => ?_)
      rotate_left
      · (go_simp; (try with_reducible rfl))
      simp only [Act.put, List.setIfInBounds_toArray, List.set_cons_zero, List.set_cons_succ]
      refine held_take 13 rfl (by kernel_rfl) (by kernel_rfl) (by kernel_rfl) (fun _ _ _ h => h) (by rfl) trivial (v := ?_) (fun w hSw => ?_) (fun _ => ?_)
      rotate_left
      · (go_simp; (try with_reducible rfl))
      simp only [Act.put, List.setIfInBounds_toArray, List.set_cons_zero, List.set_cons_succ]
      refine held_two 10 14 (by kernel_rfl) rfl rfl (by rfl) (by rfl) (fun K hK => ?_) (fun K hK => ?_)
      · go_simp
        refine hK.out _ _ trivial (fun _ => ?_)
        clear hK K
        refine held_call 14 (by kernel_rfl) rfl (by rfl) (fun K hK => ?_)
        go_simp
        refine hK.out _ _ trivial (fun _ => ?_)
        clear hK K
        refine wpAnyH_done (by kernel_rfl) ?_ _
        go_wp2
        go_end0
        obtain ⟨L6, hL6⟩ := HR6.out
        exact ⟨rfl, HB6.out, _, _, _, hL6⟩
      · go_simp
        refine hK.out _ _ trivial (fun _ => ?_)
        clear hK K
        refine held_call 10 (by kernel_rfl) rfl (by rfl) (fun K hK => ?_)
        go_simp
        refine hK.out _ _ trivial (fun _ => ?_)
        clear hK K
        refine wpAnyH_done (by kernel_rfl) ?_ _
        go_wp2
        go_end0
        obtain ⟨L6, hL6⟩ := HR6.out
        rw [HWS.out]
        exact ⟨rfl, HB6.out, _, _, _, hL6⟩
  · go_simp
    refine hK.out _ _ trivial (fun _ => ?_)
    clear hK K
    refine held_two 4 5 (by kernel_rfl) rfl rfl (by rfl) (by rfl) (fun K hK => ?_) (fun K hK => ?_)
    · go_simp
      refine hK.out _ _ trivial (fun _ => ?_)
      clear hK K
      refine held_take 6 rfl (by kernel_rfl) (by kernel_rfl) (by kernel_rfl) (fun _ _ _ h => h) (by rfl) trivial (v := ?_) (fun w hSw => ?_) (fun _ => ?_)
      rotate_left
      · (go_simp; (try with_reducible rfl))
      simp only [Act.put, List.setIfInBounds_toArray, List.set_cons_zero, List.set_cons_succ]
      refine held_call 5 (by kernel_rfl) rfl (by rfl) (fun K hK => ?_)
      go_simp
      refine hK.out _ _ trivial (fun _ => ?_)
      clear hK K
      refine held_call 8 (by kernel_rfl) rfl (by rfl) (fun K hK => ?_)
      refine wp_append_run (.tmp 29) (.tmp 32) _ rfl _ _ rfl rfl HRUN.out ?_
      simp only [Act.put, List.setIfInBounds_toArray, List.set_cons_zero, List.set_cons_succ]
      refine hK.out _ _ trivial (fun _ => ?_)
      clear hK K
      refine held_take 9 rfl (by kernel_rfl) (by kernel_rfl) (by kernel_rfl) (fun _ _ _ h => h) (by rfl) trivial (v := ?_) (fun w hSw => ?_) (fun _ => ?_)
      rotate_left
      · (go_simp; (try with_reducible rfl))
      simp only [Act.put, List.setIfInBounds_toArray, List.set_cons_zero, List.set_cons_succ]
      refine held_take 11 rfl (by kernel_rfl) (by kernel_rfl) (by kernel_rfl) (fun _ _ _ h => h) (by rfl) trivial (v := ?_) (fun w hSw => ?_) (fun _ => ?_)
      rotate_left
      · (go_simp; (try with_reducible rfl))
      simp only [Act.put, List.setIfInBounds_toArray, List.set_cons_zero, List.set_cons_succ]
      refine held_take 12 rfl (by kernel_rfl) (by kernel_rfl) (by kernel_rfl) (fun _ _ _ h => h) (by rfl) trivial (v := ?_) (fun w hSw => ?_) (fun _ => ?_)
      rotate_left
      · (go_simp; (try with_reducible rfl))
      simp only [Act.put, List.setIfInBounds_toArray, List.set_cons_zero, List.set_cons_succ]
      refine held_take 13 rfl (by kernel_rfl) (by kernel_rfl) (by kernel_rfl) (fun _ _ _ h => h) (by rfl) trivial (v := ?_) (fun w hSw => ?_) (fun _ => ?_)
      rotate_left
      · (go_simp; (try with_reducible rfl))
      simp only [Act.put, List.setIfInBounds_toArray, List.set_cons_zero, List.set_cons_succ]
      refine held_two 10 14 (by kernel_rfl) rfl rfl (by rfl) (by rfl) (fun K hK => ?_) (fun K hK => ?_)
      · go_simp
        refine hK.out _ _ trivial (fun _ => ?_)
        clear hK K
        refine held_call 14 (by kernel_rfl) rfl (by rfl) (fun K hK => ?_)
        go_simp
        refine hK.out _ _ trivial (fun _ => ?_)
        clear hK K
        refine wpAnyH_done (by kernel_rfl) ?_ _
        go_wp2
        go_end0
        obtain ⟨L6, hL6⟩ := HR6.out
        exact ⟨rfl, HB6.out, _, _, _, hL6⟩
      · go_simp
        refine hK.out _ _ trivial (fun _ => ?_)
        clear hK K
        refine held_call 10 (by kernel_rfl) rfl (by rfl) (fun K hK => ?_)
        go_simp
        refine hK.out _ _ trivial (fun _ => ?_)
        clear hK K
        refine wpAnyH_done (by kernel_rfl) ?_ _
        go_wp2
        go_end0
        obtain ⟨L6, hL6⟩ := HR6.out
        rw [HWS.out]
        exact ⟨rfl, HB6.out, _, _, _, hL6⟩
    · go_simp
      refine hK.out _ _ trivial (fun _ => ?_)
      clear hK K
      refine held_call 4 (by kernel_rfl) rfl (by rfl) (fun K hK => ?_)
      go_simp
      refine hK.out _ _ trivial (fun _ => ?_)
      clear hK K
      refine held_take 6 rfl (by kernel_rfl) (by kernel_rfl) (by kernel_rfl) (fun _ _ _ h => h) (by rfl) trivial (v := ?_) (fun w hSw => ?_) (fun _ => ?_)
      rotate_left
      · (go_simp; (try with_reducible rfl))
      simp only [Act.put, List.setIfInBounds_toArray, List.set_cons_zero, List.set_cons_succ]
      refine held_call 8 (by kernel_rfl) rfl (by rfl) (fun K hK => ?_)
      refine wp_append_run (.tmp 29) (.tmp 32) _ rfl _ _ rfl rfl HRUN.out ?_
      simp only [Act.put, List.setIfInBounds_toArray, List.set_cons_zero, List.set_cons_succ]
      refine hK.out _ _ trivial (fun _ => ?_)
      clear hK K
      refine held_take 9 rfl (by kernel_rfl) (by kernel_rfl) (by kernel_rfl) (fun _ _ _ h => h) (by rfl) trivial (v := ?_) (fun w hSw => ?_) (fun _ => ?_)
      rotate_left
      · (go_simp; (try with_reducible rfl))
      simp only [Act.put, List.setIfInBounds_toArray, List.set_cons_zero, List.set_cons_succ]
      refine held_take 11 rfl (by kernel_rfl) (by kernel_rfl) (by kernel_rfl) (fun _ _ _ h => h) (by rfl) trivial (v := ?_) (fun w hSw => ?_) (fun _ => ?_)
      rotate_left
      · (go_simp; (try with_reducible rfl))
      simp only [Act.put, List.setIfInBounds_toArray, List.set_cons_zero, List.set_cons_succ]
      refine held_take 12 rfl (by kernel_rfl) (by kernel_rfl) (by kernel_rfl) (fun _ _ _ h => h) (by rfl) trivial (v := ?_) (fun w hSw => ?_) (fun _ => ?_)
      rotate_left
      · (go_simp; (try with_reducible rfl))
      simp only [Act.put, List.setIfInBounds_toArray, List.set_cons_zero, List.set_cons_succ]
      refine held_take 13 rfl (by kernel_rfl) (by kernel_rfl) (by kernel_rfl) (fun _ _ _ h => h) (by rfl) trivial (v := ?_) (fun w hSw => ?_) (fun _ => ?_)
      rotate_left
      · (go_simp; (try with_reducible rfl))
      simp only [Act.put, List.setIfInBounds_toArray, List.set_cons_zero, List.set_cons_succ]
      refine held_two 10 14 (by kernel_rfl) rfl rfl (by rfl) (by rfl) (fun K hK => ?_) (fun K hK => ?_)
      · go_simp
        refine hK.out _ _ trivial (fun _ => ?_)
        clear hK K
        refine held_call 14 (by kernel_rfl) rfl (by rfl) (fun K hK => ?_)
        go_simp
        refine hK.out _ _ trivial (fun _ => ?_)
        clear hK K
        refine wpAnyH_done (by kernel_rfl) ?_ _
        go_wp2
        go_end0
        obtain ⟨L6, hL6⟩ := HR6.out
        exact ⟨rfl, HB6.out, _, _, _, hL6⟩
      · go_simp
        refine hK.out _ _ trivial (fun _ => ?_)
        clear hK K
        refine held_call 10 (by kernel_rfl) rfl (by rfl) (fun K hK => ?_)
        go_simp
        refine hK.out _ _ trivial (fun _ => ?_)
        clear hK K
        refine wpAnyH_done (by kernel_rfl) ?_ _
        go_wp2
        go_end0
        obtain ⟨L6, hL6⟩ := HR6.out
        rw [HWS.out]
        exact ⟨rfl, HB6.out, _, _, _, hL6⟩
end Go.Proofs.Ytnopcnbeklbfoaa

/-! Layer 4: the reader reads a token that may stand where it does. -/
namespace Go.Proofs.Ytnopcnbeklbfoaa
open Go.RowKit Go.Maps Go.WideMaps
set_option linter.unusedVariables false
set_option linter.unusedSimpArgs false

/-- How much there may be of what the reader has read. -/
def Fits (st : PSt) : Prop := st.below.length ≤ 16 ∧ ∀ f ∈ st.top :: st.below, f.props.length ≤ st.pos ∧ f.kids.length ≤ st.pos ∧ f.taken.length ≤ st.pos
theorem fits_read {S T : List Int} {st st' : PSt} {tok : Int} (h0 : st.pos + 4 ≤ S.length) (hf : Fits st) (h : readF S T st tok = .ok st') : Fits st' := by
  have hp := readF_pos h0 h
  obtain ⟨f1, f2⟩ := hf
  have ht := f2 st.top (List.mem_cons_self ..)
  have hb := fun f hf => f2 f (List.mem_cons_of_mem _ hf)
  have up : ∀ f : PF, f.props.length ≤ st.pos ∧ f.kids.length ≤ st.pos ∧ f.taken.length ≤ st.pos → f.props.length ≤ st'.pos ∧ f.kids.length ≤ st'.pos ∧ f.taken.length ≤ st'.pos := fun f hf => by omega
  unfold readF at h
  split at h
  · unfold beginF at h
    split at h
    · cases h
    · split at h
      · cases h
      · repeat' split at h
        all_goals first | (cases h; done) | skip
        simp only [Except.ok.injEq] at h
        subst h
        refine ⟨by simp only [List.length_cons]; omega, fun f hf => ?_⟩
        rcases List.mem_cons.1 hf with rfl | hf
        · simp [PF.new]
        · rcases List.mem_cons.1 hf with rfl | hf
          · simp only [List.length_append, List.length_cons, List.length_nil]
            simp only at hp
            omega
          · exact up f (hb f hf)
  · split at h
    · unfold propF at h
      split at h
      · split at h
        · cases h
        · split at h
          · cases h
          · repeat' split at h
            all_goals first | (cases h; done) | skip
            simp only [Except.ok.injEq] at h
            subst h
            refine ⟨f1, fun f hf => ?_⟩
            rcases List.mem_cons.1 hf with rfl | hf
            · simp only [List.length_append, List.length_cons, List.length_nil]
              simp only at hp
              omega
            · exact up f (hb f hf)
      · cases h
    · split at h <;> simp only [Except.ok.injEq] at h <;> subst h
      · unfold leaveF skipF at *
        cases hbl : st.below with
        | nil =>
          simp only [hbl] at hp ⊢
          refine ⟨by simp [hbl], fun f hf => ?_⟩
          rcases List.mem_cons.1 hf with rfl | hf
          · show st.top.props.length ≤ st.pos + 4 ∧ st.top.kids.length ≤ st.pos + 4 ∧ st.top.taken.length ≤ st.pos + 4
            omega
          · cases hf
        | cons b r =>
          simp only [hbl] at hp ⊢
          refine ⟨by rw [hbl] at f1; simp at f1 ⊢; omega, fun f hf => ?_⟩
          have hbb := hb b (by rw [hbl]; exact List.mem_cons_self ..)
          rcases List.mem_cons.1 hf with rfl | hf
          · simp only [List.length_append, List.length_cons, List.length_nil]
            omega
          · have := hb f (by rw [hbl]; exact List.mem_cons_of_mem _ hf)
            simp only
            omega
      · exact ⟨f1, fun f hf => up f (f2 f hf)⟩

theorem go_st {w : World} {B R : Nat} {Sv Tv : Value} {st : PSt} (h : RSt w B R Sv Tv st) : RSt (w.setCell ⟨R, 2, none⟩ (.int .i64 ((st.pos : Int) + 4))) B R Sv Tv (skipF st) ∧ w.grownBy (w.setCell ⟨R, 2, none⟩ (.int .i64 ((st.pos : Int) + 4))) (some R) ∧ w.cell? ⟨R, 2, none⟩ = some (.int .i64 st.pos) ∧ w.frozen? ⟨R, 2, none⟩ = false ∧ B ≤ R ∧ B ≤ w.heap.size := by
  obtain ⟨g, c, fs, f, L, h, h1, h2, h3, h4, h5⟩ := h
  have e : ((st.pos + 4 : Nat) : Int) = (st.pos : Int) + 4 := by omega
  have G := h.go (st.pos + 4)
  rw [e] at G
  exact ⟨⟨g, c, fs, f, L, G.1, h1, h2, h3, h4, h5⟩, G.2, h.cells.2.2.1, h.free 2, h.rlt.1, h.base⟩

set_option maxRecDepth 20000 in
set_option maxHeartbeats 4000000 in
theorem skip_any {w : World} {B R n c : Nat} {A : Option Addr} {Tv : Value} {st : PSt} (h : RSt w B R (.slice A n c) Tv st) (hpos : st.pos + 4 ≤ 1048576) (tok : Int) (hk : tok = 4 ∨ tok = 9) :
    Calls Try.prog 48 #[.pointer (some ⟨R, 0, none⟩), .int .u32 tok] w fun e w' => e = .returned (.int .i64 0) ∧ Below B w w' ∧ RSt w' B R (.slice A n c) Tv (skipF st) := by
  obtain ⟨h1, h2, h3, h4, h5, h6⟩ := go_st h
  have H1 := Lib.hid h1
  have HB := Lib.hid ((Below.refl B w).grown h2 h6 (fun k e => by rw [← Option.some.inj e]; exact h5))
  obtain ⟨p, hp⟩ : ∃ p, st.pos = p := ⟨_, rfl⟩
  rw [hp] at h3 H1 HB hpos
  clear h h1 h2
  rcases hk with rfl | rfl
  · go_enter Try.func48, Try.ntmps48
    go_wp2
    go_ret
    exact ⟨rfl, HB.out, H1.out⟩
  · go_enter Try.func48, Try.ntmps48
    go_wp2
    go_ret
    exact ⟨rfl, HB.out, H1.out⟩

set_option maxRecDepth 20000 in
set_option maxHeartbeats 4000000 in
theorem read_any {w : World} {B R n c n2 c2 : Nat} {A A2 : Option Addr} {S T : List Int} {st : PSt} (h : RSt w B R (.slice A n c) (.slice A2 n2 c2) st)
    (hs : Shows w B A n S) (hn : n ≤ 1048576) (hnc : n ≤ c) (hcm : c ≤ 9223372036854775807) (hs2 : Shows w B A2 n2 T) (hn2 : n2 ≤ 1048576) (hnc2 : n2 ≤ c2) (hcm2 : c2 ≤ 9223372036854775807) (hpos : st.pos + 4 ≤ n) (hf : Fits st)
    (tok : Int) (hst : standB st.below.length st.top.kids.length tok = true) (r : Except Int PSt) (hr : readF S T st tok = r) :
    Calls Try.prog 48 #[.pointer (some ⟨R, 0, none⟩), .int .u32 tok] w fun e w' => e = .returned (.int .i64 (errOf r)) ∧ Below B w w' ∧ ∀ st', r = .ok st' → RSt w' B R (.slice A n c) (.slice A2 n2 c2) st' := by
  obtain ⟨f1, f2⟩ := hf
  have ft := f2 st.top (List.mem_cons_self ..)
  by_cases k1 : tok = 1
  · subst k1
    obtain ⟨g, oc, fs, f, L, h, h1, h2, h3, h4, h5⟩ := h
    have hlb : fs.length ≤ 16 := by rw [h4] at f1; simpa using f1
    have hst' : st = ⟨st.pos, f.pure, (fs.map Fr.pure).reverse⟩ := by rw [← h3, ← h4]
    have hr' : beginF S ⟨st.pos, f.pure, (fs.map Fr.pure).reverse⟩ = r := by rw [← hr, ← hst']; rfl
    have C := Lib.hid (begin_any h h1 h2 h5 hs hn hnc hcm hpos hlb (by have := ft.2.2; rw [h3] at this; show f.pure.taken.length ≤ _; omega) r hr')
    clear h h3 h4 h5 hs hs2 hst' hr hr' f2 ft hst
    go_enter Try.func48, Try.ntmps48
    go_wp2_with fail
    refine C.out.mono ?_
    rintro e w1 ⟨rfl, hb, hr1⟩
    have HB := Lib.hid hb
    have HR := Lib.hid hr1
    clear hb hr1
    go_wp2
    go_ret
    exact ⟨rfl, HB.out, HR.out⟩
  by_cases k3 : tok = 3
  · subst k3
    obtain ⟨g, oc, fs, f, L, h, h1, h2, h3, h4, h5⟩ := h
    have hlb : fs.length ≤ 16 := by rw [h4] at f1; simpa using f1
    have hst' : st = ⟨st.pos, f.pure, (fs.map Fr.pure).reverse⟩ := by rw [← h3, ← h4]
    have hr' : propF S T ⟨st.pos, f.pure, (fs.map Fr.pure).reverse⟩ = r := by rw [← hr, ← hst']; rfl
    have C := Lib.hid (prop_any_read h h1 h2 h5 hs hn hnc hcm hs2 hn2 hnc2 hcm2 hpos hlb (by have := ft.1; rw [h3] at this; simp only [Fr.pure, List.length_map] at this; omega) r hr')
    clear h h3 h4 h5 hs hs2 hst' hr hr' f2 ft hst
    go_enter Try.func48, Try.ntmps48
    go_wp2_with fail
    refine C.out.mono ?_
    rintro e w1 ⟨rfl, hb, hr1⟩
    have HB := Lib.hid hb
    have HR := Lib.hid hr1
    clear hb hr1
    go_wp2
    go_ret
    exact ⟨rfl, HB.out, HR.out⟩
  by_cases k2 : tok = 2
  · subst k2
    have hbl : 0 < st.below.length := by simpa [standB] using hst
    have hrr : r = .ok (skipF (leaveF st)) := by rw [← hr]; rfl
    subst hrr
    obtain ⟨g, oc, fs, f, L, h, h1, h2, h3, h4, h5⟩ := h
    have hne : fs ≠ [] := fun e => by rw [h4, e] at hbl; simp at hbl
    obtain ⟨fs0, f0, rfl⟩ : ∃ fs0 f0, fs = fs0 ++ [f0] := ⟨fs.dropLast, fs.getLast hne, (List.dropLast_concat_getLast hne).symm⟩
    have e1 : (fs0 ++ [f0]).length = fs0.length + 1 := by simp
    have hlb : fs0.length ≤ 15 := by rw [h4] at f1; simp at f1; omega
    have hbel : st.below = f0.pure :: (fs0.map Fr.pure).reverse := by rw [h4]; simp
    have f0b := f2 f0.pure (by rw [hbel]; simp)
    have C := Lib.hid (leave_any h (by rw [e1] at h1; omega) h2 (by omega) (by have := ft.1; rw [h3] at this; simp only [Fr.pure, List.length_map] at this; omega) (by have := ft.2.1; rw [h3] at this; simp only [Fr.pure, List.length_map] at this; omega) (by have := f0b.2.1; simp only [Fr.pure, List.length_map] at this; omega))
    have HL : Hid (leaveF st = ⟨st.pos, { f0.pure with kids := f0.pure.kids ++ [f.pure.done] }, (fs0.map Fr.pure).reverse⟩) := by unfold leaveF; rw [hbel, h3]; exact Lib.hid rfl
    have HT := Lib.hid h5
    rw [e1] at h1
    have hpos2 : st.pos + 4 ≤ 1048576 := by omega
    clear h h3 h4 h5 hs hs2 hr f2 ft hst hbel f0b hbl hne
    obtain ⟨p, hp⟩ : ∃ p, st.pos = p := ⟨_, rfl⟩
    rw [hp] at C HL hpos2
    go_enter Try.func48, Try.ntmps48
    go_wp2_with fail
    refine C.out.mono ?_
    rintro e w1 ⟨rfl, hb, ka, kc, L', hr1⟩
    have hrs : RSt w1 B R (.slice A n c) (.slice A2 n2 c2) (leaveF st) := by
      rw [HL.out]
      refine ⟨g, oc, fs0, _, L', hr1, by omega, h2, ?_, rfl, ⟨HT.out.2 f0 (by simp), fun x hx => HT.out.2 x (by simp [hx])⟩⟩
      simp only [Fr.pure, List.map_append, List.map_cons, List.map_nil, Fr.node_pure]
    obtain ⟨g1, g2, g3, g4, g5, g6⟩ := go_st hrs
    have hlp : (leaveF st).pos = p := by rw [HL.out]
    rw [hlp] at g1 g2 g3
    have H1 := Lib.hid g1
    have HB := Lib.hid (hb.grown g2 g6 (fun k e => by rw [← Option.some.inj e]; exact g5))
    clear hb hr1 hrs g1 g2 hlp
    go_wp2
    go_ret
    exact ⟨rfl, HB.out, fun st' h => by rw [← Except.ok.inj h]; exact H1.out⟩
  have k49 : tok = 4 ∨ tok = 9 := by
    by_cases k4 : tok = 4
    · exact .inl k4
    · by_cases k9 : tok = 9
      · exact .inr k9
      · simp [standB, k1, k2, k3, k4, k9] at hst
  have hrr : r = .ok (skipF st) := by rw [← hr, readF, if_neg k1, if_neg k3, if_neg k2]
  subst hrr
  exact (skip_any h (by omega) tok k49).mono fun e w' ⟨h1, h2, h3⟩ => ⟨h1, h2, fun st' h => by rw [← Except.ok.inj h]; exact h3⟩
end Go.Proofs.Ytnopcnbeklbfoaa
