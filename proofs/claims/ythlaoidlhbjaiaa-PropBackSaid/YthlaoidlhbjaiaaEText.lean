/-
  Layer 4: words.Text and words.Pad at slices of any length; bytes.Clone.
-/
import Derived.Test.YthlaoidlhbjaiaaQRef
import Derived.Test.YthlaoidlhbjaiaaEPure
import Derived.Test.YthlaoidlhbjaiaaDBytes
import Derived.Test.YthlaoidlhbjaiaaShelf
import Derived.Test.YthlaoidlhbjaiaaDStr
import Derived.Lib.IndexLaws
namespace Go.Proofs.Ythlaoidlhbjaiaa
open Go.RowKit
set_option linter.unusedVariables false
set_option linter.unusedSimpArgs false

theorem byte_eq_zero (z : Int) (h : 0 ≤ z ∧ z < 256) : UInt8.ofNat z.toNat = (0 : Int).toNat.toUInt8 ↔ z = 0 := by
  constructor
  · intro e
    have e2 := congrArg UInt8.toNat e
    simp at e2
    omega
  · rintro rfl; rfl

theorem index_none (zs : List Int) (a n : Nat) (hz : ∀ z ∈ zs, 0 ≤ z ∧ z < 256) (hl : zs.length = n) (h : NoHit zs a n) : Lib.indexByte (Lib.bytesOf (zs.drop a)) (0 : Int).toNat.toUInt8 = -1 := by
  have hge := Lib.indexByte_ge (Lib.bytesOf (zs.drop a)) (0 : Int).toNat.toUInt8
  by_cases hn : Lib.indexByte (Lib.bytesOf (zs.drop a)) (0 : Int).toNat.toUInt8 = -1
  · exact hn
  · obtain ⟨o, ho⟩ : ∃ o : Nat, Lib.indexByte (Lib.bytesOf (zs.drop a)) (0 : Int).toNat.toUInt8 = o := ⟨_, (Int.toNat_of_nonneg (by omega)).symm⟩
    have h1 := (Lib.indexByte_some ho).1
    rw [Lib.bytesOf, List.getElem?_map, List.getElem?_drop] at h1
    obtain ⟨z, h2, h3⟩ := Option.map_eq_some_iff.1 h1
    have hlt : a + o < n := by
      rcases Nat.lt_or_ge (a + o) zs.length with h | h
      · omega
      · rw [List.getElem?_eq_none h] at h2; cases h2
    exact absurd ((byte_eq_zero z (hz z (List.mem_of_getElem? h2))).1 h3) (by have := h (a + o) (by omega) hlt; simpa [List.getD, h2] using this)

theorem index_some (zs : List Int) (a n i : Nat) (hz : ∀ z ∈ zs, 0 ≤ z ∧ z < 256) (hl : zs.length = n) (h : HitAt zs a n i) : Lib.indexByte (Lib.bytesOf (zs.drop a)) (0 : Int).toNat.toUInt8 = ((i - a : Nat) : Int) := by
  obtain ⟨h1, h2, h3, h4⟩ := h
  have hge := Lib.indexByte_ge (Lib.bytesOf (zs.drop a)) (0 : Int).toNat.toUInt8
  have hi : (Lib.bytesOf (zs.drop a))[i - a]? = some (0 : Int).toNat.toUInt8 := by
    have e : zs[i]? = some zs[i] := List.getElem?_eq_getElem (by omega)
    rw [Lib.bytesOf, List.getElem?_map, List.getElem?_drop, show a + (i - a) = i from by omega, e]
    have e2 : zs[i] = 0 := by simpa [List.getD, e] using h3
    rw [e2]; rfl
  by_cases hn : Lib.indexByte (Lib.bytesOf (zs.drop a)) (0 : Int).toNat.toUInt8 = -1
  · exact absurd hi (Lib.indexByte_none hn _)
  · obtain ⟨o, ho⟩ : ∃ o : Nat, Lib.indexByte (Lib.bytesOf (zs.drop a)) (0 : Int).toNat.toUInt8 = o := ⟨_, (Int.toNat_of_nonneg (by omega)).symm⟩
    obtain ⟨k1, k2⟩ := Lib.indexByte_some ho
    rw [ho]
    congr 1
    rcases Nat.lt_trichotomy o (i - a) with h5 | h5 | h5
    · rw [Lib.bytesOf, List.getElem?_map, List.getElem?_drop] at k1
      obtain ⟨z, g2, g3⟩ := Option.map_eq_some_iff.1 k1
      exact absurd ((byte_eq_zero z (hz z (List.mem_of_getElem? g2))).1 g3) (by have := h4 (a + o) (by omega) (by omega); simpa [List.getD, g2] using this)
    · exact h5
    · exact absurd hi (k2 _ h5)

/-- bytes.IndexByte over bytes that are shown, from a on; the slice may be empty. -/
theorem indexb_any (A : Option Addr) (n c : Nat) (zs : List Int) (w : World) (B : Nat) (hs : Shows w B A n zs) (h0 : 0 < n) :
    Calls Try.prog 32 #[.slice A n c, .int .u8 0] w fun e w' => e = .returned (.int .i64 (Lib.indexByte (Lib.bytesOf zs) (0 : Int).toNat.toUInt8)) ∧ w = w' := by
  obtain ⟨b, o, rfl, _, hc⟩ := hs.at_ h0
  exact (Go.Proofs.Try.bytes_IndexByte b o n c zs 0 w hs.1 hc).mono fun e w' ⟨h1, h2⟩ => ⟨h1, h2.symm⟩

set_option maxHeartbeats 400000 in
theorem text_off (A : Option Addr) (n c : Nat) (at_ : Int) (w : World) (hn : n ≤ 1048576) (h : at_ < 0 ∨ (n : Int) ≤ at_) :
    Calls Try.prog 22 #[.slice A n c, .int .i64 at_] w fun e w' => e = .returned (.tuple #[.string ByteArray.empty, .bool false]) ∧ w = w' := by
  by_cases h0 : at_ < 0
  · go_enter Try.func22, Try.ntmps22
    go_wp2
    go_ret2
    exact ⟨rfl, rfl⟩
  · have h1 : (n : Int) ≤ at_ := by omega
    go_enter Try.func22, Try.ntmps22
    go_wp2
    go_ret2
    exact ⟨rfl, rfl⟩

set_option maxHeartbeats 400000 in
theorem text_no (A : Option Addr) (n c a : Nat) (zs : List Int) (w : World) (B : Nat) (hs : Shows w B A n zs) (hn : n ≤ 1048576) (hnc : n ≤ c) (ha : a < n) (h : NoHit zs a n) :
    Calls Try.prog 22 #[.slice A n c, .int .i64 a] w fun e w' => e = .returned (.tuple #[.string ByteArray.empty, .bool false]) ∧ w = w' := by
  have hi := index_none zs a n hs.2.1 hs.1 h
  have C := Lib.hid (indexb_any (cutAt A c a) (n - a) (c - a) (zs.drop a) w B (hs.from_ (Nat.le_of_lt ha) hnc) (by omega))
  rw [hi] at C
  have r1 := run_from (P := Try.prog) Try.underlying22 size_u8 A n c (a : Int) a rfl (Nat.le_of_lt ha)
  have h0 : ¬ ((a : Int) < 0) := by omega
  have h1 : (a : Int) < (n : Int) := by omega
  clear hs h hi hnc ha
  go_enter Try.func22, Try.ntmps22
  go_wp2_with fail
  refine C.out.mono ?_
  rintro e w' ⟨rfl, rfl⟩
  go_wp2
  go_ret2
  exact ⟨rfl, rfl⟩

set_option maxRecDepth 20000 in
set_option maxHeartbeats 1000000 in
theorem text_yes (A : Option Addr) (n c a i : Nat) (zs : List Int) (w : World) (B : Nat) (hs : Shows w B A n zs) (hn : n ≤ 1048576) (hnc : n ≤ c) (h : HitAt zs a n i) :
    Calls Try.prog 22 #[.slice A n c, .int .i64 a] w fun e w' => e = .returned (.tuple #[.string (strOfNums ((zs.drop a).take (i - a))), .bool true]) ∧ w = w' := by
  have hi := index_some zs a n i hs.2.1 hs.1 h
  have h2 := h.1
  have h3 := h.2.1
  have C := Lib.hid (indexb_any (cutAt A c a) (n - a) (c - a) (zs.drop a) w B (hs.from_ (by omega) hnc) (by omega))
  rw [hi] at C
  have r1 := run_from (P := Try.prog) Try.underlying22 size_u8 A n c (a : Int) a rfl (by omega)
  obtain ⟨m, rfl⟩ : ∃ m, i = a + m := ⟨i - a, by omega⟩
  simp only [Nat.add_sub_cancel_left] at C ⊢
  have ei : IntKind.i64.wrap ((a : Int) + (m : Int)) = (a : Int) + (m : Int) := IntWalk.i64_in _ (by omega)
  have r2 := run_cut (P := Try.prog) Try.underlying22 size_u8 A n c (a : Int) ((a : Int) + (m : Int)) a (a + m) rfl (by omega) (by omega) (by omega)
  simp only [Nat.add_sub_cancel_left] at r2
  have hcv := run_string (hs.cut (l := a) (h := a + m) (by omega) (by omega) hnc) (c - a)
  simp only [Nat.add_sub_cancel_left] at hcv
  have h0 : ¬ ((a : Int) < 0) := by omega
  have h1 : (a : Int) < (n : Int) := by omega
  clear hs h hi hnc h2
  go_enter Try.func22, Try.ntmps22
  go_wp2_with fail
  refine C.out.mono ?_
  rintro e w' ⟨rfl, rfl⟩
  go_wp2
  go_ret2
  exact ⟨rfl, rfl⟩

theorem and_three (n : Int) (h0 : 0 ≤ n) (h1 : n ≤ 9223372036854775807) : bits .and .i64 (-n) 3 = (-n) % 4 := by
  show IntKind.i64.wrap ((BitVec.ofInt 64 (-n) &&& BitVec.ofInt 64 3).toNat : Int) = _
  rw [BitVec.toNat_and, show (BitVec.ofInt 64 3).toNat = 3 from rfl, nat_mask2, BitVec.toNat_ofInt, IntWalk.i64_in _ (by omega)]
  omega

theorem takeWhile_at : ∀ (l : List Int) (k : Nat), k < l.length → l.getD k 0 = 0 → (∀ j, j < k → l.getD j 0 ≠ 0) → 0 ∈ l ∧ (l.takeWhile fun z => decide (z ≠ 0)) = l.take k
  | x :: l, 0, _, h0, _ => by
    have hx : x = 0 := by simpa using h0
    subst hx
    simp [List.takeWhile_cons]
  | x :: l, k + 1, hk, h0, h1 => by
    have hx : x ≠ 0 := by simpa using h1 0 (by omega)
    obtain ⟨e1, e2⟩ := takeWhile_at l k (by simpa using hk) (by simpa using h0) (fun j hj => by simpa using h1 (j + 1) (by omega))
    refine ⟨List.mem_cons_of_mem _ e1, ?_⟩
    rw [List.takeWhile_cons, if_pos (by simpa using hx), e2, List.take_succ_cons]
theorem getD_drop (zs : List Int) (a k : Nat) : (zs.drop a).getD k 0 = zs.getD (a + k) 0 := by simp [List.getD, List.getElem?_drop]
theorem textFrom_hit {zs : List Int} {a i : Nat} (h : HitAt zs a zs.length i) : textFrom zs a = some ((zs.drop a).take (i - a)) := by
  obtain ⟨h1, h2, h3, h4⟩ := h
  obtain ⟨e1, e2⟩ := takeWhile_at (zs.drop a) (i - a) (by rw [List.length_drop]; omega) (by rw [getD_drop, show a + (i - a) = i by omega]; exact h3) (fun j hj => by rw [getD_drop]; exact h4 _ (by omega) (by omega))
  rw [textFrom, if_pos e1, e2]
theorem textFrom_nohit {zs : List Int} {a : Nat} (h : NoHit zs a zs.length) : textFrom zs a = none := by
  rw [textFrom, if_neg]
  intro h0
  obtain ⟨k, hk, e⟩ := List.getElem_of_mem h0
  rw [List.length_drop] at hk
  refine h (a + k) (by omega) (by omega) ?_
  rw [← getD_drop]
  simp [List.getD, List.getElem?_eq_getElem (show k < (zs.drop a).length by rw [List.length_drop]; omega), e]

def txtOf : Option (List Int) → ByteArray
  | none => ByteArray.empty
  | some s => strOfNums s
/-- words.Text from a place on. -/
theorem text_any (A : Option Addr) (n c a : Nat) (q : Int) (hq : q = (a : Int)) (zs : List Int) (w : World) (B : Nat) (hs : Shows w B A n zs) (hn : n ≤ 1048576) (hnc : n ≤ c) (r : Option (List Int)) (hr : textFrom zs a = r) :
    Calls Try.prog 22 #[.slice A n c, .int .i64 q] w fun e w' => e = .returned (.tuple #[.string (txtOf r), .bool r.isSome]) ∧ w = w' := by
  subst hq
  have hl := hs.1
  rcases Nat.lt_or_ge a n with ha | ha
  · rcases hit_or_not zs a (n - a) with h | ⟨i, h⟩
    · rw [show a + (n - a) = n by omega] at h
      rw [← hl] at h
      rw [textFrom_nohit h] at hr
      subst hr
      exact text_no A n c a zs w B hs hn hnc ha (by rw [← hl]; exact h)
    · rw [show a + (n - a) = n by omega] at h
      have h' := h
      rw [← hl] at h'
      rw [textFrom_hit h'] at hr
      subst hr
      exact text_yes A n c a i zs w B hs hn hnc h
  · have h : NoHit zs a zs.length := fun j h1 h2 => by omega
    rw [textFrom_nohit h] at hr
    subst hr
    exact text_off A n c a w hn (.inr (by omega))
theorem text_any_byte {zs s : List Int} {a : Nat} (hz : ∀ z ∈ zs, 0 ≤ z ∧ z < 256) (h : textFrom zs a = some s) : ∀ z ∈ s, 0 ≤ z ∧ z < 256 := by
  unfold textFrom at h
  split at h
  · simp only [Option.some.injEq] at h
    subst h
    exact fun z hz' => hz z (List.mem_of_mem_drop ((List.takeWhile_sublist _).subset hz'))
  · cases h

set_option maxHeartbeats 1000000 in
theorem bclone_any (A : Option Addr) (n c : Nat) (zs : List Int) (w : World) (hs : Shows w w.heap.size A n zs) (hn : n ≤ 140737488351232) :
    Calls Try.prog 40 #[.slice A n c] w fun e w' => ∃ v', e = .returned v' ∧ w'.ownsRow w.heap.size 5 1 v' n (u8s zs) ∧ Below w.heap.size w w' := by
  obtain ⟨i0, hi0, hz0, hz1, hz2⟩ := info_parts info_u8
  have HS := Lib.hid hs
  clear hs
  have q : ∀ (w : World) (a : Option Addr) (n c n' c' : Nat), (binOp .eql 22 (.slice a n c) (.slice none n' c')).run Try.prog w = .ok (.bool a.isNone) w := fun w a n c n' c' => Lib.run_eql_slice_nil w _ _ a n c n' c' Try.underlying22
  have u22 : ∀ w, Sem.run Try.prog (underlying 22) w = .ok (TypeDesc.slice 5) w := run_underlying Try.underlying22
  rcases A with _ | ad
  · have hn0 : n = 0 := by
      rcases Nat.eq_zero_or_pos n with h | h
      · exact h
      · obtain ⟨b, o, e, _⟩ := HS.out.at_ h
        cases e
    have hz0' : zs = [] := List.eq_nil_of_length_eq_zero (HS.out.1.trans hn0)
    subst hn0 hz0'
    go_enter Try.func40, Try.ntmps40
    go_wp2
    go_ret
    exact ⟨_, rfl, World.ownsRow_nil _ _ _ _, Below.refl _ _⟩
  · have HB0 := Lib.hid ((Below.refl w.heap.size w).alloc (Nat.le_refl _) (.cells #[] 5))
    obtain ⟨v', w', hrun, hown, hgr, _⟩ := run_append_shown (w.alloc (.cells #[] 5)) i0 hi0 hz0 hz1 hz2 w.heap.size (.slice (some ⟨w.heap.size, 0, none⟩) 0 0) 0 [] (World.ownsRow_made w #[] 0 (Nat.le_refl _) (Nat.zero_le _) rfl) w.heap.size (some ad) n c zs (HS.out.below HB0.out) (by omega) (by simp) 22
    have HO := Lib.hid hown
    have HG := Lib.hid hgr
    have HR := Lib.hid hrun
    clear hown hgr hrun hi0 hz0 hz1 hz2
    go_enter Try.func40, Try.ntmps40
    go_wp2_with (at_builtin; refine Lib.wpList_append_run_sl _ rfl _ _ 22 rfl _ _ rfl rfl HR.out ?_)
    go_ret
    refine ⟨_, rfl, ?_, HB0.out.grown HG.out (by simp) ?_⟩
    · have := HO.out
      rw [Nat.zero_add] at this
      simpa using this
    · intro k hk
      simp [Value.ownBlock] at hk
      omega
end Go.Proofs.Ythlaoidlhbjaiaa
