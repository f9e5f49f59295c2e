/-
  Base, part 2: what the proofs of this claim lean on.
-/
import Derived.Test.YtbblgkidgecdpaaBase1
import Derived.Below
import Derived.Lib.Bytes
import Derived.Lib.SmallJoins
import Derived.Deep.OwnRows
import Derived.Deep.Strs
import Derived.Great.BuildSlice
import Derived.Lib.SlFresh
import Derived.Lib.ConvBytes
import Derived.Deep.RegionHeld3
import Derived.BigQuiet
import Derived.Deep.QuietTactic

/-! The place of the first name that is s, in a list of names. -/
namespace Go.Proofs.Ytbblgkidgecdpaa
open Go.RowKit
set_option linter.unusedVariables false
set_option linter.unusedSimpArgs false

/-- The place of the first name that is s; -1: none. -/
def idxOf : List ByteArray → ByteArray → Int
  | [], _ => -1
  | x :: l, s => if x = s then 0 else if idxOf l s < 0 then -1 else idxOf l s + 1

theorem idxOf_hit : ∀ (l : List ByteArray) (s : ByteArray) (k : Nat) (hk : k < l.length), l[k] = s → (∀ j (hj : j < k), l[j] ≠ s) → idxOf l s = k
  | x :: l, s, 0, hk, h, _ => by simp only [List.getElem_cons_zero] at h; simp [idxOf, h]
  | x :: l, s, k + 1, hk, h, h' => by
    have h0 : x ≠ s := by have := h' 0 (by omega); simpa using this
    have ih := idxOf_hit l s k (by simpa using hk) (by simpa using h) (fun j hj => by have := h' (j + 1) (by omega); simpa using this)
    rw [idxOf, if_neg h0, ih, if_neg (by omega)]
    omega
theorem idxOf_miss : ∀ (l : List ByteArray) (s : ByteArray), (∀ j (hj : j < l.length), l[j] ≠ s) → idxOf l s = -1
  | [], s, _ => rfl
  | x :: l, s, h => by
    have h0 : x ≠ s := by have := h 0 (by simp); simpa using this
    have ih := idxOf_miss l s (fun j hj => by have := h (j + 1) (by simpa using hj); simpa using this)
    rw [idxOf, if_neg h0, ih, if_pos (by omega)]

/-- None of the first k names is s. -/
def Missed (l : List ByteArray) (s : ByteArray) (k : Nat) : Prop := k ≤ l.length ∧ ∀ j (hj : j < l.length), j < k → l[j] ≠ s

theorem Missed.zero (l : List ByteArray) (s : ByteArray) : Missed l s 0 := ⟨Nat.zero_le _, fun _ _ h => absurd h (Nat.not_lt_zero _)⟩
theorem Missed.succ {l : List ByteArray} {s : ByteArray} {k : Nat} (h : Missed l s k) (hk : k < l.length) (hne : l[k] ≠ s) : Missed l s (k + 1) :=
  ⟨hk, fun j hj hlt => by
    rcases Nat.lt_succ_iff_lt_or_eq.1 hlt with h1 | rfl
    · exact h.2 j hj h1
    · exact hne⟩
theorem Missed.hit {l : List ByteArray} {s : ByteArray} {k : Nat} (h : Missed l s k) (hk : k < l.length) (he : l[k] = s) : idxOf l s = k := idxOf_hit l s k hk he (fun j hj => h.2 j (by omega) hj)
theorem Missed.all {l : List ByteArray} {s : ByteArray} {k : Nat} (h : Missed l s k) (hk : ¬ k < l.length) : idxOf l s = -1 := idxOf_miss l s (fun j hj => h.2 j hj (by omega))

theorem str_ne {x s : ByteArray} (h : x ≠ s) : (x.toList == s.toList) = false := by
  rw [beq_eq_false_iff_ne]
  intro e
  rw [Lib.toList_data, Lib.toList_data] at e
  exact h (WideShapes.bytes_inj e)

end Go.Proofs.Ytbblgkidgecdpaa

/-! Texts of bytes that are shown; bytes.Equal. -/
namespace Go.Proofs.Ytbblgkidgecdpaa
open Go.RowKit
set_option linter.unusedVariables false
set_option linter.unusedSimpArgs false

/-- 'string(b)' of bytes that are shown. -/
theorem run_string {w : World} {B n : Nat} {A : Option Addr} {zs : List Int} (h : Shows w B A n zs) (c : Nat) :
    (convert 65 9 (.slice A n c)).run Try.prog w = .ok (.string (strOfNums zs)) w := by
  rcases Nat.eq_zero_or_pos n with rfl | h0
  · obtain rfl : zs = [] := List.eq_nil_of_length_eq_zero h.1
    rcases A with _ | ⟨b, o, s⟩
    · exact run_convert_bytes_nil w 65 5 Try.underlying65 Try.underlying5 0 c _ Try.underlying9
    · rw [run_convert_bytes_string w 65 9 5 _ 0 c Try.underlying65 Try.underlying5 Try.underlying9,
        run_bytesToString w _ 0 c [] (by simpa using run_loadCells_list (P := Try.prog) w ⟨b, o, s⟩ [] (by simp))]
      rfl
  · obtain ⟨b, o, rfl, _, hc⟩ := h.at_ h0
    exact run_convert_bytes_arg w 65 5 Try.underlying65 Try.underlying5 b o n c zs h.1 hc _ Try.underlying9

theorem nums_inj : ∀ {xs ys : List Int}, (∀ z ∈ xs, 0 ≤ z ∧ z < 256) → (∀ z ∈ ys, 0 ≤ z ∧ z < 256) → (xs.map fun n => UInt8.ofNat n.toNat) = (ys.map fun n => UInt8.ofNat n.toNat) → xs = ys
  | [], [], _, _, _ => rfl
  | [], _ :: _, _, _, h => by simp at h
  | _ :: _, [], _, _, h => by simp at h
  | x :: xs, y :: ys, hx, hy, h => by
    simp only [List.map_cons, List.cons.injEq] at h
    have h1 := hx x (List.mem_cons_self ..)
    have h2 := hy y (List.mem_cons_self ..)
    have h3 := congrArg UInt8.toNat h.1
    simp only [UInt8.toNat_ofNat'] at h3
    rw [nums_inj (fun z hz => hx z (List.mem_cons_of_mem _ hz)) (fun z hz => hy z (List.mem_cons_of_mem _ hz)) h.2]
    congr 1
    omega

/-- Texts of bytes are the same just if the bytes are. -/
theorem str_eqz {xs ys : List Int} (hx : ∀ z ∈ xs, 0 ≤ z ∧ z < 256) (hy : ∀ z ∈ ys, 0 ≤ z ∧ z < 256) : ((strOfNums xs).toList == (strOfNums ys).toList) = decide (xs = ys) := by
  rw [Lib.toList_data, Lib.toList_data, strOfNums_data, strOfNums_data, Bool.eq_iff_iff, beq_iff_eq, decide_eq_true_iff]
  exact ⟨nums_inj hx hy, fun h => by rw [h]⟩
theorem str_eqb (x y : ByteArray) : (x.toList == y.toList) = decide (x = y) := by
  by_cases h : x = y
  · subst h; simp
  · rw [str_ne h, decide_eq_false h]

end Go.Proofs.Ytbblgkidgecdpaa

/-! The document's numbers and texts, of bytes of any length. -/
namespace Go.Proofs.Ytbblgkidgecdpaa
open Go.RowKit
set_option linter.unusedVariables false
set_option linter.unusedSimpArgs false

/-- The first nought from a on, below n, is at i. -/
def HitAt (zs : List Int) (a n i : Nat) : Prop := a ≤ i ∧ i < n ∧ zs.getD i 0 = 0 ∧ ∀ j, a ≤ j → j < i → zs.getD j 0 ≠ 0
/-- There is none. -/
def NoHit (zs : List Int) (a n : Nat) : Prop := ∀ j, a ≤ j → j < n → zs.getD j 0 ≠ 0

theorem hit_or_not (zs : List Int) (a : Nat) : ∀ k, NoHit zs a (a + k) ∨ ∃ i, HitAt zs a (a + k) i
  | 0 => .inl fun j h1 h2 => by omega
  | k + 1 => by
    rcases hit_or_not zs a k with h | ⟨i, h1, h2, h3, h4⟩
    · by_cases h0 : zs.getD (a + k) 0 = 0
      · exact .inr ⟨a + k, by omega, by omega, h0, fun j h1 h2 => h j h1 (by omega)⟩
      · refine .inl fun j h1 h2 => ?_
        by_cases e : j = a + k
        · rw [e]; exact h0
        · exact h j h1 (by omega)
    · exact .inr ⟨i, h1, by omega, h3, h4⟩

set_option maxHeartbeats 400000 in
theorem number_no (A : Option Addr) (n c : Nat) (at_ k : Int) (w : World) (h : at_ < 0 ∨ n < at_ ∨ n - at_ < k) (hn : n ≤ 9223372036854775807) (hk : k = 4 ∨ k = 8) (ha : -9223372036854775808 ≤ at_ ∧ at_ ≤ 9223372036854775807) :
    Calls Try.prog 43 #[.slice A n c, .int .i64 at_, .int .i64 k] w fun e w' => e = .returned (.tuple #[.int .u64 0, .bool false]) ∧ w = w' := by
  obtain ⟨a0, a1⟩ := ha
  by_cases h0 : at_ < 0
  · go_enter Try.func43, Try.ntmps43
    go_wp2
    go_ret2
    exact ⟨rfl, rfl⟩
  · by_cases h1 : (n : Int) < at_
    · go_enter Try.func43, Try.ntmps43
      go_wp2
      go_ret2
      exact ⟨rfl, rfl⟩
    · have h2 : n - at_ < k := by omega
      go_enter Try.func43, Try.ntmps43
      go_wp2
      go_ret2
      exact ⟨rfl, rfl⟩

set_option maxHeartbeats 400000 in
theorem number_yes (A : Option Addr) (n c k a : Nat) (zs : List Int) (w : World) (B : Nat) (hs : Shows w B A n zs) (h : a + k ≤ n) (hn : n ≤ 140737488351232) (hk0 : 0 < k) (hk : k ≤ 8) :
    Calls Try.prog 43 #[.slice A n c, .int .i64 a, .int .i64 k] w fun e w' => e = .returned (.tuple #[.int .u64 (numTo zs a k), .bool true]) ∧ w = w' := by
  obtain ⟨b, o, rfl, _, hc⟩ := hs.at_ (by omega)
  have hz := hs.byte
  have h0 : ¬ ((a : Int) < 0) := by omega
  have h1 : ¬ ((n : Int) < (a : Int)) := by omega
  have h2 : ¬ ((n : Int) - (a : Int) < (k : Int)) := by omega
  clear hs
  have HC := Lib.hid hc
  have HZ := Lib.hid hz
  clear hc hz
  go_enter Try.func43, Try.ntmps43
  go_wp2
  go_loop [8, 27] (fun v i => ∃ j : Nat, j ≤ k ∧ i = .int .i64 j ∧ v = .int .u64 (numTo zs a j)) (fun _ i => k - (intOf i).toNat)
  case atStart => exact ⟨0, by omega, rfl, rfl⟩
  case round =>
    obtain ⟨j, hj, rfl, rfl⟩ := hrel
    by_cases hlt : j < k
    · have hcell := HC.out (a + j) (by omega)
      have hzb := HZ.out (a + j)
      have hb := numTo_lt64 zs a j HZ.out (by omega)
      have hb2 := numTo_lt64 zs a (j + 1) HZ.out (by omega)
      simp only [numTo] at hb2
      go_wp2
      go_round
      case rel => exact ⟨j + 1, by omega, by go_num, by
        have e : zs[a + j]?.getD 0 = zs.getD (a + j) 0 := by simp [List.getD]
        rw [e, IntWalk.u64_in (zs.getD (a + j) 0) (by omega), IntWalk.u64_in _ hb2]; rfl⟩
      case measure => simp [intOf]; omega
    · obtain rfl : j = k := by omega
      go_wp2
      go_ret2
      exact ⟨rfl, rfl⟩

theorem take_while_hit {zs : List Int} {a i : Nat} (h : HitAt zs a zs.length i) : (0 : Int) ∈ zs.drop a ∧ ((zs.drop a).takeWhile fun z => decide (z ≠ 0)) = (zs.drop a).take (i - a) := by
  obtain ⟨h1, h2, h3, h4⟩ := h
  have hget : ∀ j, a ≤ j → j < zs.length → (zs.drop a)[j - a]? = some (zs.getD j 0) := fun j hj hl => by
    rw [List.getElem?_drop, show a + (j - a) = j by omega]
    simp [List.getD, List.getElem?_eq_getElem hl]
  refine ⟨List.mem_of_getElem? ((hget i h1 h2).trans (congrArg some h3)), ?_⟩
  have hsplit : zs.drop a = (zs.drop a).take (i - a) ++ (0 :: (zs.drop a).drop (i - a + 1)) := by
    conv => lhs; rw [← List.take_append_drop (i - a) (zs.drop a)]
    congr 1
    rw [List.drop_eq_getElem_cons (by rw [List.length_drop]; omega)]
    congr 1
    have := hget i h1 h2
    rw [List.getElem?_eq_getElem (by rw [List.length_drop]; omega), h3] at this
    exact Option.some.inj this
  conv => lhs; rw [hsplit]
  rw [List.takeWhile_append_of_pos]
  · simp
  · intro z hz
    obtain ⟨j, hj, rfl⟩ := List.getElem_of_mem hz
    rw [List.length_take, List.length_drop] at hj
    have h5 := hget (a + j) (by omega) (by omega)
    rw [show a + j - a = j by omega] at h5
    have h6 : ((zs.drop a).take (i - a))[j]? = some (zs.getD (a + j) 0) := by
      rw [List.getElem?_take_of_lt (by omega)]; exact h5
    rw [List.getElem?_eq_getElem (by rw [List.length_take, List.length_drop]; omega)] at h6
    rw [Option.some.inj h6]
    exact decide_eq_true (h4 (a + j) (by omega) (by omega))
theorem text_hit {zs : List Int} {a i : Nat} (h : HitAt zs a zs.length i) : textFrom zs a = some ((zs.drop a).take (i - a)) := by
  obtain ⟨h1, h2⟩ := take_while_hit h
  rw [textFrom, if_pos h1, h2]
theorem text_nohit {zs : List Int} {a : Nat} (h : NoHit zs a zs.length) : textFrom zs a = none := by
  rw [textFrom, if_neg]
  intro h0
  obtain ⟨j, e⟩ := List.getElem?_of_mem h0
  have hj : j < zs.length - a := by have := (List.getElem?_eq_some_iff.1 e).1; rwa [List.length_drop] at this
  rw [List.getElem?_drop, List.getElem?_eq_getElem (by omega)] at e
  refine h (a + j) (by omega) (by omega) ?_
  simp [List.getD, List.getElem?_eq_getElem (show a + j < zs.length by omega), Option.some.inj e]

/-- What the document's Text answers: the bytes up to the next nought, or that there is none. -/
def TextOut (e : Ending) (o : Option (List Int)) : Prop := e = .returned (.tuple #[.string (match o with | none => ByteArray.empty | some s => strOfNums s), .bool o.isSome])
end Go.Proofs.Ytbblgkidgecdpaa

/-! Rows of one cell an element, of any type: slices that show values, rows of a call's own, append. -/
namespace Go.Proofs.Ytbblgkidgecdpaa
open Go.RowKit
set_option linter.unusedVariables false
set_option linter.unusedSimpArgs false

/-- A slice shows these values, one cell each, in a block below B. -/
def Cel (w : World) (B : Nat) (A : Option Addr) (n : Nat) (xs : List Value) : Prop :=
  xs.length = n ∧ (0 < n → ∃ b o, A = some ⟨b, o, none⟩ ∧ b < B ∧ ∀ i, i < n → w.cell? ⟨b, o + i, none⟩ = xs[i]?)
section
variable {w w' : World} {B B' n : Nat} {A : Option Addr} {xs : List Value}
theorem Cel.at_ (h : Cel w B A n xs) (hn : 0 < n) : ∃ b o, A = some ⟨b, o, none⟩ ∧ b < B ∧ ∀ i, i < n → w.cell? ⟨b, o + i, none⟩ = xs[i]? := h.2 hn
theorem Cel.nil (w : World) (B : Nat) (A : Option Addr) : Cel w B A 0 [] := ⟨rfl, fun h => absurd h (Nat.lt_irrefl 0)⟩
theorem Cel.keep (h : Cel w B A n xs) (hk : ∀ p : Addr, p.block < B → w'.cell? p = w.cell? p) : Cel w' B A n xs :=
  ⟨h.1, fun hn => by
    obtain ⟨b, o, e, hb, hc⟩ := h.2 hn
    exact ⟨b, o, e, hb, fun i hi => (hk _ hb).trans (hc i hi)⟩⟩
theorem Cel.below (h : Cel w B A n xs) (hb : Below B w w') : Cel w' B A n xs := h.keep fun _ hp => hb.cell hp
theorem Cel.more (h : Cel w B A n xs) (hB : B ≤ B') : Cel w B' A n xs :=
  ⟨h.1, fun hn => by
    obtain ⟨b, o, e, hb, hc⟩ := h.2 hn
    exact ⟨b, o, e, by omega, hc⟩⟩
theorem Cel.on (h : Cel w w.heap.size A n xs) (hb : Below w.heap.size w w') : Cel w' w'.heap.size A n xs := (h.below hb).more hb.size
theorem Cel.upto {k : Nat} (h : Cel w B A n xs) (hk : k ≤ n) : Cel w B A k (xs.take k) :=
  ⟨by rw [List.length_take, h.1]; omega, fun h0 => by
    obtain ⟨b, o, e, hb, hc⟩ := h.2 (by omega)
    exact ⟨b, o, e, hb, fun i hi => by rw [List.getElem?_take_of_lt hi]; exact hc i (by omega)⟩⟩
theorem Cel.from_ {l c : Nat} (h : Cel w B A n xs) (hl : l ≤ n) (hc : n ≤ c) : Cel w B (cutAt A c l) (n - l) (xs.drop l) :=
  ⟨by rw [List.length_drop, h.1], fun h0 => by
    obtain ⟨b, o, e, hb, hcc⟩ := h.2 (by omega)
    subst e
    have e : cutAt (some ⟨b, o, none⟩) c l = some ⟨b, o + l, none⟩ := by
      unfold cutAt
      rw [if_neg (by omega)]
      simp [addr_add]
    exact ⟨b, o + l, e, hb, fun i hi => by rw [List.getElem?_drop, Nat.add_assoc]; exact hcc (l + i) (by omega)⟩⟩
theorem Cel.drewN (h : Cel w B A n xs) (k : Nat) : Cel (w.drewN k) B A n xs := h
end

/-- What a call has made shows its values. -/
theorem owned_cel {w : World} {base n : Nat} {e : TypeId} {v : Value} {xs : List Value} (h : w.ownsRow base e 1 v n xs) : ∃ A c, v = .slice A n c ∧ Cel w w.heap.size A n xs ∧ n ≤ c ∧ c ≤ 9223372036854775807 ∧ (∀ b, v.ownBlock = some b → base ≤ b ∧ b < w.heap.size) := by
  obtain ⟨hl, ⟨rfl, rfl⟩ | ⟨g, cap, cur, rfl, hb, hg, hnc, hcm, hsz, htk⟩⟩ := h
  · obtain rfl : xs = [] := by simpa using hl
    exact ⟨none, 0, rfl, Cel.nil _ _ _, Nat.le_refl _, by omega, fun b h => by simp [Value.ownBlock] at h⟩
  · have hlz : xs.length = n := by simpa using hl
    have hlt := (Array.getElem?_eq_some_iff.1 hg).1
    refine ⟨_, cap, rfl, ⟨hlz, fun hn => ⟨g, 0, rfl, hlt, fun i hi => ?_⟩⟩, hnc, hcm, fun b h => ?_⟩
    · have h1 : xs[i]? = cur[i]? := by
        rw [← htk, List.getElem?_take_of_lt (by omega), Array.getElem?_toList]
      rw [Nat.zero_add, h1]
      simp [World.cell?, hg]
    · simp [Value.ownBlock] at h
      omega

/-- A row of the call's own has become another one. -/
def GrewC (e : TypeId) (w w' : World) (B : Nat) (v v' : Value) (xs : List Value) : Prop := w'.ownsRow B e 1 v' xs.length xs ∧ w.grownBy w' v.ownBlock ∧ (v'.ownBlock = v.ownBlock ∨ v'.ownBlock = some w.heap.size)

/-- append onto a row of the call's own of what a slice shows. -/
theorem app_cel {t e : TypeId} {i0 : TypeInfo} {z : Value} {bytes : Nat} (ht : Try.prog.underlying t = some (.slice e)) (hi : Try.prog.info? e = some i0) (hz : i0.zero = some z) (hs1 : i0.size = 1) (hby : i0.bytes = bytes) (hzs : z.cells.size = 1)
    {w : World} {B B' : Nat} {v : Value} {xs ys : List Value} {A : Option Addr} {m : Nat} (c : Nat) (h : w.ownsRow B e 1 v xs.length xs) (hs : Cel w B' A m ys) (h1 : ∀ u ∈ ys, u.oneCell' = true)
    (hbig : (xs.length + ys.length) * bytes ≤ 140737488355328) (hlen : xs.length + ys.length ≤ 140737488355328) (hB : B ≤ w.heap.size) (ty : TypeId) :
    ∃ v' w', (Builtin.append_ #[t, t] ty #[v, .slice A m c]).run Try.prog w = .ok v' w' ∧ GrewC e w w' B v v' (xs ++ ys) := by
  have hm : ys.length = m := hs.1
  rcases Nat.eq_zero_or_pos m with h0 | h0
  · obtain rfl : ys = [] := List.eq_nil_of_length_eq_zero (hm.trans h0)
    subst h0
    rcases A with _ | ad
    · refine ⟨v, w, ?_, by simpa using h, World.grownBy.refl w _, .inl rfl⟩
      rcases h.2 with ⟨rfl, _⟩ | ⟨g, cap, cur, rfl, _, _, hnc, _⟩
      · simp [Builtin.append_, run_underlying ht, sizeOf, typeInfo, hi, Builtin.lenOf, Builtin.firstCells]
      · simp [Builtin.append_, run_underlying ht, sizeOf, typeInfo, hi, Builtin.lenOf, Builtin.firstCells, hnc, storeCells]
    · obtain ⟨v', w', r1, r2, r3, _, r5⟩ := run_append_own_at (P := Try.prog) w B t ty e i0 z 1 bytes ht hi hz hs1 hby hzs (by omega) v _ xs h ad 0 c [] rfl (by simp) (by simp) (by unfold maxLen; simp at hlen; omega) (by simpa using hbig) hB
      exact ⟨v', w', r1, by simpa using r2, r3, r5⟩
  · obtain ⟨b, o, rfl, _, hc⟩ := hs.at_ h0
    obtain ⟨v', w', r1, r2, r3, _, r5⟩ := run_append_own_at (P := Try.prog) w B t ty e i0 z 1 bytes ht hi hz hs1 hby hzs (by omega) v _ xs h ⟨b, o, none⟩ m c ys (by rw [hm, Nat.mul_one])
      (fun j u hu => by
        have hj : j < m := by
          rw [← hm]
          rcases Nat.lt_or_ge j ys.length with h | h
          · exact h
          · rw [List.getElem?_eq_none h] at hu; cases hu
        rw [addr_add, hc j hj]; exact hu) h1 (by unfold maxLen; omega) (by rw [← hm]; exact hbig) hB
    exact ⟨v', w', r1, by rw [GrewC, List.length_append, hm]; exact ⟨r2, r3, r5⟩⟩
theorem GrewC.below {e : TypeId} {w w' W0 : World} {B : Nat} {v v' : Value} {xs ys : List Value} (h : GrewC e w w' B v v' ys) (hv : w.ownsRow B e 1 v xs.length xs) (h0 : Below B W0 w) (hB : B ≤ w.heap.size) : Below B W0 w' :=
  h0.grown h.2.1 hB (fun q hq => (hv.lt q hq).1)

theorem info_int : (Try.prog.info? 3).map (fun i => (i.zero, i.size, i.bytes)) = some (some (.int .i64 0), 1, 8) := by kernel_rfl
theorem info_ints : (Try.prog.info? 44).map (fun i => (i.zero, i.size, i.bytes)) = some (some (.slice none 0 0), 1, 24) := by kernel_rfl
theorem info_any {t : TypeId} {z : Value} {s b : Nat} (h : (Try.prog.info? t).map (fun i => (i.zero, i.size, i.bytes)) = some (some z, s, b)) : ∃ i0, Try.prog.info? t = some i0 ∧ i0.zero = some z ∧ i0.size = s ∧ i0.bytes = b := by
  obtain ⟨i, hi, he⟩ := Option.map_eq_some_iff.1 h
  simp only [Prod.mk.injEq] at he
  exact ⟨i, hi, he.1, he.2.1, he.2.2⟩

/-- The numbers of a place, as cells. -/
abbrev ints (p : List Nat) : List Value := p.map fun k : Nat => Value.int .i64 (k : Int)
theorem ints_one (p : List Nat) : ∀ u ∈ ints p, u.oneCell' = true := by
  intro u hu
  obtain ⟨k, _, rfl⟩ := List.mem_map.1 hu
  rfl
theorem app_ints {w : World} {B B' : Nat} {v : Value} {xs ys : List Nat} {A : Option Addr} {m : Nat} (c : Nat) (h : w.ownsRow B 3 1 v xs.length (ints xs)) (hs : Cel w B' A m (ints ys)) (hbig : xs.length + ys.length ≤ 17592186044416) (hB : B ≤ w.heap.size) (ty : TypeId) :
    ∃ v' w', (Builtin.append_ #[44, 44] ty #[v, .slice A m c]).run Try.prog w = .ok v' w' ∧ GrewC 3 w w' B v v' (ints (xs ++ ys)) := by
  obtain ⟨i0, hi, hz, hs1, hb⟩ := info_any info_int
  have h' : w.ownsRow B 3 1 v (ints xs).length (ints xs) := by rw [List.length_map]; exact h
  obtain ⟨v', w', h1, h2⟩ := app_cel Try.underlying44 hi hz hs1 hb rfl c h' hs (ints_one ys) (by simp only [List.length_map]; omega) (by simp only [List.length_map]; omega) hB ty
  exact ⟨v', w', h1, by rw [← List.map_append] at h2; exact h2⟩

/-! ### Lists of places -/
/-- The slice v shows the place p, in a block from lo on and below hi that is not the one named. -/
def PlV (w : World) (lo hi : Nat) (own : Option Nat) (v : Value) (p : List Nat) : Prop :=
  ∃ A c, v = .slice A p.length c ∧ Cel w hi A p.length (ints p) ∧ p.length ≤ c ∧ c ≤ 9223372036854775807 ∧ (0 < p.length → ∀ b o, A = some ⟨b, o, none⟩ → lo ≤ b ∧ own ≠ some b)
/-- Pair by pair. -/
inductive Two {α β : Type} (r : α → β → Prop) : List α → List β → Prop
  | nil : Two r [] []
  | cons {a : α} {b : β} {l : List α} {m : List β} (h : r a b) (t : Two r l m) : Two r (a :: l) (b :: m)
section
variable {α β : Type} {r s : α → β → Prop}
theorem Two.len : ∀ {l : List α} {m : List β}, Two r l m → l.length = m.length
  | _, _, .nil => rfl
  | _, _, .cons _ t => by simp [t.len]
theorem Two.mono (h : ∀ a b, r a b → s a b) : ∀ {l : List α} {m : List β}, Two r l m → Two s l m
  | _, _, .nil => .nil
  | _, _, .cons a t => .cons (h _ _ a) (t.mono h)
theorem Two.app : ∀ {l l' : List α} {m m' : List β}, Two r l m → Two r l' m' → Two r (l ++ l') (m ++ m')
  | _, _, _, _, .nil, h => h
  | _, _, _, _, .cons a t, h => .cons a (t.app h)
theorem Two.get : ∀ {l : List α} {m : List β}, Two r l m → ∀ (i : Nat) (h1 : i < l.length) (h2 : i < m.length), r l[i] m[i]
  | _, _, .nil, i, h1, _ => absurd h1 (by simp)
  | _, _, .cons a t, 0, _, _ => a
  | _, _, .cons a t, i + 1, h1, h2 => by simpa using t.get i (by simpa using h1) (by simpa using h2)
end
theorem PlV.keep {w w' : World} {lo hi hi' : Nat} {own own' : Option Nat} {v : Value} {p : List Nat} (h : PlV w lo hi own v p) (hh : hi ≤ hi') (hk : ∀ a : Addr, a.block < hi → own ≠ some a.block → w'.cell? a = w.cell? a) (ho : ∀ b, b < hi → own ≠ some b → own' ≠ some b) : PlV w' lo hi' own' v p := by
  obtain ⟨A, c, e, hc, h1, h2, h3⟩ := h
  refine ⟨A, c, e, ⟨hc.1, fun h0 => ?_⟩, h1, h2, fun h0 b o e => ?_⟩
  · obtain ⟨b, o, e, hb, hcc⟩ := hc.2 h0
    obtain ⟨_, hne⟩ := h3 h0 b o e
    exact ⟨b, o, e, by omega, fun i hi => (hk _ hb hne).trans (hcc i hi)⟩
  · obtain ⟨h4, h5⟩ := h3 h0 b o e
    obtain ⟨b', o', e', hb, _⟩ := hc.2 h0
    rw [e] at e'
    simp only [Option.some.injEq, Addr.mk.injEq] at e'
    exact ⟨h4, ho b (by omega) h5⟩
/-- A row of places that a call has made. -/
structure PlRow (w : World) (lo : Nat) (v : Value) (ps : List (List Nat)) : Prop where
  row : ∃ vs, w.ownsRow lo 44 1 v ps.length vs ∧ Two (PlV w lo w.heap.size v.ownBlock) vs ps
end Go.Proofs.Ytbblgkidgecdpaa

/-! Layer 3: which property, or which node right below, has a name. -/
namespace Go.Proofs.Ytbblgkidgecdpaa
open Go.RowKit
set_option linter.unusedVariables false
set_option linter.unusedSimpArgs false

set_option maxHeartbeats 1000000 in
theorem reffind_any (n : Nd) (s : ByteArray) (w : World) (hin : n.In w w.heap.size) (r : Int) (hr : r = idxOf (n.props.map PV.name) s) :
    Calls Try.prog 24 #[n.val, .string s] w fun e w' => e = .returned (.int .i64 r) ∧ Below w.heap.size w w' := by
  obtain ⟨nm, pa, pc, ps, ka, kc, ks⟩ := n
  have HI := Lib.hid hin
  have HR := Lib.hid hr
  obtain ⟨hl, hm⟩ : ps.length ≤ pc ∧ pc ≤ 9223372036854775807 := hin.plen
  have HM := Lib.hid (show (ps.map PV.name).length = ps.length from List.length_map _)
  clear hin hr
  show Calls _ _ #[.agg #[.string nm, .slice pa ps.length pc, .slice ka ks.length kc], .string s] _ _
  go_enter Try.func24, Try.ntmps24
  go_wp2_with fail
  go_loop [9] (fun i => ∃ k : Nat, k ≤ ps.length ∧ i = .int .i64 k ∧ Missed (ps.map PV.name) s k) (fun i => ps.length - (intOf i).toNat)
  case atStart => exact ⟨0, Nat.zero_le _, rfl, Missed.zero _ _⟩
  case round =>
    obtain ⟨k, hk, rfl, hmiss⟩ := hrel
    have HA := Lib.hid hmiss
    clear hmiss
    by_cases hlt : k < ps.length
    · have HB := Lib.hid ((Below.refl w.heap.size w).alloc (Nat.le_refl _) (.cells #[Value.string nm, .slice pa ps.length pc, .slice ka ks.length kc] 25))
      obtain ⟨b, o, e, hb, c0, c1⟩ := (HI.out.under HB.out).pcell (i := k) hlt
      obtain rfl : pa = _ := e
      replace c0 : _ = some (Value.string ps[k].name) := c0
      clear c1
      have hxm : Hid ((ps.map PV.name)[k]'(by rw [HM.out]; exact hlt) = ps[k].name) := List.getElem_map _
      obtain ⟨x, hx⟩ : ∃ x, x = ps[k].name := ⟨_, rfl⟩
      rw [← hx] at c0 hxm
      clear hx
      by_cases hxs : x = s
      · subst hxs
        obtain rfl : r = k := by rw [HR.out]; exact HA.out.hit _ hxm.out
        go_wp2
        go_ret
        exact ⟨rfl, HB.out⟩
      · have hne := str_ne hxs
        have HF := Lib.hid (HA.out.succ (by rw [HM.out]; exact hlt) (by rw [hxm.out]; exact hxs))
        clear hxs
        go_wp2
        go_round
        case rel => exact ⟨k + 1, by omega, by go_num, HF⟩
        case measure => simp [intOf]; omega
    · obtain rfl : r = -1 := by rw [HR.out]; exact HA.out.all (by rw [HM.out]; exact hlt)
      go_wp2
      go_ret
      exact ⟨rfl, (Below.refl _ _).alloc (Nat.le_refl _) _⟩
end Go.Proofs.Ytbblgkidgecdpaa

/-! What a value says: cells, a text, texts, the one cell of a property: the document's answers. -/
namespace Go.Proofs.Ytbblgkidgecdpaa
open Go.RowKit
set_option linter.unusedVariables false
set_option linter.unusedSimpArgs false

theorem info_u32 : (Try.prog.info? 28).map (fun i => (i.zero, i.size, i.bytes)) = some (some (.int .u32 0), 1, 4) := by kernel_rfl
theorem info_str : (Try.prog.info? 9).map (fun i => (i.zero, i.size, i.bytes)) = some (some (.string ⟨#[]⟩), 1, 16) := by kernel_rfl

/-- append of one value, laid by the call itself. -/
theorem app_lit {t e : TypeId} {i0 : TypeInfo} {z : Value} {bytes : Nat} (ht : Try.prog.underlying t = some (.slice e)) (hi : Try.prog.info? e = some i0) (hz : i0.zero = some z) (hs1 : i0.size = 1) (hby : i0.bytes = bytes) (hzs : z.cells.size = 1)
    {w : World} {B n : Nat} {v : Value} {xs : List Value} (h : w.ownsRow B e 1 v n xs) (x : Value) (hx : x.oneCell' = true) (hbig : (n + 1) * bytes ≤ 140737488355328) (hlen : n + 1 ≤ 140737488355328) (hB : B ≤ w.heap.size) (ty : TypeId) :
    ∃ A' c' w', (Builtin.append_ #[t, t] ty #[v, .slice (some ⟨w.heap.size, 0, none⟩) 1 1]).run Try.prog (w.alloc (.cells #[x] e)) = .ok (.slice A' (n + 1) c') w' ∧ w'.ownsRow B e 1 (.slice A' (n + 1) c') (n + 1) (xs ++ [x]) ∧ Below B w w' := by
  have hl : xs.length = n := by have := h.1; omega
  have h1 : (w.alloc (.cells #[x] e)).ownsRow B e 1 v xs.length xs := by rw [hl]; exact h.alloc _
  have hc : Cel (w.alloc (.cells #[x] e)) (w.heap.size + 1) (some ⟨w.heap.size, 0, none⟩) 1 [x] := ⟨rfl, fun _ => ⟨w.heap.size, 0, rfl, Nat.lt_succ_self _, fun i hi => by
    obtain rfl : i = 0 := by omega
    exact World.cell?_alloc_new _ _ _ _⟩⟩
  obtain ⟨v', w', r, g1, g2, g3⟩ := app_cel ht hi hz hs1 hby hzs 1 h1 hc (fun u hu => by rw [List.mem_singleton.1 hu]; exact hx) (by rw [hl]; simpa using hbig) (by rw [hl]; simpa using hlen) (by simp; omega) ty
  rw [List.length_append, hl] at g1
  have g1' : w'.ownsRow B e 1 v' (n + 1) (xs ++ [x]) := g1
  obtain ⟨A', c', rfl, _⟩ := owned_cel g1'
  exact ⟨A', c', w', r, g1', ((Below.refl B w).alloc hB (.cells #[x] e)).grown g2 (by simp; omega) (fun q hq => (h1.lt q hq).1)⟩

/-- The cells of a value. -/
def cellV (zs : List Int) (i : Nat) : Value := .int .u32 (numTo zs (4 * i) 4)
def cellRow (zs : List Int) (k : Nat) : List Value := (List.range k).map (cellV zs)
theorem cellRow_next (zs : List Int) (k : Nat) : cellRow zs (k + 1) = cellRow zs k ++ [cellV zs k] := by
  unfold cellRow; rw [List.range_succ, List.map_append]; rfl
def CellsOut (w w' : World) (n : Nat) (zs : List Int) (e : Ending) : Prop :=
  (n % 4 ≠ 0 → e = .returned (.tuple #[.slice none 0 0, .int .i64 4])) ∧ (n % 4 = 0 → ∃ A c, e = .returned (.tuple #[.slice A (n / 4) c, .int .i64 0]) ∧ w'.ownsRow w.heap.size 28 1 (.slice A (n / 4) c) (n / 4) (cellRow zs (n / 4)))

theorem numTo_u32 {w : World} {B n : Nat} {A : Option Addr} {zs : List Int} (hs : Shows w B A n zs) (a : Nat) : 0 ≤ numTo zs a 4 ∧ numTo zs a 4 ≤ 4294967295 := by
  have h := numTo_bound zs a hs.byte 4
  have e : (256 : Int) ^ 4 = 4294967296 := by decide
  omega

set_option maxRecDepth 20000 in
set_option maxHeartbeats 4000000 in
theorem refcells_any (A : Option Addr) (n c : Nat) (zs : List Int) (w : World) (hs : Shows w w.heap.size A n zs) (hn : n ≤ 140737488351232) (hnc : n ≤ c) (hc : c ≤ 9223372036854775807) :
    Calls Try.prog 57 #[.slice A n c] w fun e w' => CellsOut w w' n zs e ∧ Below w.heap.size w w' := by
  have HS := Lib.hid hs
  have HC := Lib.hid (And.intro hnc hc)
  clear hs hnc hc
  by_cases h4 : n % 4 = 0
  · have q1 : (((n : Int) % 4) != 0) = false := by rw [bne_eq_false_iff_eq]; omega
    have H4 := Lib.hid h4
    have info := info_any info_u32
    clear h4
    go_enter Try.func57, Try.ntmps57
    go_wp2_with fail
    go_loopw [4, 5] (fun out i wr => ∃ k a : Nat, Hid (a = 4 * k ∧ a ≤ n) ∧ i = .int .i64 a ∧ (∃ Ao co, out = .slice Ao k co ∧ wr.ownsRow w.heap.size 28 1 (.slice Ao k co) k (cellRow zs k)) ∧ Below w.heap.size w wr) (fun _ i _ => n - (intOf i).toNat)
    case atStart => exact ⟨0, 0, Lib.hid ⟨rfl, Nat.zero_le _⟩, rfl, ⟨none, 0, rfl, World.ownsRow_nil _ _ _ _⟩, Below.refl _ _⟩
    case round =>
      obtain ⟨k, a, HA, rfl, ⟨Ao, co, rfl, hown⟩, hb⟩ := hrel
      have HB := Lib.hid hb
      have HO := Lib.hid hown
      by_cases hlt : a < n
      · have ha4 : a + 4 ≤ n := by have := HA.out; have := H4.out; omega
        have CN := Lib.hid (number_yes A n c 4 a zs wr w.heap.size (HS.out.below hb) ha4 (by omega) (by omega) (by omega))
        have hnum := numTo_u32 HS.out a
        obtain ⟨x, hx⟩ : ∃ x, numTo zs a 4 = x := ⟨_, rfl⟩
        rw [hx] at CN hnum
        have HX : Hid (cellV zs k = .int .u32 x) := Lib.hid (by rw [← hx, cellV, ← HA.out.1])
        have hcv : IntKind.u32.wrap x = x := IntWalk.u32_in _ hnum
        obtain ⟨i0, hi, hz, hs1, hby⟩ := info
        obtain ⟨A', c', w', r, g1, g2⟩ := app_lit Try.underlying70 hi hz hs1 hby rfl hown (.int .u32 x) rfl (by have := HA.out; omega) (by have := HA.out; omega) hb.size 70
        have HR := Lib.hid (And.intro g1 (hb.trans g2))
        clear hx hi hz hs1 hby g1 g2 hown hb
        go_wp2_with fail
        refine CN.out.mono ?_
        rintro e w2 ⟨rfl, rfl⟩
        go_wp2_with (at_builtin; refine Lib.wpList_append_run_sl _ rfl _ _ _ rfl _ _ rfl rfl r ?_)
        go_roundw
        case rel => exact ⟨k + 1, a + 4, Lib.hid ⟨by have := HA.out; omega, ha4⟩, by go_num, ⟨A', c', rfl, by rw [cellRow_next, HX.out]; exact HR.out.1⟩, HR.out.2⟩
        case measure => simp [intOf]; omega
      · have HE : Hid (k = n / 4) := Lib.hid (by have := HA.out; omega)
        clear hown hb
        go_wp2
        go_ret2
        exact ⟨⟨fun h => absurd H4.out h, fun _ => ⟨Ao, co, by rw [← HE.out]; rfl, by rw [← HE.out]; exact HO.out⟩⟩, HB.out⟩
  · have q1 : (((n : Int) % 4) != 0) = true := by rw [bne_iff_ne]; omega
    have H4 := Lib.hid h4
    clear h4
    go_enter Try.func57, Try.ntmps57
    go_wp2
    go_ret2
    exact ⟨⟨fun _ => rfl, fun h => absurd h H4.out⟩, Below.refl _ _⟩

/-- The text that a value is. -/
noncomputable def textV (zs : List Int) : Option (List Int) := match textFrom zs 0 with
  | none => none
  | some s => if s.length + 1 = zs.length then some s else none
def TextVOut (e : Ending) (o : Option (List Int)) : Prop := e = .returned (.tuple (match o with | none => #[.string ⟨#[]⟩, .int .i64 4] | some s => #[.string (strOfNums s), .int .i64 0]))
theorem strOf_size6 (s : List Int) : (strOfNums s).size = s.length := by
  show (strOfNums s).data.toList.length = s.length
  rw [strOfNums_data, List.length_map]

/-! ### Texts -/
noncomputable def textsGo (zs : List Int) : Nat → Nat → List (List Int)
  | 0, _ => []
  | f + 1, a => if a < zs.length then (match textFrom zs a with | none => [] | some s => s :: textsGo zs f (a + s.length + 1)) else []
/-- The texts that a value is. -/
noncomputable def textsV (zs : List Int) : Option (List (List Int)) := if 0 < zs.length ∧ zs.getD (zs.length - 1) 0 ≠ 0 then none else some (textsGo zs zs.length 0)
abbrev strRow (l : List (List Int)) : List Value := l.map fun s => Value.string (strOfNums s)
def TextsOut (w w' : World) (zs : List Int) (e : Ending) : Prop :=
  (textsV zs = none → e = .returned (.tuple #[.slice none 0 0, .int .i64 4])) ∧ (∀ l, textsV zs = some l → ∃ A c, e = .returned (.tuple #[.slice A l.length c, .int .i64 0]) ∧ w'.ownsRow w.heap.size 9 1 (.slice A l.length c) l.length (strRow l))
theorem text_there {zs : List Int} {a : Nat} (h : zs.getD (zs.length - 1) 0 = 0) (ha : a < zs.length) : ∃ s, textFrom zs a = some s := by
  rw [textFrom, if_pos]
  · exact ⟨_, rfl⟩
  · refine List.mem_of_getElem? (i := zs.length - 1 - a) ?_
    rw [List.getElem?_drop, show a + (zs.length - 1 - a) = zs.length - 1 by omega, List.getElem?_eq_getElem (by omega)]
    simp only [List.getD, List.getElem?_eq_getElem (show zs.length - 1 < zs.length by omega), Option.getD_some] at h
    rw [h]

end Go.Proofs.Ytbblgkidgecdpaa

/-! The document's blob, a node's first statement, whose operations come in several orders: what is known while some of them have come. -/
namespace Go.Proofs.Ytbblgkidgecdpaa
open Go.RowKit
set_option linter.unusedVariables false
set_option linter.unusedSimpArgs false

/-- A text's bytes. -/
def strB (s : ByteArray) : List Int := s.data.toList.map fun b => (b.toNat : Int)
theorem strB_length (s : ByteArray) : (strB s).length = s.size := by simp [strB]
theorem strB_byte (s : ByteArray) : ∀ z ∈ strB s, 0 ≤ z ∧ z < 256 := by
  intro z hz
  obtain ⟨b, _, rfl⟩ := List.mem_map.1 hz
  have := b.toNat_lt
  omega

/-- An empty row that the call has made. -/
def EmptyRow (W : World) (B : Nat) (u : Value) : Prop := ∃ g, u = .slice (some ⟨g, 0, none⟩) 0 0 ∧ W.ownsRow B 5 1 u 0 []
/-- The row that []byte(s) has made: it bears a mark. -/
def MarkRow (W : World) (B : Nat) (s : ByteArray) (u : Value) : Prop :=
  ∃ g cap cs, u = .slice (some ⟨g, 0, none⟩) s.size cap ∧ B ≤ g ∧ W.heap[g]? = some (.cells cs 5 (cs.size, cs.size + 1)) ∧ cs.size = cap ∧ s.size ≤ cap ∧ cap ≤ 9223372036854775807 ∧ cs.toList.take s.size = u8s (strB s)
/-- A small row, by its bytes. -/
def SmallRow (W : World) (n : Nat) (zs : List Int) (u : Value) : Prop := ∃ g, u = .slice (some ⟨g, 0, none⟩) n n ∧ Shows W W.heap.size (some ⟨g, 0, none⟩) n zs

section
variable {W W' : World} {B : Nat} {u : Value} {s : ByteArray} {n : Nat} {zs : List Int}
theorem EmptyRow.on (h : EmptyRow W B u) (hb : Below W.heap.size W W') : EmptyRow W' B u := by
  obtain ⟨g, rfl, h⟩ := h
  exact ⟨g, rfl, own_on h hb⟩
theorem MarkRow.on (h : MarkRow W B s u) (hb : Below W.heap.size W W') : MarkRow W' B s u := by
  obtain ⟨g, cap, cs, h1, h2, h3, h4⟩ := h
  exact ⟨g, cap, cs, h1, h2, (hb.block g (Array.getElem?_eq_some_iff.1 h3).1).trans h3, h4⟩
theorem SmallRow.on (h : SmallRow W n zs u) (hb : Below W.heap.size W W') : SmallRow W' n zs u := by
  obtain ⟨g, h1, h2⟩ := h
  exact ⟨g, h1, (h2.below hb).more hb.size⟩
theorem SmallRow.new (W : World) (zs : List Int) (n : Nat) (cs : Array Value) (hn : zs.length = n) (hz : ∀ z ∈ zs, 0 ≤ z ∧ z < 256) (hcs : cs = (u8s zs).toArray) (t : TypeId) : SmallRow (W.alloc (.cells cs t)) n zs (.slice (some ⟨W.heap.size, 0, none⟩) n n) :=
  ⟨_, rfl, (shows_lit W zs n cs hn hz hcs t).more (by simp)⟩
theorem EmptyRow.new (W : World) (hB : B ≤ W.heap.size) : EmptyRow (W.alloc (.cells #[] 5)) B (.slice (some ⟨W.heap.size, 0, none⟩) 0 0) :=
  ⟨_, rfl, World.ownsRow_made W #[] 0 hB (Nat.zero_le _) rfl⟩
end

/-- append onto an empty row: a new one. -/
theorem run_append_empty (W : World) (B : Nat) (u : Value) (h : EmptyRow W B u) (hB : B ≤ W.heap.size) (n : Nat) (zs : List Int) (x : Value) (hx : SmallRow W n zs x) (h0 : 0 < n) (hn : n ≤ 100) (ty : TypeId) :
    ∃ v' W', (Builtin.append_ #[65, 65] ty #[u, x]).run Try.prog W = .ok v' W' ∧ W'.ownsRow B 5 1 v' n (u8s zs) ∧ Below W.heap.size W W' := by
  obtain ⟨i0, hi0, hz0, hz1, hz2⟩ := info_parts info_u8
  obtain ⟨g, rfl, hown⟩ := h
  obtain ⟨g2, rfl, hsh⟩ := hx
  obtain ⟨b, o, e, _, hc⟩ := hsh.at_ h0
  obtain ⟨rfl, rfl⟩ : b = g2 ∧ o = 0 := by injection e with e; injection e with e1 e2; exact ⟨e1.symm, e2.symm⟩
  have hl := hsh.1
  have hr := run_append_grow (P := Try.prog) W 65 ty 5 i0 (.int .u8 0) Try.underlying65 hi0 hz0 ⟨g, 0, none⟩ 0 0 [] (by simp) (by simp) ⟨b, 0, none⟩ n n (u8s zs) (by simp [hz1, hl])
    (fun j u hu => by
      rw [List.getElem?_map] at hu
      have hj : j < zs.length := by
        rcases Nat.lt_or_ge j zs.length with h | h
        · exact h
        · rw [List.getElem?_eq_none h] at hu; cases hu
      rw [List.getElem?_eq_getElem hj] at hu
      have := hc j (by omega)
      rw [Nat.zero_add] at this
      rw [addr_add, Nat.zero_add, this, ← Option.some.inj hu]
      simp [List.getD, List.getElem?_eq_getElem hj]) (by omega) (by omega) (by rw [hz2]; exact growslice_fits (by omega) (by omega))
  have hge := grownCap_ge W (0 + n) 0 5
  have hcm : grownCap W (0 + n) 0 5 ≤ maxLen := grownCap_le_maxLen W (0 + n) 0 5 (by unfold maxLen; omega)
  refine ⟨_, _, hr, ?_, (Below.refl _ W).drew.alloc (by simp) _⟩
  rw [Nat.zero_add] at hge hcm ⊢
  refine ⟨by simp [hl], .inr ⟨W.heap.size, _, _, rfl, hB, heap_alloc_new W.drew _, hge, hcm, ?_, ?_⟩⟩
  · have hz1' : (Value.int IntKind.u8 0).cells.size = 1 := rfl
    simp only [Array.size_append, List.size_toArray, size_zeroCells, hz1', List.length_nil, List.length_map, hl]
    omega
  · simp [hl]

/-- []byte(s). -/
theorem run_bytes_marked (W : World) (B : Nat) (hB : B ≤ W.heap.size) (s : ByteArray) (hs : s.size ≤ 140737488351232) :
    ∃ v' W', (convert 9 65 (.string s)).run Try.prog W = .ok v' W' ∧ MarkRow W' B s v' ∧ Below W.heap.size W W' := by
  have hge := grownCap_ge W s.size 0 5
  have hcm : grownCap W s.size 0 5 ≤ maxLen := grownCap_le_maxLen W s.size 0 5 (by unfold maxLen; omega)
  have hsz : (Lib.bytesCells W 5 s).size = grownCap W s.size 0 5 := by
    simp only [Lib.bytesCells, Array.size_append, Array.size_map, Array.size_replicate]
    have : s.data.size = s.size := rfl
    omega
  refine ⟨_, _, Lib.run_convert_string_bytes W _ _ 5 s Try.underlying9 Try.underlying65 Try.underlying5, ⟨_, _, _, rfl, hB, Lib.bytesWorld_at_new W _ s, hsz, hge, hcm, ?_⟩, ⟨rfl, rfl, rfl, by rw [Lib.bytesWorld_size]; omega, fun i hi => Lib.bytesWorld_at_old W _ s i hi⟩⟩
  have hl : s.data.toList.length = s.size := by simp
  rw [← hl]
  simp only [Lib.bytesCells, Array.toList_append, Array.toList_map, u8s, strB, List.map_map]
  rw [List.take_append_of_le_length (by simp), List.take_of_length_le (by simp)]
  rfl

/-- append of one nought onto the row that []byte(s) has made. -/
theorem own_ne {W : World} {B n : Nat} {v : Value} {xs : List Value} {g : Nat} (h : W.ownsRow B 5 1 v n xs) (hg : ∀ cur t, W.heap[g]? ≠ some (.cells cur t (0, 0))) : v.ownBlock = none ∨ v.ownBlock ≠ some g := by
  rcases h.2 with ⟨rfl, _⟩ | ⟨g', cap, cur, rfl, _, hh, _⟩
  · exact .inl rfl
  · refine .inr fun e => ?_
    have e' : g' = g := by simpa [Value.ownBlock] using e
    subst e'
    exact hg _ _ hh
theorem run_append_marked (W : World) (B : Nat) (s : ByteArray) (u : Value) (h : MarkRow W B s u) (hB : B ≤ W.heap.size) (hs : s.size ≤ 140737488351200) (x : Value) (hx : SmallRow W 1 [0] x) (ty : TypeId) :
    ∃ A c g W', (Builtin.append_ #[65, 65] ty #[u, x]).run Try.prog W = .ok (.slice A (s.size + 1) c) W' ∧ Shows W' W'.heap.size A (s.size + 1) (strB s ++ [0]) ∧ W.grownBy W' (some g) ∧ B ≤ g ∧ (∀ cur t, W.heap[g]? ≠ some (.cells cur t (0, 0))) := by
  obtain ⟨i0, hi0, hz0, hz1, hz2⟩ := info_parts info_u8
  obtain ⟨g, cap, cs, rfl, hg0, hg, hcs, hsc, hcm, htk⟩ := h
  obtain ⟨g2, rfl, hsh⟩ := hx
  obtain ⟨b, o, e, _, hc⟩ := hsh.at_ (by omega)
  obtain ⟨rfl, rfl⟩ : b = g2 ∧ o = 0 := by injection e with e; injection e with e1 e2; exact ⟨e1.symm, e2.symm⟩
  have hc0 : W.cell? ⟨b, 0, none⟩ = some (.int .u8 0) := by simpa using hc 0 (by omega)
  have hne : ∀ cur t, W.heap[g]? ≠ some (.cells cur t (0, 0)) := fun cur t e => by rw [hg] at e; injection e with e; injection e with _ _ e; injection e with _ e; omega
  have hz : ∀ z ∈ strB s ++ [0], 0 ≤ z ∧ z < 256 := fun z hz => by
    rcases List.mem_append.1 hz with h | h
    · exact strB_byte s z h
    · simp at h; subst h; omega
  have hlz : (strB s ++ [0]).length = s.size + 1 := by simp [strB_length]
  have cell : ∀ i, i < s.size → W.cell? ⟨g, i, none⟩ = some (.int .u8 ((strB s).getD i 0)) := fun i hi => by
    have e : W.cell? ⟨g, i, none⟩ = cs[i]? := by simp [World.cell?, hg]
    have h1 : (u8s (strB s))[i]? = cs[i]? := by rw [← htk, List.getElem?_take_of_lt hi, Array.getElem?_toList]
    rw [e, ← h1, List.getElem?_map]
    have hi' : i < (strB s).length := by rw [strB_length]; exact hi
    simp [List.getD, List.getElem?_eq_getElem hi']
  by_cases hroom : s.size + 1 ≤ cap
  · have hcn : W.cell? ⟨g, s.size, none⟩ = some cs[s.size] := by simp [World.cell?, hg, show s.size < cs.size by omega]
    have hfn : W.frozen? ⟨g, s.size, none⟩ = false := by
      simp only [World.frozen?, hg, Bool.and_eq_false_iff, decide_eq_false_iff_not]
      left
      omega
    have hst : (store (⟨g, s.size, none⟩ : Addr) (.int .u8 0)).run Try.prog W = .ok () (W.setCell ⟨g, s.size, none⟩ (.int .u8 0)) := by
      rw [run_store Try.prog W _ (.int .u8 0) _ rfl, hcn]
      simp [stored, hcn, hfn]
    have hfc := run_firstCells_some (P := Try.prog) W 1 1 ⟨b, 0, none⟩ 1 1 [.int .u8 0] rfl (fun j u hj => by
      match j, hj with
      | 0, hj => simp at hj; subst hj; rw [addr_add]; exact hc0)
    refine ⟨some ⟨g, 0, none⟩, cap, g, W.setCell ⟨g, s.size, none⟩ (.int .u8 0), ?_, ⟨hlz, hz, fun _ => ⟨g, 0, rfl, ?_, fun i hi => ?_⟩⟩, ?_, hg0, hne⟩
    · simp [Builtin.append_, run_underlying Try.underlying65, sizeOf, typeInfo, hi0, hz1, Builtin.lenOf, hroom, hfc, storeCells, addr_add, hst]
    · simp [World.setCell]; exact (Array.getElem?_eq_some_iff.1 hg).1
    · rw [Nat.zero_add]
      rcases Nat.lt_or_ge i s.size with h | h
      · rw [World.cell?_setCell_other _ _ _ _ (by intro e; injection e with _ e; omega), cell i h]
        have hi' : i < (strB s).length := by rw [strB_length]; exact h
        simp [List.getD, List.getElem?_append_left hi']
      · obtain rfl : i = s.size := by omega
        rw [World.cell?_setCell_same _ _ _ hcn]
        simp [List.getD, strB_length]
    · exact ⟨rfl, rfl, rfl, by simp [World.setCell], fun i hi hne' => Below.heap_setCell W ⟨g, s.size, none⟩ (.int .u8 0) i (fun e => hne' (by rw [e]))⟩
  · have hr := run_append_grow (P := Try.prog) W 65 ty 5 i0 (.int .u8 0) Try.underlying65 hi0 hz0 ⟨g, 0, none⟩ s.size cap (u8s (strB s)) (by simp [hz1, strB_length])
      (fun j u hu => by
        rw [List.getElem?_map] at hu
        have hj : j < (strB s).length := by
          rcases Nat.lt_or_ge j (strB s).length with h | h
          · exact h
          · rw [List.getElem?_eq_none h] at hu; cases hu
        rw [List.getElem?_eq_getElem hj] at hu
        have := cell j (by rw [← strB_length]; exact hj)
        rw [addr_add, Nat.zero_add, this, ← Option.some.inj hu]
        simp [List.getD, List.getElem?_eq_getElem hj])
      ⟨b, 0, none⟩ 1 1 [.int .u8 0] (by simp [hz1]) (fun j u hj => by
        match j, hj with
        | 0, hj => simp at hj; subst hj; rw [addr_add]; exact hc0) (by omega) (by omega) (by rw [hz2]; exact growslice_fits (by omega) (by omega))
    have hge := grownCap_ge W (s.size + 1) cap 5
    refine ⟨_, _, g, _, hr, ⟨hlz, hz, fun _ => ⟨W.heap.size, 0, rfl, by simp, fun i hi => ?_⟩⟩, ⟨rfl, rfl, rfl, by simp, fun i hi _ => heap_alloc_old W.drew _ hi⟩, hg0, hne⟩
    rw [Nat.zero_add, cell_of_row _ W.heap.size i _ 5 (0, 0) (heap_alloc_new W.drew _)]
    have hi' : i < (strB s ++ [0]).length := by omega
    have e : ((u8s (strB s)).toArray ++ [Value.int IntKind.u8 0].toArray) = (u8s (strB s ++ [0])).toArray := by simp
    rw [e, Array.getElem?_append_left (by simp [strB_length]; omega)]
    have e2 : (u8s (strB s ++ [0]))[i]? = some (.int .u8 ((strB s ++ [0])[i])) := by rw [List.getElem?_map, List.getElem?_eq_getElem hi']; rfl
    rw [List.getElem?_toArray, e2]
    simp [List.getD, List.getElem?_eq_getElem hi']

/-- What is known while some of a node's first operations have come: b0, b2, b3, b4, b7, b8: whether the empty row, it again, the token's row, the token appended, the name's row, the nought's row, are there. -/
structure NF (W0 W : World) (B : Nat) (nm : ByteArray) (b0 b2 b3 b4 b7 b8 : Bool) (u19 u21 u22 u23 u26 u27 : Value) : Prop where
  below : Below B W0 W
  size : B ≤ W.heap.size
  i20 : b2 = true → b0 = true
  i42 : b4 = true → b2 = true
  i43 : b4 = true → b3 = true
  f0 : b0 = true → EmptyRow W B u19
  f2 : b2 = true → EmptyRow W B u21
  f3 : b3 = true → SmallRow W 4 [0, 0, 0, 1] u22
  f4 : b4 = true → W.ownsRow B 5 1 u23 4 (u8s [0, 0, 0, 1])
  f7 : b7 = true → MarkRow W B nm u26
  f8 : b8 = true → SmallRow W 1 [0] u27

section
variable {W0 W W' : World} {B : Nat} {nm : ByteArray} {b0 b2 b3 b4 b7 b8 : Bool} {u19 u21 u22 u23 u26 u27 : Value}
theorem NF.on (h : NF W0 W B nm b0 b2 b3 b4 b7 b8 u19 u21 u22 u23 u26 u27) (hb : Below W.heap.size W W') : NF W0 W' B nm b0 b2 b3 b4 b7 b8 u19 u21 u22 u23 u26 u27 :=
  ⟨h.below.trans (hb.mono h.size), Nat.le_trans h.size hb.size, h.i20, h.i42, h.i43, fun e => (h.f0 e).on hb, fun e => (h.f2 e).on hb, fun e => (h.f3 e).on hb, fun e => own_on (h.f4 e) hb, fun e => (h.f7 e).on hb, fun e => (h.f8 e).on hb⟩
theorem NF.start (hb : Below B W0 W) (hs : B ≤ W.heap.size) : NF W0 W B nm false false false false false false u19 u21 u22 u23 u26 u27 :=
  ⟨hb, hs, (fun h => by cases h), (fun h => by cases h), (fun h => by cases h), (fun h => by cases h), (fun h => by cases h), (fun h => by cases h), (fun h => by cases h), (fun h => by cases h), (fun h => by cases h)⟩
theorem NF.op0 (h : NF W0 W B nm false b2 b3 b4 b7 b8 u19 u21 u22 u23 u26 u27) : NF W0 (W.alloc (.cells #[] 5)) B nm true b2 b3 b4 b7 b8 (.slice (some ⟨W.heap.size, 0, none⟩) 0 0) u21 u22 u23 u26 u27 := by
  have k := h.on ((Below.refl _ W).alloc (Nat.le_refl _) (.cells #[] 5))
  exact ⟨k.below, k.size, fun _ => rfl, k.i42, k.i43, fun _ => EmptyRow.new W h.size, k.f2, k.f3, k.f4, k.f7, k.f8⟩
theorem NF.op2 (h : NF W0 W B nm true false b3 b4 b7 b8 u19 u21 u22 u23 u26 u27) : NF W0 W B nm true true b3 b4 b7 b8 u19 u19 u22 u23 u26 u27 :=
  ⟨h.below, h.size, fun _ => rfl, fun _ => rfl, h.i43, h.f0, fun _ => h.f0 rfl, h.f3, h.f4, h.f7, h.f8⟩
theorem NF.op3 (h : NF W0 W B nm b0 b2 false b4 b7 b8 u19 u21 u22 u23 u26 u27) : NF W0 (W.alloc (.cells #[.int .u8 0, .int .u8 0, .int .u8 0, .int .u8 1] 5)) B nm b0 b2 true b4 b7 b8 u19 u21 (.slice (some ⟨W.heap.size, 0, none⟩) 4 4) u23 u26 u27 := by
  have k := h.on ((Below.refl _ W).alloc (Nat.le_refl _) (.cells #[.int .u8 0, .int .u8 0, .int .u8 0, .int .u8 1] 5))
  exact ⟨k.below, k.size, k.i20, k.i42, fun _ => rfl, k.f0, k.f2, fun _ => SmallRow.new W [0, 0, 0, 1] 4 _ rfl (by simp) rfl _, k.f4, k.f7, k.f8⟩
theorem NF.op4 (h : NF W0 W B nm b0 true true false b7 b8 u19 u21 u22 u23 u26 u27) (ty : TypeId) : ∃ v' W', (Builtin.append_ #[65, 65] ty #[u21, u22]).run Try.prog W = .ok v' W' ∧ NF W0 W' B nm b0 true true true b7 b8 u19 u21 u22 v' u26 u27 := by
  obtain ⟨v', W', h1, h2, h3⟩ := run_append_empty W B u21 (h.f2 rfl) h.size 4 [0, 0, 0, 1] u22 (h.f3 rfl) (by omega) (by omega) ty
  have k := h.on h3
  exact ⟨v', W', h1, k.below, k.size, k.i20, fun _ => rfl, fun _ => rfl, k.f0, k.f2, k.f3, fun _ => h2, k.f7, k.f8⟩
theorem NF.op7 (h : NF W0 W B nm b0 b2 b3 b4 false b8 u19 u21 u22 u23 u26 u27) (hs : nm.size ≤ 140737488351232) : ∃ v' W', (convert 9 65 (.string nm)).run Try.prog W = .ok v' W' ∧ NF W0 W' B nm b0 b2 b3 b4 true b8 u19 u21 u22 u23 v' u27 := by
  obtain ⟨v', W', h1, h2, h3⟩ := run_bytes_marked W B h.size nm hs
  have k := h.on h3
  exact ⟨v', W', h1, k.below, k.size, k.i20, k.i42, k.i43, k.f0, k.f2, k.f3, k.f4, fun _ => h2, k.f8⟩
theorem NF.op8 (h : NF W0 W B nm b0 b2 b3 b4 b7 false u19 u21 u22 u23 u26 u27) : NF W0 (W.alloc (.cells #[.int .u8 0] 5)) B nm b0 b2 b3 b4 b7 true u19 u21 u22 u23 u26 (.slice (some ⟨W.heap.size, 0, none⟩) 1 1) := by
  have k := h.on ((Below.refl _ W).alloc (Nat.le_refl _) (.cells #[.int .u8 0] 5))
  exact ⟨k.below, k.size, k.i20, k.i42, k.i43, k.f0, k.f2, k.f3, k.f4, k.f7, fun _ => SmallRow.new W [0] 1 _ rfl (by simp) rfl _⟩
/-- append of nil onto the empty row: the same. -/
theorem run_append_nil0 (W : World) (u : Value) (h : EmptyRow W B u) (ty : TypeId) : (Builtin.append_ #[65, 65] ty #[u, .slice none 0 0]).run Try.prog W = .ok u W := by
  obtain ⟨i0, hi0, hz0, hz1, hz2⟩ := info_parts info_u8
  obtain ⟨g, rfl, _⟩ := h
  simp [Builtin.append_, run_underlying Try.underlying65, sizeOf, typeInfo, hi0, Builtin.lenOf, Builtin.firstCells, storeCells]
end

section
variable {P : Program} {ops : Array Oper} {Q : Exit → Act → World → Prop} {S : World → Prop}
/-- Operations that come in whatever order: what is known is kept by each that may come. -/
theorem phase (I : Act → Nat → Array Bool → Act → World → Prop) {a0 : Act} : ∀ {fuel : Nat} {L : Array Bool} {a : Act} {w : World}, I a0 fuel L a w →
    (∀ n L a w, I a0 n L a w → (∀ m, m < n → ∀ L' a' w', I a0 m L' a' w' → wpAnyH P .any ops Q S m L' a' w') → wpAnyH P .any ops Q S n L a w) → wpAnyH P .any ops Q S fuel L a w := by
  intro fuel
  induction fuel using Nat.strongRecOn with
  | _ n ih =>
    intro L a w h hstep
    exact hstep n L a w h (fun m hm L' a' w' h' => ih m hm h' hstep)
theorem phase0 (I : Act → Nat → Array Bool → Act → World → Prop) {a0 : Act} {fuel : Nat} {L : Array Bool} {w : World} (h : I a0 fuel L a0 w)
    (hs : ∀ n L a w, I a0 n L a w → (∀ m, m < n → ∀ L' a' w', I a0 m L' a' w' → wpAnyH P .any ops Q S m L' a' w') → wpAnyH P .any ops Q S n L a w) : wpAnyH P .any ops Q S fuel L a0 w := phase I h hs
theorem any_step {n : Nat} {L : Array Bool} {a : Act} {w : World} (hne : Region.ready .any ops L ≠ []) (h : ∀ i ∈ Region.ready .any ops L, wpOp P ops Q i (fun a' w' => S w' ∧ wpAnyH P .any ops Q S n (L.setIfInBounds i true) a' w') a w) : wpAnyH P .any ops Q S (n + 1) L a w :=
  ⟨fun h0 => absurd h0 hne, h⟩
/-- One operation, by its number. -/
theorem one_op {l : List Oper} {n i : Nat} {o : Oper} {L : Array Bool} {a : Act} {w : World} (ho : l[i]? = some o) (hg : Region.wanted o (yielded l.toArray a.tmps) = true)
    (h : ∀ K : Act → World → Prop, Shut (∀ a w, S w → (S w → wpAnyH P .any l.toArray Q S n (L.setIfInBounds i true) a w) → K a w) → Oper.wp P o a w K Q) : wpOp P l.toArray Q i (fun a' w' => S w' ∧ wpAnyH P .any l.toArray Q S n (L.setIfInBounds i true) a' w') a w :=
  AllReadyH.cons (by simpa using ho) (fun K hK => by rw [if_pos hg]; exact h K hK) AllReadyH.nil i (List.mem_singleton.2 rfl)
/-- What an operation that is ready waits for has come. -/
theorem came {l : List Oper} {i j : Nat} {o : Oper} {L : Array Bool} {g : Ground} (ho : l[i]? = some o) (hi : i ∈ Region.ready .any l.toArray L) (he : { on := j, ground := g } ∈ o.after) (hb : Region.binds .any { on := j, ground := g } = true) : L.getD j false = true := by
  obtain ⟨_, o', ho', h⟩ := mem_ready.1 hi
  rw [List.getElem?_toArray, ho] at ho'
  injection ho' with e
  subst e
  exact h _ he hb
theorem not_come {i : Nat} {L : Array Bool} (hi : i ∈ Region.ready .any ops L) : L.getD i true = false := (mem_ready.1 hi).1
theorem ready_ne {l : List Nat} (h : l.isEmpty = false) : l ≠ [] := by
  rintro rfl
  cases h
theorem ready_lt {i : Nat} {L : Array Bool} (hi : i ∈ Region.ready .any ops L) : i < ops.size := by
  obtain ⟨_, o, ho, _⟩ := mem_ready.1 hi
  exact (Array.getElem?_eq_some_iff.1 ho).1
end

/-- A frame in which six temporaries have come. -/
def Six (a : Act) (u19 u21 u22 u23 u26 u27 : Value) : Act := (((((a.put (some 19) u19).put (some 21) u21).put (some 22) u22).put (some 23) u23).put (some 26) u26).put (some 27) u27
section
variable (a : Act) (u19 u21 u22 u23 u26 u27 v : Value)
theorem put_put (t : Nat) (x : Value) : (a.put (some t) x).put (some t) v = a.put (some t) v := by simp [Act.put]
theorem put_swap (t t' : Nat) (x : Value) (h : t ≠ t') : (a.put (some t) x).put (some t') v = (a.put (some t') v).put (some t) x :=
  Act.put_comm a x v (fun d e e' => by injection e with e; injection e' with e'; exact h (e.trans e'.symm))
theorem six19 : (Six a u19 u21 u22 u23 u26 u27).put (some 19) v = Six a v u21 u22 u23 u26 u27 := by
  unfold Six
  rw [put_swap _ _ 27 19 _ (by decide), put_swap _ _ 26 19 _ (by decide), put_swap _ _ 23 19 _ (by decide), put_swap _ _ 22 19 _ (by decide), put_swap _ _ 21 19 _ (by decide), put_put]
theorem six21 : (Six a u19 u21 u22 u23 u26 u27).put (some 21) v = Six a u19 v u22 u23 u26 u27 := by
  unfold Six
  rw [put_swap _ _ 27 21 _ (by decide), put_swap _ _ 26 21 _ (by decide), put_swap _ _ 23 21 _ (by decide), put_swap _ _ 22 21 _ (by decide), put_put]
theorem six22 : (Six a u19 u21 u22 u23 u26 u27).put (some 22) v = Six a u19 u21 v u23 u26 u27 := by
  unfold Six
  rw [put_swap _ _ 27 22 _ (by decide), put_swap _ _ 26 22 _ (by decide), put_swap _ _ 23 22 _ (by decide), put_put]
theorem six23 : (Six a u19 u21 u22 u23 u26 u27).put (some 23) v = Six a u19 u21 u22 v u26 u27 := by
  unfold Six
  rw [put_swap _ _ 27 23 _ (by decide), put_swap _ _ 26 23 _ (by decide), put_put]
theorem six26 : (Six a u19 u21 u22 u23 u26 u27).put (some 26) v = Six a u19 u21 u22 u23 v u27 := by
  unfold Six
  rw [put_swap _ _ 27 26 _ (by decide), put_put]
theorem six27 : (Six a u19 u21 u22 u23 u26 u27).put (some 27) v = Six a u19 u21 u22 u23 u26 v := by
  unfold Six
  rw [put_put]
theorem six_at19 (h : 19 < a.tmps.size) : (Six a u19 u21 u22 u23 u26 u27).eval (.tmp 19) = u19 := by
  simp [Six, Act.put, Act.eval, h]
theorem six_at21 (h : 21 < a.tmps.size) : (Six a u19 u21 u22 u23 u26 u27).eval (.tmp 21) = u21 := by
  simp [Six, Act.put, Act.eval, h]
theorem six_at22 (h : 22 < a.tmps.size) : (Six a u19 u21 u22 u23 u26 u27).eval (.tmp 22) = u22 := by
  simp [Six, Act.put, Act.eval, h]
theorem six_at23 (h : 23 < a.tmps.size) : (Six a u19 u21 u22 u23 u26 u27).eval (.tmp 23) = u23 := by
  simp [Six, Act.put, Act.eval, h]
theorem six_at26 (h : 26 < a.tmps.size) : (Six a u19 u21 u22 u23 u26 u27).eval (.tmp 26) = u26 := by
  simp [Six, Act.put, Act.eval, h]
theorem six_at27 (h : 27 < a.tmps.size) : (Six a u19 u21 u22 u23 u26 u27).eval (.tmp 27) = u27 := by
  simp [Six, Act.put, Act.eval, h]
theorem six_far (t : Nat) (h19 : t ≠ 19) (h21 : t ≠ 21) (h22 : t ≠ 22) (h23 : t ≠ 23) (h26 : t ≠ 26) (h27 : t ≠ 27) : (Six a u19 u21 u22 u23 u26 u27).eval (.tmp t) = a.eval (.tmp t) := by
  simp [Six, Act.put, Act.eval, Array.getElem?_setIfInBounds_ne, Ne.symm h19, Ne.symm h21, Ne.symm h22, Ne.symm h23, Ne.symm h26, Ne.symm h27]
end
theorem wp_run {P : Program} {o : Oper} {a : Act} {w w' : World} {v : Value} {K : Act → World → Prop} {Q : Exit → Act → World → Prop} (h : (execOp a.eval o).run P w = .ok (.value v) w') (hK : K (a.put o.dst v) w') : Oper.wp P o a w K Q := by
  unfold Oper.wp
  rw [h]
  exact hK
theorem conv_run {P : Program} {a : Act} {w w' : World} {x v : Value} {x0 : Operand} {t t' : TypeId} {d : Option Tmp} {ty : TypeId} {pos : String} {af : Array Edge} {gd : Option (Nat × Bool)} (hx : a.eval x0 = x) (h : (convert t t' x).run P w = .ok v w') : (execOp a.eval { dst := d, op := Op.convert t t' x0, type := ty, pos := pos, after := af, guard := gd }).run P w = .ok (.value v) w' := by
  unfold execOp
  simp only [hx, Sem.run_bind, h, Result.andThen_ok, Sem.run_pure]

theorem own_base {w : World} {b b' : Nat} {e : TypeId} {sz : Nat} {v : Value} {n : Nat} {xs : List Value} (h : w.ownsRow b e sz v n xs) (hb : b' ≤ b) : w.ownsRow b' e sz v n xs := by
  refine ⟨h.1, ?_⟩
  rcases h.2 with h | ⟨g, cap, cur, h1, h2, h3⟩
  · exact .inl h
  · exact .inr ⟨g, cap, cur, h1, Nat.le_trans hb h2, h3⟩

/-- While bytes are put behind bytes: the row is the call's own, and what was there is as it was. -/
def Mid (B : Nat) (W0 W : World) (v : Value) (zs : List Int) : Prop := W.ownsRow B 5 1 v zs.length (u8s zs) ∧ Below B W0 W ∧ B ≤ W.heap.size ∧ ∀ z ∈ zs, 0 ≤ z ∧ z < 256
theorem Mid.on {B : Nat} {W0 W W' : World} {v : Value} {zs : List Int} (h : Mid B W0 W v zs) (hb : Below W.heap.size W W') : Mid B W0 W' v zs :=
  ⟨own_on h.1 hb, h.2.1.trans (hb.mono h.2.2.1), Nat.le_trans h.2.2.1 hb.size, h.2.2.2⟩
theorem Mid.drew {B : Nat} {W0 W : World} {v : Value} {zs : List Int} (h : Mid B W0 W v zs) : Mid B W0 W.drew v zs := ⟨h.1, h.2.1.drew, h.2.2⟩
/-- A block of another kind than bytes. -/
def Other (W : World) (g : Nat) (cs : Array Value) (t : TypeId) : Prop := t ≠ 5 ∧ W.heap[g]? = some (.cells cs t (0, 0))
theorem Other.on {W W' : World} {g : Nat} {cs : Array Value} {t : TypeId} (h : Other W g cs t) (hb : Below W.heap.size W W') : Other W' g cs t := ⟨h.1, (hb.block g (Array.getElem?_eq_some_iff.1 h.2).1).trans h.2⟩
theorem Other.new (W : World) (cs : Array Value) (t : TypeId) (ht : t ≠ 5) : Other (W.alloc (.cells cs t)) W.heap.size cs t := ⟨ht, heap_alloc_new W _⟩
theorem Other.cell {W : World} {g : Nat} {cs : Array Value} {t : TypeId} (h : Other W g cs t) (i : Nat) : W.cell? ⟨g, i, none⟩ = cs[i]? := cell_of_row W g i cs t (0, 0) h.2
theorem Other.ne {W : World} {g B n : Nat} {cs : Array Value} {t : TypeId} {v : Value} {xs : List Value} (h : Other W g cs t) (ho : W.ownsRow B 5 1 v n xs) : some g ≠ v.ownBlock := by
  rcases ho.2 with ⟨rfl, _⟩ | ⟨g', cap, cur, rfl, _, hh, _⟩
  · intro e; cases e
  · intro e
    have e' : g = g' := by simpa [Value.ownBlock] using e
    subst e'
    rw [h.2] at hh
    injection hh with hh
    injection hh with _ ht
    exact h.1 ht
theorem Mid.append {B : Nat} {W0 W : World} {v : Value} {zs : List Int} (h : Mid B W0 W v zs) {B' m : Nat} {A : Option Addr} {ys : List Int} (c : Nat) (hs : Shows W B' A m ys) (hbig : zs.length + ys.length ≤ 140737488351232) (ty : TypeId) :
    ∃ v' W', (Builtin.append_ #[65, 65] ty #[v, .slice A m c]).run Try.prog W = .ok v' W' ∧ Mid B W0 W' v' (zs ++ ys) ∧ (∀ g cs t, Other W g cs t → Other W' g cs t) := by
  obtain ⟨i0, hi0, hz0, hz1, hz2⟩ := info_parts info_u8
  obtain ⟨v', W', h1, h2, h3, _⟩ := run_append_shown W i0 hi0 hz0 hz1 hz2 B v _ _ h.1 B' A m c ys hs (by rw [← hs.1]; exact hbig) h.2.2.1 ty
  have hb := h.2.1.grown h3 h.2.2.1 (fun q hq => (h.1.lt q hq).1)
  have hsz : B ≤ W'.heap.size := Nat.le_trans h.2.2.1 h3.size
  refine ⟨v', W', h1, ⟨?_, hb, hsz, fun z hz => (List.mem_append.1 hz).elim (h.2.2.2 z) (hs.2.1 z)⟩, fun g cs t ho => ⟨ho.1, (h3.block g (Array.getElem?_eq_some_iff.1 ho.2).1 (ho.ne h.1)).trans ho.2⟩⟩
  rw [List.length_append, hs.1, u8s, List.map_append]
  exact h2
/-- Four bytes in a new block. -/
theorem four_new (W : World) (a b c d : Int) (h : ∀ z ∈ [a, b, c, d], 0 ≤ z ∧ z < 256) : Shows (W.alloc (.cells #[.int .u8 a, .int .u8 b, .int .u8 c, .int .u8 d] 5)) (W.heap.size + 1) (some ⟨W.heap.size, 0, none⟩) 4 [a, b, c, d] :=
  shows_lit W [a, b, c, d] 4 _ rfl h rfl _
end Go.Proofs.Ytbblgkidgecdpaa

/-! Layer 3: how many nodes and properties there are; how much a node has. -/
namespace Go.Proofs.Ytbblgkidgecdpaa
open Go.RowKit
set_option linter.unusedVariables false
set_option linter.unusedSimpArgs false

mutual
def nodesN : Nd → Nat
  | .mk _ _ _ _ _ _ ks => 1 + nodesL ks
def nodesL : List Nd → Nat
  | [] => 0
  | k :: l => nodesN k + nodesL l
end
mutual
def propsN : Nd → Nat
  | .mk _ _ _ ps _ _ ks => ps.length + propsL ks
def propsL : List Nd → Nat
  | [] => 0
  | k :: l => propsN k + propsL l
end
theorem nodesL_append : ∀ a b : List Nd, nodesL (a ++ b) = nodesL a + nodesL b
  | [], b => by simp [nodesL]
  | x :: a, b => by simp only [List.cons_append, nodesL, nodesL_append a b]; omega
theorem propsL_append : ∀ a b : List Nd, propsL (a ++ b) = propsL a + propsL b
  | [], b => by simp [propsL]
  | x :: a, b => by simp only [List.cons_append, propsL, propsL_append a b]; omega
theorem take_next {α : Type} (l : List α) (j : Nat) (h : j < l.length) : l.take (j + 1) = l.take j ++ [l[j]] := by
  rw [List.take_add_one, List.getElem?_eq_getElem h]; rfl
theorem nodesL_next (l : List Nd) (j : Nat) (h : j < l.length) : nodesL (l.take (j + 1)) = nodesL (l.take j) + nodesN l[j] := by
  rw [take_next l j h, nodesL_append]; simp [nodesL]
theorem propsL_next (l : List Nd) (j : Nat) (h : j < l.length) : propsL (l.take (j + 1)) = propsL (l.take j) + propsN l[j] := by
  rw [take_next l j h, propsL_append]; simp [propsL]

theorem wrap_add (a b : Int) : wrap64 (wrap64 a + wrap64 b) = wrap64 (a + b) := by simp only [wrap64]; omega
theorem wrap_add_of {a b c d : Int} (h1 : a = wrap64 c) (h2 : b = wrap64 d) : wrap64 (a + b) = wrap64 (c + d) := by rw [h1, h2, wrap_add]
theorem wrap_small {a : Int} (h0 : -9223372036854775808 ≤ a) (h1 : a ≤ 9223372036854775807) : wrap64 a = a := by simp only [wrap64]; omega

/-- What both functions that count answer of a node. -/
def Counted (e : Ending) (n : Nd) : Prop := e = .returned (.tuple #[.int .i64 (wrap64 (nodesN n)), .int .i64 (wrap64 (propsN n))])

set_option maxHeartbeats 1000000 in
theorem refcount_any : ∀ (n : Nd) (w : World), n.In w w.heap.size → Calls Try.prog 28 #[n.val] w fun e w' => Counted e n ∧ Below w.heap.size w w' := by
  refine Nd.ind ?_
  intro n ih w hin
  obtain ⟨nm, pa, pc, ps, ka, kc, ks⟩ := n
  have HI := Lib.hid hin
  have IH := Lib.hid ih
  obtain ⟨hl, hm⟩ : ks.length ≤ kc ∧ kc ≤ 9223372036854775807 := hin.klen
  obtain ⟨hl2, hm2⟩ : ps.length ≤ pc ∧ pc ≤ 9223372036854775807 := hin.plen
  clear hin ih
  show Calls _ _ #[.agg #[.string nm, .slice pa ps.length pc, .slice ka ks.length kc]] _ _
  go_enter Try.func28, Try.ntmps28
  go_wp2_with fail
  go_region
  go_wp2_with fail
  go_loopw [4, 5, 15] (fun x y i wr => ∃ k : Nat, k ≤ ks.length ∧ i = .int .i64 k ∧ (∃ a b : Int, x = .int .i64 a ∧ y = .int .i64 b ∧ Hid (a = wrap64 (1 + nodesL (ks.take k)) ∧ b = wrap64 (ps.length + propsL (ks.take k)))) ∧
      Below (w.heap.size + 1) (w.alloc (.cells #[Value.string nm, .slice pa ps.length pc, .slice ka ks.length kc] 25)) wr) (fun _ _ i _ => ks.length - (intOf i).toNat)
  case atStart => exact ⟨0, Nat.zero_le _, rfl, ⟨1, ps.length, rfl, rfl, by simp only [List.take_zero, nodesL]; exact (wrap_small (by omega) (by omega)).symm, by simp only [List.take_zero, propsL]; exact (wrap_small (by omega) (by omega)).symm⟩, (Below.refl _ _).drew⟩
  case round =>
    obtain ⟨k, hk, rfl, ⟨a, c, rfl, rfl, hac⟩, hb⟩ := hrel
    have HB0 := Lib.hid hb
    have HB := Lib.hid (((Below.refl w.heap.size w).alloc (Nat.le_refl _) _).trans (hb.mono (Nat.le_succ _)))
    clear hb
    by_cases hlt : k < ks.length
    · obtain ⟨b, o, e, hb, c0, c1, c2⟩ := (HI.out.under HB.out).kcell (i := k) hlt
      obtain rfl : ka = _ := e
      replace c0 : _ = some (Value.string ks[k].name) := c0
      replace c1 : _ = some (Value.slice ks[k].pa ks[k].props.length ks[k].pc) := c1
      replace c2 : _ = some (Value.slice ks[k].ka ks[k].kids.length ks[k].kc) := c2
      have hbox : wr.cell? ⟨w.heap.size, 2, none⟩ = some (.slice (some ⟨b, o, none⟩) ks.length kc) := (HB0.out.cell (Nat.lt_succ_self _)).trans (World.cell?_alloc_new _ _ _ _)
      go_wp2_with fail
      refine (IH.out ks[k] (List.getElem_mem hlt) _ (((HI.out.kid (List.getElem_mem hlt)).under HB.out).more HB.out.size)).mono ?_
      rintro e w' ⟨he, hb'⟩
      obtain rfl := he
      have HB3 := Lib.hid (HB0.out.trans (hb'.mono (by have := HB0.out.size; simpa using this)))
      clear hb'
      go_wp2
      go_roundw
      case rel => exact ⟨k + 1, by omega, by go_num, ⟨_, _, rfl, rfl, by rw [nodesL_next _ _ hlt, wrap_add_of hac.1 rfl]; congr 1; omega, by rw [propsL_next _ _ hlt, wrap_add_of hac.2 rfl]; congr 1; omega⟩, HB3.out⟩
      case measure => simp [intOf]; omega
    · have he : k = ks.length := by omega
      have HE := Lib.hid he
      clear he
      go_wp2
      go_ret2
      refine ⟨?_, HB.out⟩
      have h1 := hac.1
      have h2 := hac.2
      rw [HE.out, List.take_length] at h1 h2
      rw [Counted, h1, h2, nodesN, propsN]
      congr 5

set_option maxHeartbeats 2000000 in
theorem size_any : ∀ (n : Nd) (d : Int) (w : World), n.In w w.heap.size → 0 ≤ d → d ≤ 21 → Calls Try.prog 18 #[n.val, .int .i64 d] w fun e w' => (∃ x : Int, e = .returned (.int .i64 x)) ∧ Below w.heap.size w w' := by
  refine Nd.ind ?_
  intro n ih d w hin hd0 hd1
  obtain ⟨nm, pa, pc, ps, ka, kc, ks⟩ := n
  have HI := Lib.hid hin
  have IH := Lib.hid ih
  obtain ⟨hl, hm⟩ : ks.length ≤ kc ∧ kc ≤ 9223372036854775807 := hin.klen
  obtain ⟨hl2, hm2⟩ : ps.length ≤ pc ∧ pc ≤ 9223372036854775807 := hin.plen
  obtain ⟨hn, _⟩ : nm.size ≤ 140737488351232 ∧ _ := hin.name_le
  clear hin ih
  show Calls _ _ #[.agg #[.string nm, .slice pa ps.length pc, .slice ka ks.length kc], .int .i64 d] _ _
  go_enter Try.func18, Try.ntmps18
  go_wp2_with fail
  go_loopw [5, 15] (fun x i wr => ∃ k : Nat, k ≤ ps.length ∧ i = .int .i64 k ∧ (∃ a : Int, x = .int .i64 a) ∧ Below (w.heap.size + 1) (w.alloc (.cells #[Value.string nm, .slice pa ps.length pc, .slice ka ks.length kc] 25)) wr) (fun _ i _ => ps.length - (intOf i).toNat)
  case atStart => exact ⟨0, Nat.zero_le _, rfl, ⟨_, rfl⟩, Below.refl _ _⟩
  case round =>
    obtain ⟨k, hk, rfl, ⟨a, rfl⟩, hb⟩ := hrel
    have HB0 := Lib.hid hb
    have HB := Lib.hid (((Below.refl w.heap.size w).alloc (Nat.le_refl _) _).trans (hb.mono (Nat.le_succ _)))
    clear hb
    by_cases hlt : k < ps.length
    · obtain ⟨b, o, e, hb, c0, c1⟩ := (HI.out.under HB.out).pcell (i := k) hlt
      obtain rfl : pa = _ := e
      replace c0 : _ = some (Value.string ps[k].name) := c0
      replace c1 : _ = some (Value.slice ps[k].addr ps[k].zs.length ps[k].cap) := c1
      have hbox : wr.cell? ⟨w.heap.size, 1, none⟩ = some (.slice (some ⟨b, o, none⟩) ps.length pc) := (HB0.out.cell (Nat.lt_succ_self _)).trans (World.cell?_alloc_new _ _ _ _)
      go_wp2_with fail
      go_region
      go_wp2
      go_roundw
      case rel => exact ⟨k + 1, by omega, by go_num, ⟨_, rfl⟩, HB0.out.drew⟩
      case measure => simp [intOf]; omega
    · have hbox : wr.cell? ⟨w.heap.size, 2, none⟩ = some (.slice ka ks.length kc) := (HB0.out.cell (Nat.lt_succ_self _)).trans (World.cell?_alloc_new _ _ _ _)
      go_wp2_with fail
      clear hbox
      go_loopw [5, 40] (fun x i wr => ∃ k : Nat, k ≤ ks.length ∧ i = .int .i64 k ∧ (∃ a : Int, x = .int .i64 a) ∧ Below (w.heap.size + 1) (w.alloc (.cells #[Value.string nm, .slice pa ps.length pc, .slice ka ks.length kc] 25)) wr) (fun _ i _ => ks.length - (intOf i).toNat)
      case atStart => exact ⟨0, Nat.zero_le _, rfl, ⟨_, rfl⟩, HB0.out⟩
      case round =>
        clear HB HB0
        obtain ⟨k, hk, rfl, ⟨a, rfl⟩, hb⟩ := hrel
        have HB0 := Lib.hid hb
        have HB := Lib.hid (((Below.refl w.heap.size w).alloc (Nat.le_refl _) _).trans (hb.mono (Nat.le_succ _)))
        clear hb
        by_cases hlt' : k < ks.length
        · obtain ⟨b, o, e, hb, c0, c1, c2⟩ := (HI.out.under HB.out).kcell (i := k) hlt'
          obtain rfl : ka = _ := e
          replace c0 : _ = some (Value.string ks[k].name) := c0
          replace c1 : _ = some (Value.slice ks[k].pa ks[k].props.length ks[k].pc) := c1
          replace c2 : _ = some (Value.slice ks[k].ka ks[k].kids.length ks[k].kc) := c2
          have hbox : wr.cell? ⟨w.heap.size, 2, none⟩ = some (.slice (some ⟨b, o, none⟩) ks.length kc) := (HB0.out.cell (Nat.lt_succ_self _)).trans (World.cell?_alloc_new _ _ _ _)
          by_cases hd : 20 < d
          · go_wp2
            go_ret
            exact ⟨⟨_, rfl⟩, HB.out⟩
          · by_cases ha : 100000 < a
            · go_wp2
              go_ret
              exact ⟨⟨_, rfl⟩, HB.out⟩
            · go_wp2_with fail
              refine (IH.out ks[k] (List.getElem_mem hlt') _ _ (((HI.out.kid (List.getElem_mem hlt')).under HB.out).more HB.out.size) (by omega) (by omega)).mono ?_
              rintro e w' ⟨⟨x, rfl⟩, hb'⟩
              have HB3 := Lib.hid (HB0.out.trans (hb'.mono (by have := HB0.out.size; simpa using this)))
              clear hb'
              go_wp2
              go_roundw
              case rel => exact ⟨k + 1, by omega, by go_num, ⟨_, rfl⟩, HB3.out⟩
              case measure => simp [intOf]; omega
        · go_wp2
          go_ret
          exact ⟨⟨_, rfl⟩, HB.out⟩
end Go.Proofs.Ytbblgkidgecdpaa

/-! The document's blob: the names of properties, each once, in order. -/
namespace Go.Proofs.Ytbblgkidgecdpaa
open Go.RowKit
set_option linter.unusedVariables false
set_option linter.unusedSimpArgs false

/-- Is a name there? -/
def hasT (l : List ByteArray) (s : ByteArray) : Bool := l.any fun x => decide (x = s)
theorem hasT_next (l : List ByteArray) (s : ByteArray) (j : Nat) (h : j < l.length) : hasT (l.take (j + 1)) s = (hasT (l.take j) s || decide (l[j] = s)) := by
  unfold hasT
  rw [take_next l j h, List.any_append]
  simp
/-- A name behind those ahead, if it isn't there. -/
def addT (l : List ByteArray) (s : ByteArray) : List ByteArray := if hasT l s = true then l else l ++ [s]
mutual
def textsN : Nd → List ByteArray → List ByteArray
  | .mk _ _ _ ps _ _ ks, l => textsL ks ((ps.map PV.name).foldl addT l)
def textsL : List Nd → List ByteArray → List ByteArray
  | [], l => l
  | k :: r, l => textsL r (textsN k l)
end
theorem textsL_append : ∀ (a b : List Nd) (l : List ByteArray), textsL (a ++ b) l = textsL b (textsL a l)
  | [], b, l => by simp [textsL]
  | x :: a, b, l => by simp only [List.cons_append, textsL, textsL_append a b]
theorem textsL_next (ks : List Nd) (j : Nat) (h : j < ks.length) (l : List ByteArray) : textsL (ks.take (j + 1)) l = textsN ks[j] (textsL (ks.take j) l) := by
  rw [take_next ks j h, textsL_append]; simp [textsL]
theorem addT_length (l : List ByteArray) (s : ByteArray) : (addT l s).length ≤ l.length + 1 := by
  unfold addT; split <;> simp
theorem fold_length : ∀ (ns l : List ByteArray), (ns.foldl addT l).length ≤ l.length + ns.length
  | [], l => by simp
  | s :: ns, l => by
    have h1 := addT_length l s
    have h2 := fold_length ns (addT l s)
    simp only [List.foldl_cons, List.length_cons]
    omega
theorem texts_length_all (l0 : List ByteArray) : True := trivial
theorem textsN_length : ∀ (n : Nd) (l : List ByteArray), (textsN n l).length ≤ l.length + propsN n := by
  refine Nd.ind ?_
  intro n ih l
  obtain ⟨nm, pa, pc, ps, ka, kc, ks⟩ := n
  have hl : ∀ (r : List Nd), (∀ k ∈ r, k ∈ ks) → ∀ l, (textsL r l).length ≤ l.length + propsL r := by
    intro r
    induction r with
    | nil => intro _ l; simp [textsL]
    | cons k r ihr =>
      intro hr l
      have h1 := ih k (hr k (by simp)) l
      have h2 := ihr (fun x hx => hr x (by simp [hx])) (textsN k l)
      simp only [textsL, propsL]
      omega
  have h1 := fold_length (ps.map PV.name) l
  have h2 := hl ks (fun _ h => h) ((ps.map PV.name).foldl addT l)
  simp only [textsN, propsN]
  simp only [List.length_map] at h1
  omega
theorem propsL_take (ks : List Nd) (j : Nat) : propsL (ks.take j) ≤ propsL ks := by
  conv => rhs; rw [← List.take_append_drop j ks, propsL_append]
  omega
theorem textsL_length (ks : List Nd) (l : List ByteArray) : (textsL ks l).length ≤ l.length + propsL ks := by
  induction ks generalizing l with
  | nil => simp [textsL]
  | cons k r ih =>
    have h1 := textsN_length k l
    have h2 := ih (textsN k l)
    simp only [textsL, propsL]
    omega

/-! ### Rows of texts -/
abbrev strs (l : List ByteArray) : List Value := l.map Value.string
theorem info_strD : (Try.prog.info? 9).map (fun i => (i.zero, i.size, i.bytes)) = some (some (.string ⟨#[]⟩), 1, 16) := by kernel_rfl

/-- A row of texts that the call owns, as a slice. -/
theorem own_slice {w : World} {base n : Nat} {t : TypeId} {v : Value} {xs : List Value} (h : w.ownsRow base t 1 v n xs) :
    ∃ A c, v = .slice A n c ∧ n ≤ c ∧ c ≤ 9223372036854775807 ∧ (0 < n → ∃ g, A = some ⟨g, 0, none⟩ ∧ v.ownBlock = some g ∧ g < w.heap.size ∧ ∀ k, k < n → w.cell? ⟨g, k, none⟩ = xs[k]?) := by
  obtain ⟨hl, ⟨rfl, rfl⟩ | ⟨g, cap, cur, rfl, hb, hg, hnc, hcm, hsz, htk⟩⟩ := h
  · exact ⟨none, 0, rfl, Nat.le_refl _, by omega, fun h => absurd h (Nat.lt_irrefl 0)⟩
  · refine ⟨_, cap, rfl, hnc, hcm, fun _ => ⟨g, rfl, rfl, (Array.getElem?_eq_some_iff.1 hg).1, fun k hk => ?_⟩⟩
    have e : w.cell? ⟨g, k, none⟩ = cur[k]? := by simp [World.cell?, hg]
    rw [e, ← htk, List.getElem?_take_of_lt (by omega), Array.getElem?_toList]

/-- What texts leaves: a row of its own, in the old one's block or a new one. -/
def TState (w0 : World) (B1 : Nat) (r0 : Option Nat) (wr : World) (v : Value) (l : List ByteArray) : Prop :=
  wr.ownsRow B1 9 1 v l.length (strs l) ∧ w0.grownBy wr r0 ∧ (v.ownBlock = r0 ∨ ∃ g, v.ownBlock = some g ∧ w0.heap.size ≤ g)
def TOut (w : World) (B1 : Nat) (v : Value) (l : List ByteArray) (e : Ending) (w' : World) : Prop := ∃ v', e = .returned v' ∧ TState w B1 v.ownBlock w' v' l

theorem TState.step {w0 wr w' : World} {B1 : Nat} {r0 : Option Nat} {v v' : Value} {l l' : List ByteArray} (h : TState w0 B1 r0 wr v l) (h' : TState wr B1 v.ownBlock w' v' l') : TState w0 B1 r0 w' v' l' := by
  obtain ⟨h1, h2, h3⟩ := h
  obtain ⟨k1, k2, k3⟩ := h'
  refine ⟨k1, ⟨k2.os.trans h2.os, k2.tape.trans h2.tape, k2.output.trans h2.output, Nat.le_trans h2.size k2.size, fun i hi hne => ?_⟩, ?_⟩
  · refine (k2.block i (Nat.lt_of_lt_of_le hi h2.size) ?_).trans (h2.block i hi hne)
    rcases h3 with e | ⟨g, e, hg⟩
    · rw [e]; exact hne
    · rw [e]; intro e2; injection e2 with e2; omega
  · rcases k3 with e | ⟨g, e, hg⟩
    · rw [e]; exact h3
    · exact .inr ⟨g, e, Nat.le_trans h2.size hg⟩
theorem TState.drewN {w0 wr : World} {B1 : Nat} {r0 : Option Nat} {v : Value} {l : List ByteArray} (h : TState w0 B1 r0 wr v l) (q : Nat) : TState w0 B1 r0 (wr.drewN q) v l :=
  ⟨h.1, ⟨h.2.1.os, h.2.1.tape, h.2.1.output, h.2.1.size, h.2.1.block⟩, h.2.2⟩
/-- Behind a new block. -/
theorem TState.box {w w' : World} {o : Obj} {B1 : Nat} {r0 : Option Nat} {v : Value} {l : List ByteArray} (h : TState (w.alloc o) B1 r0 w' v l) : TState w B1 r0 w' v l := by
  obtain ⟨h1, h2, h3⟩ := h
  refine ⟨h1, ⟨h2.os, h2.tape, h2.output, Nat.le_trans (by simp) h2.size, fun i hi hne => (h2.block i (by simp; omega) hne).trans (heap_alloc_old w o hi)⟩, ?_⟩
  rcases h3 with e | ⟨g, e, hg⟩
  · exact .inl e
  · exact .inr ⟨g, e, by simp at hg; omega⟩
/-- Cells of blocks that are another's. -/
theorem TState.cell {w0 wr : World} {B1 : Nat} {r0 : Option Nat} {v : Value} {l : List ByteArray} (h : TState w0 B1 r0 wr v l) {a : Addr} (ha : a.block < w0.heap.size) (hr : some a.block ≠ r0) : wr.cell? a = w0.cell? a :=
  World.cell?_of_block (h.2.1.block a.block ha hr)

end Go.Proofs.Ytbblgkidgecdpaa

/-! The document's blob: where a text stands behind those ahead of it. -/
namespace Go.Proofs.Ytbblgkidgecdpaa
open Go.RowKit
set_option linter.unusedVariables false
set_option linter.unusedSimpArgs false

/-- How many bytes texts are, each with a nought. -/
def textSize : List ByteArray → Nat
  | [] => 0
  | x :: r => x.size + 1 + textSize r
theorem textSize_append : ∀ a b : List ByteArray, textSize (a ++ b) = textSize a + textSize b
  | [], b => by simp [textSize]
  | x :: a, b => by simp only [List.cons_append, textSize, textSize_append a b]; omega
theorem textSize_next (l : List ByteArray) (j : Nat) (h : j < l.length) : textSize (l.take (j + 1)) = textSize (l.take j) + l[j].size + 1 := by
  rw [take_next l j h, textSize_append]; simp only [textSize]; omega
theorem textSize_take (l : List ByteArray) (j : Nat) : textSize (l.take j) ≤ textSize l := by
  conv => rhs; rw [← List.take_append_drop j l, textSize_append]
  omega
/-- Where a text stands. -/
def whereL : List ByteArray → ByteArray → Nat
  | [], _ => 0
  | x :: r, s => if x = s then 0 else x.size + 1 + whereL r s
theorem whereL_missed : ∀ (l : List ByteArray) (s : ByteArray) (k : Nat), Missed l s k → whereL l s = textSize (l.take k) + whereL (l.drop k) s
  | [], s, k, _ => by simp [whereL, textSize]
  | x :: l, s, 0, _ => by simp [textSize]
  | x :: l, s, k + 1, h => by
    have h0 : x ≠ s := by have := h.2 0 (by simp) (by omega); simpa using this
    have ih := whereL_missed l s k ⟨by have := h.1; simp at this; omega, fun j hj hlt => by have := h.2 (j + 1) (by simp; omega) (by omega); simpa using this⟩
    simp only [whereL, if_neg h0, List.take_succ_cons, List.drop_succ_cons, textSize, ih]
    omega
theorem whereL_hit {l : List ByteArray} {s : ByteArray} {k : Nat} (h : Missed l s k) (hk : k < l.length) (e : l[k] = s) : whereL l s = textSize (l.take k) := by
  rw [whereL_missed l s k h, List.drop_eq_getElem_cons hk]
  simp [whereL, e]
theorem whereL_all {l : List ByteArray} {s : ByteArray} {k : Nat} (h : Missed l s k) (hk : ¬ k < l.length) : whereL l s = textSize l := by
  rw [whereL_missed l s k h, List.drop_eq_nil_of_le (by omega), List.take_of_length_le (by omega)]
  simp [whereL]
theorem whereL_le (l : List ByteArray) (s : ByteArray) : whereL l s ≤ textSize l := by
  induction l with
  | nil => simp [whereL]
  | cons x r ih => simp only [whereL, textSize]; split <;> omega

/-- A slice's cells are these texts. -/
def TRow (w : World) (B : Nat) (A : Option Addr) (l : List ByteArray) : Prop :=
  0 < l.length → ∃ g, A = some ⟨g, 0, none⟩ ∧ g < B ∧ ∀ k (h : k < l.length), w.cell? ⟨g, k, none⟩ = some (.string l[k])
theorem TRow.keep {w w' : World} {B : Nat} {A : Option Addr} {l : List ByteArray} (h : TRow w B A l) (hk : ∀ a : Addr, a.block < B → w'.cell? a = w.cell? a) : TRow w' B A l := fun h0 => by
  obtain ⟨g, e, hg, hc⟩ := h h0
  exact ⟨g, e, hg, fun k hk' => (hk _ hg).trans (hc k hk')⟩
theorem TRow.under {w w' : World} {B : Nat} {A : Option Addr} {l : List ByteArray} (h : TRow w B A l) (hb : Below B w w') : TRow w' B A l := h.keep fun _ hp => hb.cell hp
theorem TRow.more {w : World} {B B' : Nat} {A : Option Addr} {l : List ByteArray} (h : TRow w B A l) (hB : B ≤ B') : TRow w B' A l := fun h0 => by
  obtain ⟨g, e, hg, hc⟩ := h h0
  exact ⟨g, e, by omega, hc⟩
/-- A row that texts left. -/
theorem trow_of_own {w : World} {base : Nat} {v : Value} {l : List ByteArray} (h : w.ownsRow base 9 1 v l.length (strs l)) : ∃ A c, v = .slice A l.length c ∧ l.length ≤ c ∧ c ≤ 9223372036854775807 ∧ TRow w w.heap.size A l := by
  obtain ⟨A, c, h1, h2, h3, h4⟩ := own_slice h
  refine ⟨A, c, h1, h2, h3, fun h0 => ?_⟩
  obtain ⟨g, e, _, hg, hc⟩ := h4 h0
  exact ⟨g, e, hg, fun k hk => by rw [hc k hk, List.getElem?_map, List.getElem?_eq_getElem hk]; rfl⟩

end Go.Proofs.Ytbblgkidgecdpaa

/-! A statement whose operations may come in several orders: operations that only read are taken first; when the only operation that may come is a call, the call is carried out, and from there on more may be known of memory. -/
namespace Go.Proofs.Ytbblgkidgecdpaa
open Go.RowKit
section
variable {P : Program} {ops : Array Oper} {l : List Oper} {Q : Exit → Act → World → Prop} {S S' : World → Prop}

/-- What is known of memory may grow as the walk goes on. -/
theorem held_more (hsub : ∀ w, S' w → S w) : ∀ (fuel : Nat) (listed : Array Bool) (a : Act) (w : World), wpAnyH P .any ops Q S' fuel listed a w → wpAnyH P .any ops Q S fuel listed a w
  | 0, _, _, _, h => h
  | fuel + 1, _, _, _, h => ⟨h.1, fun i hi => wpOp_mono (fun a' w' h' => ⟨hsub _ h'.1, held_more hsub fuel _ a' w' h'.2⟩) (h.2 i hi)⟩

/-- An operation that reads, and is wanted. -/
theorem held_take (i : Nat) {oi : Oper} {v : Value} {fuel : Nat} {listed : Array Bool} {a : Act} {w : World} (hi : l[i]? = some oi) (hs : Region.noSelect l.toArray = true) (hf : Region.free .any l.toArray listed i = true)
    (hr : (Region.ready .any l.toArray listed).contains i = true) (hQ : ∀ c a w, Q (.panic c) (a.put oi.dst v) w → Q (.panic c) a w) (hw : Region.wanted oi (yielded l.toArray a.tmps) = true)
    (hS : S w) (hy : ∀ w, S w → (execOp a.eval oi).run P w = .ok (.value v) w) (h : S w → wpAnyH P .any l.toArray Q S fuel (listed.setIfInBounds i true) (a.put oi.dst v) w) : wpAnyH P .any l.toArray Q S (fuel + 1) listed a w :=
  wpAnyH_take (by simpa using hi) hs hf hr hQ (.inl ⟨hw, hy⟩) hS (h hS)

/-- An operation whose guard says no. -/
theorem held_skip (i : Nat) {oi : Oper} {fuel : Nat} {listed : Array Bool} {a : Act} {w : World} (hi : l[i]? = some oi) (hs : Region.noSelect l.toArray = true) (hf : Region.free .any l.toArray listed i = true)
    (hr : (Region.ready .any l.toArray listed).contains i = true) (hQ : ∀ c a w, Q (.panic c) (a.put oi.dst undef) w → Q (.panic c) a w) (hw : Region.wanted oi (yielded l.toArray a.tmps) = false)
    (hS : S w) (h : S w → wpAnyH P .any l.toArray Q S fuel (listed.setIfInBounds i true) (a.put oi.dst undef) w) : wpAnyH P .any l.toArray Q S (fuel + 1) listed a w :=
  wpAnyH_take (by simpa using hi) hs hf hr hQ (.inr ⟨hw, rfl⟩) hS (h hS)

/-- The one operation that may come now, whatever it does; behind it the walk goes on knowing S'. -/
theorem held_call (i : Nat) {oi : Oper} {fuel : Nat} {listed : Array Bool} {a : Act} {w : World} (hr : Region.ready .any l.toArray listed = [i]) (hi : l[i]? = some oi) (hw : Region.wanted oi (yielded l.toArray a.tmps) = true)
    (h : ∀ K : Act → World → Prop, Shut (∀ a w, S w → (S w → wpAnyH P .any l.toArray Q S fuel (listed.setIfInBounds i true) a w) → K a w) → Oper.wp P oi a w K Q) : wpAnyH P .any l.toArray Q S (fuel + 1) listed a w :=
  wpAnyH_ready hr (by simp) (AllReadyH.cons (by simpa using hi) (fun K hK => by rw [if_pos hw]; exact h K hK) AllReadyH.nil)

/-- Two operations may come now. -/
theorem held_two (i j : Nat) {oi oj : Oper} {fuel : Nat} {listed : Array Bool} {a : Act} {w : World} (hr : Region.ready .any l.toArray listed = [i, j]) (hi : l[i]? = some oi) (hj : l[j]? = some oj) (hwi : Region.wanted oi (yielded l.toArray a.tmps) = true) (hwj : Region.wanted oj (yielded l.toArray a.tmps) = true)
    (h1 : ∀ K : Act → World → Prop, Shut (∀ a w, S w → (S w → wpAnyH P .any l.toArray Q S fuel (listed.setIfInBounds i true) a w) → K a w) → Oper.wp P oi a w K Q)
    (h2 : ∀ K : Act → World → Prop, Shut (∀ a w, S w → (S w → wpAnyH P .any l.toArray Q S fuel (listed.setIfInBounds j true) a w) → K a w) → Oper.wp P oj a w K Q) : wpAnyH P .any l.toArray Q S (fuel + 1) listed a w :=
  wpAnyH_ready hr (by simp) (AllReadyH.cons (by simpa using hi) (fun K hK => by rw [if_pos hwi]; exact h1 K hK) (AllReadyH.cons (by simpa using hj) (fun K hK => by rw [if_pos hwj]; exact h2 K hK) AllReadyH.nil))

/-- A piece of code is walked up to its end, once; what follows is walked once. -/
theorem code_cut {c : Code} {Q : Exit → Act → World → Prop} {a : Act} {w : World} (R : Act → World → Prop) (h1 : Code.wp P c (fun x a w => x = .normal ∧ R a w) a w) (h2 : ∀ a w, R a w → Q .normal a w) : Code.wp P c Q a w :=
  Code.wp_mono (fun e a w ⟨he, hr⟩ => by subst he; exact h2 a w hr) h1

/-- One world, spelled in two ways. -/
theorem calls_world {f : FuncId} {args : Array Value} {W W' : World} {R : Ending → World → Prop} (h : W = W') (H : Calls P f args W R) : Calls P f args W' R := h ▸ H
end
end Go.Proofs.Ytbblgkidgecdpaa

/-! The document's blob: a node's tokens. -/
namespace Go.Proofs.Ytbblgkidgecdpaa
open Go.RowKit
set_option linter.unusedVariables false
set_option linter.unusedSimpArgs false

/-- A property's token. -/
def propT (l : List ByteArray) (p : PV) : List Int := [0, 0, 0, 3] ++ (four p.zs.length ++ (four (whereL l p.name) ++ padL p.zs))
mutual
/-- A node's tokens. -/
def nodeN (l : List ByteArray) : Nd → List Int
  | .mk nm _ _ ps _ _ ks => [0, 0, 0, 1] ++ padL (strB nm ++ [0]) ++ ps.flatMap (propT l) ++ nodeL l ks ++ [0, 0, 0, 2]
def nodeL (l : List ByteArray) : List Nd → List Int
  | [] => []
  | k :: r => nodeN l k ++ nodeL l r
end
theorem nodeL_append (l : List ByteArray) : ∀ a b : List Nd, nodeL l (a ++ b) = nodeL l a ++ nodeL l b
  | [], b => by simp [nodeL]
  | x :: a, b => by simp only [List.cons_append, nodeL, nodeL_append l a b, List.append_assoc]
theorem nodeL_next (l : List ByteArray) (ks : List Nd) (j : Nat) (h : j < ks.length) : nodeL l (ks.take (j + 1)) = nodeL l (ks.take j) ++ nodeN l ks[j] := by
  rw [take_next ks j h, nodeL_append]; simp [nodeL]
theorem props_next (l : List ByteArray) (ps : List PV) (j : Nat) (h : j < ps.length) : (ps.take (j + 1)).flatMap (propT l) = (ps.take j).flatMap (propT l) ++ propT l ps[j] := by
  rw [take_next ps j h, List.flatMap_append]; simp

/-- How heavy a node is: no less than its tokens, or its properties' names. -/
def heftP (p : PV) : Nat := 16 + p.name.size + p.zs.length
mutual
def heftN : Nd → Nat
  | .mk nm _ _ ps _ _ ks => 16 + nm.size + (ps.map heftP).sum + heftL ks
def heftL : List Nd → Nat
  | [] => 0
  | k :: r => heftN k + heftL r
end
theorem heftL_append : ∀ a b : List Nd, heftL (a ++ b) = heftL a + heftL b
  | [], b => by simp [heftL]
  | x :: a, b => by simp only [List.cons_append, heftL, heftL_append a b]; omega
theorem heftL_next (ks : List Nd) (j : Nat) (h : j < ks.length) : heftL (ks.take (j + 1)) = heftL (ks.take j) + heftN ks[j] := by
  rw [take_next ks j h, heftL_append]; simp [heftL]
theorem heftL_take (ks : List Nd) (j : Nat) : heftL (ks.take j) ≤ heftL ks := by
  conv => rhs; rw [← List.take_append_drop j ks, heftL_append]
  omega
theorem heftP_take (ps : List PV) (j : Nat) : ((ps.take j).map heftP).sum ≤ (ps.map heftP).sum := by
  conv => rhs; rw [← List.take_append_drop j ps, List.map_append, List.sum_append]
  omega
theorem heftP_next (ps : List PV) (j : Nat) (h : j < ps.length) : ((ps.take (j + 1)).map heftP).sum = ((ps.take j).map heftP).sum + heftP ps[j] := by
  rw [take_next ps j h, List.map_append, List.sum_append]; simp
theorem propT_length (l : List ByteArray) (p : PV) : (propT l p).length ≤ heftP p := by
  have h1 := padN_lt p.zs.length
  simp only [propT, List.length_append, padL_length, heftP, four, List.length_cons, List.length_nil]
  omega
theorem props_length (l : List ByteArray) : ∀ ps : List PV, (ps.flatMap (propT l)).length ≤ (ps.map heftP).sum
  | [] => by simp
  | p :: r => by
    have h1 := propT_length l p
    have h2 := props_length l r
    simp only [List.flatMap_cons, List.length_append, List.map_cons, List.sum_cons]
    omega
theorem nodeN_length (l : List ByteArray) : ∀ n : Nd, (nodeN l n).length ≤ heftN n := by
  refine Nd.ind ?_
  intro n ih
  obtain ⟨nm, pa, pc, ps, ka, kc, ks⟩ := n
  have hl : ∀ (r : List Nd), (∀ k ∈ r, k ∈ ks) → (nodeL l r).length ≤ heftL r := by
    intro r
    induction r with
    | nil => intro _; simp [nodeL]
    | cons k r ihr =>
      intro hr
      have h1 := ih k (hr k (by simp))
      have h2 := ihr (fun x hx => hr x (by simp [hx]))
      simp only [nodeL, heftL, List.length_append]
      omega
  have h1 := hl ks (fun _ h => h)
  have h2 := props_length l ps
  have h3 := padN_lt (strB nm ++ [0]).length
  simp only [nodeN, heftN, List.length_append, padL_length, List.length_cons, List.length_nil] at h3 ⊢
  rw [strB_length] at h3 ⊢
  omega
theorem nodeL_length (l : List ByteArray) : ∀ ks : List Nd, (nodeL l ks).length ≤ heftL ks
  | [] => by simp [nodeL]
  | k :: r => by
    have h1 := nodeN_length l k
    have h2 := nodeL_length l r
    simp only [nodeL, heftL, List.length_append]
    omega

/-- Behind a node's first statement. -/
def First (B : Nat) (W0 W : World) (nm : ByteArray) (v : Value) : Prop := Mid B W0 W v ([0, 0, 0, 1] ++ padL (strB nm ++ [0]))

end Go.Proofs.Ytbblgkidgecdpaa
