/-
  Base, part 1: what the proofs of this claim lean on.
-/
import Derived.Test.YtnopcnbeklbfoaaChecked
import Derived.Below
import Derived.WalkKit
import Derived.WalkLawsBesides
import Derived.WalkSpells
import Derived.Laws.BytesArg
import Derived.Laws.OwnMore
import Derived.Laws.AppendOwnNone
import Derived.Maps.AppendAt
import Derived.Deep.Draws
import Derived.Lib.Hide
import Derived.OpenShut
import Derived.Laws.Bits64
import Derived.Laws.BitsAllLaws
import Derived.Lib.IndexLaws
import Derived.IntWalk
import Derived.Test.YtnopcnbeklbfoaaShelf
import Derived.Laws.Strings3
import Derived.Lib.Strings
import Derived.Lib.Slices
import Derived.BigCall
import Derived.BigGuard
import Derived.Deep.Strs
import Derived.Lib.SmallJoins
import Derived.Deep.OwnRows
import Derived.Great.BuildSlice
import Derived.Lib.SlFresh
import Derived.Lib.AppendZerosOnto
import Derived.Lib.ConvBytes
import Derived.Deep.RegionHeld3

/-! What memory holds, as lists of numbers: byte slices that are only read, and byte slices that a call has made. -/
namespace Go.Proofs.Ytnopcnbeklbfoaa
open Go.RowKit
set_option linter.unusedVariables false

/-- The slice value with address A and length n shows the bytes zs (numbers from 0 to 255), in a block below B. -/
def Shows (w : World) (B : Nat) (A : Option Addr) (n : Nat) (zs : List Int) : Prop :=
  zs.length = n ∧ (∀ z ∈ zs, 0 ≤ z ∧ z < 256) ∧ (0 < n → ∃ b o, A = some ⟨b, o, none⟩ ∧ b < B ∧ ∀ i, i < n → w.cell? ⟨b, o + i, none⟩ = some (.int .u8 (zs.getD i 0)))

theorem addr_add (b o i : Nat) : (⟨b, o, none⟩ : Addr).add i = ⟨b, o + i, none⟩ := by unfold Addr.add; split <;> simp_all

section
variable {w w' : World} {B B' n : Nat} {A : Option Addr} {zs : List Int}

theorem Shows.len (h : Shows w B A n zs) : zs.length = n := h.1
theorem Shows.byte (h : Shows w B A n zs) (i : Nat) : 0 ≤ zs.getD i 0 ∧ zs.getD i 0 < 256 := by
  rcases Nat.lt_or_ge i zs.length with hi | hi
  · have e : zs.getD i 0 = zs[i] := by simp [List.getD, List.getElem?_eq_getElem hi]
    rw [e]; exact h.2.1 _ (List.getElem_mem hi)
  · have e : zs.getD i 0 = 0 := by simp [List.getD, List.getElem?_eq_none hi]
    rw [e]; omega
theorem Shows.at_ (h : Shows w B A n zs) (hn : 0 < n) : ∃ b o, A = some ⟨b, o, none⟩ ∧ b < B ∧ ∀ i, i < n → w.cell? ⟨b, o + i, none⟩ = some (.int .u8 (zs.getD i 0)) := h.2.2 hn
theorem Shows.nil (w : World) (B : Nat) : Shows w B none 0 [] := ⟨rfl, by simp, fun h => absurd h (by omega)⟩
theorem Shows.keep (h : Shows w B A n zs) (hk : ∀ p : Addr, p.block < B → w'.cell? p = w.cell? p) : Shows w' B A n zs :=
  ⟨h.1, h.2.1, fun hn => by
    obtain ⟨b, o, e, hb, hc⟩ := h.2.2 hn
    exact ⟨b, o, e, hb, fun i hi => (hk _ hb).trans (hc i hi)⟩⟩
theorem Shows.below (h : Shows w B A n zs) (hb : Below B w w') : Shows w' B A n zs := h.keep fun _ hp => hb.cell hp
theorem Shows.more (h : Shows w B A n zs) (hB : B ≤ B') : Shows w B' A n zs :=
  ⟨h.1, h.2.1, fun hn => by
    obtain ⟨b, o, e, hb, hc⟩ := h.2.2 hn
    exact ⟨b, o, e, by omega, hc⟩⟩
theorem Shows.drewN (h : Shows w B A n zs) (k : Nat) : Shows (w.drewN k) B A n zs := h

/-- An argument as the row's reading gives it. -/
theorem Shows.of_row {a : Option Addr} {len cap : Nat} {l : List Int}
    (h : (a = none ∧ len = 0 ∧ cap = 0 ∧ l = []) ∨ ∃ x, a = some x ∧ len ≤ cap ∧ cap ≤ maxLen ∧ l.length = cap ∧ (∀ i, i < l.length → w.cell? (x.add i) = some (.int .u8 (l.getD i 0))) ∧ ∀ n ∈ l, (Lit.int .u8 n).wf = true) :
    Shows w w.heap.size a len (l.take len) ∧ len ≤ cap ∧ cap ≤ maxLen := by
  rcases h with ⟨rfl, rfl, rfl, rfl⟩ | ⟨x, rfl, hl, hm, hz, hcell, hwz⟩
  · exact ⟨Shows.nil _ _, Nat.le_refl _, by unfold maxLen; omega⟩
  · refine ⟨⟨by rw [List.length_take]; omega, fun z hz' => ?_, fun hn => ?_⟩, hl, hm⟩
    · have h1 := hwz z (List.mem_of_mem_take hz')
      have h2 := bounds_u8 h1
      omega
    · obtain ⟨b, o, spot⟩ := x
      have hc := hcell 0 (by omega)
      have hspot : spot = none := by simpa [Addr.add] using World.cell?_spot hc
      subst hspot
      refine ⟨b, o, rfl, ?_, fun i hi => ?_⟩
      · rw [addr_add] at hc
        exact World.block_lt_of_cell? w _ hc
      · have hci := hcell i (by omega)
        rw [addr_add] at hci
        rw [hci]
        congr 2
        simp [List.getD, List.getElem?_take_of_lt hi]

/-- Where a slice of bytes with capacity c begins when it is cut from l on (the model keeps the address where nothing is left). -/
def cutAt (A : Option Addr) (c l : Nat) : Option Addr := if c = l then A else A.map (·.add l)

theorem Shows.cut {l h c : Nat} (hs : Shows w B A n zs) (hlh : l ≤ h) (hh : h ≤ n) (hc : n ≤ c) : Shows w B (cutAt A c l) (h - l) ((zs.drop l).take (h - l)) := by
  refine ⟨by rw [List.length_take, List.length_drop, hs.1]; omega, fun z hz => hs.2.1 z (List.mem_of_mem_drop (List.mem_of_mem_take hz)), fun h0 => ?_⟩
  obtain ⟨b, o, rfl, hb, hcell⟩ := hs.at_ (by omega)
  refine ⟨b, o + l, ?_, hb, fun i hi => ?_⟩
  · unfold cutAt
    rw [if_neg (by omega)]
    simp [addr_add]
  · rw [Nat.add_assoc, hcell (l + i) (by omega)]
    simp [List.getD, List.getElem?_take_of_lt hi, List.getElem?_drop]
theorem Shows.upto {h : Nat} (hs : Shows w B A n zs) (hh : h ≤ n) : Shows w B A h (zs.take h) := by
  refine ⟨by rw [List.length_take, hs.1]; omega, fun z hz => hs.2.1 z (List.mem_of_mem_take hz), fun h0 => ?_⟩
  obtain ⟨b, o, rfl, hb, hcell⟩ := hs.at_ (by omega)
  refine ⟨b, o, rfl, hb, fun i hi => ?_⟩
  rw [hcell i (by omega)]
  simp [List.getD, List.getElem?_take_of_lt hi]
theorem Shows.from_ {l c : Nat} (hs : Shows w B A n zs) (hl : l ≤ n) (hc : n ≤ c) : Shows w B (cutAt A c l) (n - l) (zs.drop l) := by
  have h := hs.cut hl (Nat.le_refl n) hc
  rwa [List.take_of_length_le (by rw [List.length_drop, hs.1]; exact Nat.le_refl _)] at h
end

section
variable {P : Program} {t e : TypeId} (ht : P.underlying t = some (.slice e)) (he : ∀ w, (Go.sizeOf e).run P w = .ok 1 w)
include ht he
theorem run_upto (A : Option Addr) (n c : Nat) (H : Int) (h : Nat) (hH : H = h) (hh : h ≤ c) (W : World) : (Instr.slice t (.slice A n c) none (some (.int .i64 H)) none).run P W = .ok (.slice A h c) W := by
  subst hH
  have ht' : P.underlying t = some (.slice (P.elem t)) := by simp [Program.elem, ht]
  have he' : P.elem t = e := by simp [Program.elem, ht]
  rw [run_slice_h W t _ _ _ ht' .i64 _ (by omega) (by omega), he', he]
  rcases A with _ | ⟨b, o, s⟩ <;> simp [Result.andThen, sliced, Addr.add]
theorem run_from (A : Option Addr) (n c : Nat) (L : Int) (l : Nat) (hL : L = l) (hl : l ≤ n) (W : World) : (Instr.slice t (.slice A n c) (some (.int .i64 L)) none none).run P W = .ok (.slice (cutAt A c l) (n - l) (c - l)) W := by
  subst hL
  have ht' : P.underlying t = some (.slice (P.elem t)) := by simp [Program.elem, ht]
  have he' : P.elem t = e := by simp [Program.elem, ht]
  rw [run_slice_l W t _ _ _ ht' .i64 _ (by omega) (by omega), he', he]
  simp [Result.andThen, sliced, cutAt]
theorem run_cut (A : Option Addr) (n c : Nat) (L H : Int) (l h : Nat) (hL : L = l) (hH : H = h) (hl : l ≤ h) (hh : h ≤ c) (W : World) :
    (Instr.slice t (.slice A n c) (some (.int .i64 L)) (some (.int .i64 H)) none).run P W = .ok (.slice (cutAt A c l) (h - l) (c - l)) W := by
  subst hL hH
  have ht' : P.underlying t = some (.slice (P.elem t)) := by simp [Program.elem, ht]
  have he' : P.elem t = e := by simp [Program.elem, ht]
  rw [run_slice_lh W t _ _ _ ht' .i64 .i64 _ _ (by omega) (by omega) (by omega), he', he]
  simp [Result.andThen, sliced, cutAt]
end
end Go.Proofs.Ytnopcnbeklbfoaa

/-! Numbers in bytes, read by the program: the number, or none; slices of any length. -/
namespace Go.Proofs.Ytnopcnbeklbfoaa
open Go.RowKit
set_option linter.unusedVariables false

/-- The number of k bytes from place a on, the greatest first. -/
def numTo (zs : List Int) (a : Nat) : Nat → Int
  | 0 => 0
  | k + 1 => numTo zs a k * 256 + zs.getD (a + k) 0

theorem numTo_bound (zs : List Int) (a : Nat) (hz : ∀ i, 0 ≤ zs.getD i 0 ∧ zs.getD i 0 < 256) : ∀ k, 0 ≤ numTo zs a k ∧ numTo zs a k < 256 ^ k
  | 0 => by simp [numTo]
  | k + 1 => by
    have := numTo_bound zs a hz k
    have := hz (a + k)
    simp only [numTo, Int.pow_succ]
    omega

theorem numTo_lt64 (zs : List Int) (a k : Nat) (hz : ∀ i, 0 ≤ zs.getD i 0 ∧ zs.getD i 0 < 256) (hk : k ≤ 8) : 0 ≤ numTo zs a k ∧ numTo zs a k ≤ 18446744073709551615 := by
  have h := numTo_bound zs a hz k
  have h2 : (256 : Int) ^ k ≤ 256 ^ 8 := by
    have : k = 0 ∨ k = 1 ∨ k = 2 ∨ k = 3 ∨ k = 4 ∨ k = 5 ∨ k = 6 ∨ k = 7 ∨ k = 8 := by omega
    rcases this with h | h | h | h | h | h | h | h | h <;> subst h <;> decide
  have h3 : (256 : Int) ^ 8 = 18446744073709551616 := by decide
  omega

theorem or_byte (v z : Int) (h0 : 0 ≤ v) (h1 : v * 256 + z ≤ 18446744073709551615) (h2 : 0 ≤ z) (h3 : z < 256) : bits .or .u64 (v * 256) z = v * 256 + z := by
  obtain ⟨a, rfl⟩ := Int.eq_ofNat_of_zero_le h0
  obtain ⟨b, rfl⟩ := Int.eq_ofNat_of_zero_le h2
  have e : ((a : Int) * 256) = ((a * 256 : Nat) : Int) := by omega
  rw [e, u64_or_nat (a * 256) b (by omega) (by omega), nat_join 8 (a * 256) b (by omega) (by omega)]
  omega

set_option maxHeartbeats 400000 in
theorem holds_any (A : Option Addr) (n c : Nat) (at_ k : Int) (w : World) (hn : n ≤ 9223372036854775807) (hk : 0 ≤ k ∧ k ≤ 16) (ha : -9223372036854775808 ≤ at_ ∧ at_ ≤ 9223372036854775807) (r : Bool) (hr : r = decide (0 ≤ at_ ∧ k ≤ n - at_)) :
    Calls Try.prog 57 #[.slice A n c, .int .i64 at_, .int .i64 k] w fun e w' => e = .returned (.bool r) ∧ w = w' := by
  obtain ⟨a0, a1⟩ := ha
  by_cases h0 : 0 ≤ at_
  · by_cases h1 : k ≤ (n : Int) - at_
    · obtain rfl : r = true := by rw [hr]; simp; omega
      clear hr
      go_enter Try.func57, Try.ntmps57
      go_wp2
      go_ret
      exact ⟨rfl, rfl⟩
    · obtain rfl : r = false := by rw [hr]; simp; omega
      clear hr
      go_enter Try.func57, Try.ntmps57
      go_wp2
      go_ret
      exact ⟨rfl, rfl⟩
  · obtain rfl : r = false := by rw [hr]; simp; omega
    clear hr
    go_enter Try.func57, Try.ntmps57
    go_wp2
    go_ret
    exact ⟨rfl, rfl⟩

set_option maxHeartbeats 400000 in
theorem numb_no (A : Option Addr) (n c : Nat) (at_ k : Int) (w : World) (h : ¬ (0 ≤ at_ ∧ k ≤ n - at_)) (hn : n ≤ 9223372036854775807) (hk : 0 ≤ k ∧ k ≤ 16) (ha : -9223372036854775808 ≤ at_ ∧ at_ ≤ 9223372036854775807) :
    Calls Try.prog 39 #[.slice A n c, .int .i64 at_, .int .i64 k] w fun e w' => e = .returned (.tuple #[.int .u64 0, .bool false]) ∧ w = w' := by
  have H := holds_any A n c at_ k w hn hk ha false (by simp; omega)
  have HH := Lib.hid H
  clear H h hk ha
  go_enter Try.func39, Try.ntmps39
  go_wp2_with (go_at_call 57; refine HH.out.mono ?_; rintro e w' ⟨rfl, rfl⟩)
  go_ret2
  exact ⟨rfl, rfl⟩

set_option maxHeartbeats 400000 in
theorem numb_yes (A : Option Addr) (n c k a : Nat) (zs : List Int) (w : World) (B : Nat) (hs : Shows w B A n zs) (h : a + k ≤ n) (hn : n ≤ 9223372036854775807) (hnc : n ≤ c) (hc63 : c ≤ maxLen) (hk0 : 0 < k) (hk : k ≤ 8) :
    Calls Try.prog 39 #[.slice A n c, .int .i64 a, .int .i64 k] w fun e w' => e = .returned (.tuple #[.int .u64 (numTo zs a k), .bool true]) ∧ w = w' := by
  have H := holds_any A n c a k w hn (by omega) (by omega) true (by simp; omega)
  have HH := Lib.hid H
  obtain ⟨b, o, rfl, _, hc⟩ := hs.at_ (by omega)
  have hz := hs.byte
  clear hs H
  have HC := Lib.hid hc
  have HZ := Lib.hid hz
  clear hc hz
  unfold maxLen at hc63
  go_enter Try.func39, Try.ntmps39
  go_wp2_with (go_at_call 57; refine HH.out.mono ?_; rintro e w' ⟨rfl, rfl⟩)
  go_loop [8, 23] (fun v i => ∃ j : Nat, j ≤ k ∧ i = .int .i64 j ∧ v = .int .u64 (numTo zs a j)) (fun _ i => k - (intOf i).toNat)
  case atStart => exact ⟨0, by omega, rfl, rfl⟩
  case round =>
    obtain ⟨j, hj, rfl, rfl⟩ := hrel
    by_cases hlt : j < k
    · have hcell := HC.out (a + j) (by omega)
      rw [← Nat.add_assoc] at hcell
      have hzb := HZ.out (a + j)
      have hb := numTo_lt64 zs a j HZ.out (by omega)
      have hb2 := numTo_lt64 zs a (j + 1) HZ.out (by omega)
      simp only [numTo] at hb2
      go_wp2
      go_round
      case rel => exact ⟨j + 1, by omega, by go_num, by
        have e : zs[a + j]?.getD 0 = zs.getD (a + j) 0 := by simp [List.getD]
        rw [e, IntWalk.u64_in (zs.getD (a + j) 0) (by omega), or_byte _ _ hb.1 hb2.2 hzb.1 hzb.2]; rfl⟩
      case measure => simp [intOf]; omega
    · obtain rfl : j = k := by omega
      go_wp2
      go_ret2
      exact ⟨rfl, rfl⟩

/-- words.Get, words.Get64: there are no so many bytes. -/
theorem get_no (A : Option Addr) (n c : Nat) (at_ : Int) (w : World) (h : ¬ (0 ≤ at_ ∧ 4 ≤ n - at_)) (hn : n ≤ 9223372036854775807) (ha : -9223372036854775808 ≤ at_ ∧ at_ ≤ 9223372036854775807) :
    Calls Try.prog 21 #[.slice A n c, .int .i64 at_] w fun e w' => e = .returned (.tuple #[.int .u32 0, .bool false]) ∧ w = w' := by
  have HH := Lib.hid (numb_no A n c at_ 4 w h hn (by omega) ha)
  clear h
  go_enter Try.func21, Try.ntmps21
  go_wp2_with (go_at_call 39; refine HH.out.mono ?_; rintro e w' ⟨rfl, rfl⟩)
  go_ret2
  exact ⟨rfl, rfl⟩
theorem get_yes (A : Option Addr) (n c a : Nat) (zs : List Int) (w : World) (B : Nat) (hs : Shows w B A n zs) (h : a + 4 ≤ n) (hn : n ≤ 9223372036854775807) (hnc : n ≤ c) (hc63 : c ≤ maxLen) :
    Calls Try.prog 21 #[.slice A n c, .int .i64 a] w fun e w' => e = .returned (.tuple #[.int .u32 (numTo zs a 4), .bool true]) ∧ w = w' := by
  have HH := Lib.hid (numb_yes A n c 4 a zs w B hs h hn hnc hc63 (by omega) (by omega))
  have hb := numTo_bound zs a hs.byte 4
  have hb1 : 0 ≤ numTo zs a 4 := hb.1
  have hb2 : numTo zs a 4 ≤ 4294967295 := by have := hb.2; have e : (256 : Int) ^ 4 = 4294967296 := by decide
                                             omega
  clear hb hs h hnc hc63
  go_enter Try.func21, Try.ntmps21
  go_wp2_with (go_at_call 39; refine HH.out.mono ?_; rintro e w' ⟨rfl, rfl⟩)
  go_ret2
  exact ⟨rfl, rfl⟩
end Go.Proofs.Ytnopcnbeklbfoaa

/-! Names, byte by byte: letters, digits, marks; the program's and the document's tests. -/
namespace Go.Proofs.Ytnopcnbeklbfoaa
open Go.RowKit
set_option linter.unusedVariables false
set_option linter.unusedSimpArgs false

def letB (c : Int) : Bool := decide ((97 ≤ c ∧ c ≤ 122) ∨ (65 ≤ c ∧ c ≤ 90))
def digB (c : Int) : Bool := decide (48 ≤ c ∧ c ≤ 57)
def markB (c : Int) : Bool := decide (c = 44 ∨ c = 46 ∨ c = 95 ∨ c = 43 ∨ c = 45)
def stB (c : Int) : Bool := letB c || digB c || markB c

set_option maxHeartbeats 400000 in
theorem letter_any (c : Int) (w : World) (h : 0 ≤ c ∧ c ≤ 255) (r : Bool) (hr : r = letB c) :
    Calls Try.prog 92 #[.int .u8 c] w fun e w' => e = .returned (.bool r) ∧ w = w' := by
  have HR := Lib.hid hr
  clear hr
  go_enter Try.func92, Try.ntmps92
  go_wp2
  all_goals
    go_ret
    refine ⟨congrArg (fun b => Ending.returned (.bool b)) ?_, rfl⟩
    rw [HR.out, Bool.eq_iff_iff]
    simp only [letB, Bool.or_eq_true, Bool.and_eq_true, decide_eq_true_eq]
    try simp
    try omega

set_option maxHeartbeats 400000 in
theorem digit_any (c : Int) (w : World) (h : 0 ≤ c ∧ c ≤ 255) (r : Bool) (hr : r = digB c) :
    Calls Try.prog 93 #[.int .u8 c] w fun e w' => e = .returned (.bool r) ∧ w = w' := by
  have HR := Lib.hid hr
  clear hr
  go_enter Try.func93, Try.ntmps93
  go_wp2
  all_goals
    go_ret
    refine ⟨congrArg (fun b => Ending.returned (.bool b)) ?_, rfl⟩
    rw [HR.out, Bool.eq_iff_iff]
    simp only [digB, Bool.or_eq_true, Bool.and_eq_true, decide_eq_true_eq]
    try simp
    try omega

end Go.Proofs.Ytnopcnbeklbfoaa

/-! name.isMadeOf: a text of 1 to 31 bytes, each of which may stand. -/
namespace Go.Proofs.Ytnopcnbeklbfoaa
open Go.RowKit
set_option linter.unusedVariables false
set_option linter.unusedSimpArgs false

def okM (marks : List UInt8) (c : UInt8) : Bool := letB c.toNat || digB c.toNat || decide (0 ≤ Lib.indexByte marks c)
/-- Made of letters, digits and the marks. -/
def madeB (marks l : List UInt8) : Bool := decide (1 ≤ l.length) && decide (l.length ≤ 31) && l.all (okM marks)

theorem size_len (s : ByteArray) : s.data.toList.length = s.size := rfl
theorem byte_le (c : UInt8) : 0 ≤ (c.toNat : Int) ∧ (c.toNat : Int) ≤ 255 := by have := c.toNat_lt; omega
theorem byte_back (c : UInt8) : ((c.toNat : Int).toNat).toUInt8 = c := by simp
theorem at_mem (s : ByteArray) (k : Nat) (h : k < s.size) : s[k] ∈ s.data.toList := by
  have : s[k] = s.data[k]'(by simpa using h) := rfl
  rw [this]; simp
theorem all_at (s : ByteArray) (p : UInt8 → Bool) (h : ∀ k (hk : k < s.size), p s[k] = true) : s.data.toList.all p = true := by
  rw [List.all_eq_true]
  intro x hx
  obtain ⟨k, hk, rfl⟩ := List.getElem_of_mem hx
  exact h k hk
theorem not_all (s : ByteArray) (p : UInt8 → Bool) (k : Nat) (hk : k < s.size) (h : p s[k] = false) : s.data.toList.all p = false := by
  rw [Bool.eq_false_iff]
  intro e
  rw [List.all_eq_true] at e
  have := e _ (at_mem s k hk)
  rw [h] at this; cases this

theorem indexs_any (m : ByteArray) (c : UInt8) (w : World) (r : Int) (hr : r = Lib.indexByte m.data.toList c) :
    Calls Try.prog 94 #[.string m, .int .u8 c.toNat] w fun e w' => e = .returned (.int .i64 r) ∧ w = w' :=
  (Go.Proofs.Try.strings_IndexByte m c.toNat w).mono fun e w' ⟨h1, h2⟩ => ⟨by rw [h1, byte_back, hr], h2.symm⟩

set_option maxHeartbeats 1000000 in
theorem made_any (s m : ByteArray) (w : World) (hs : s.size ≤ 140737488351232) (r : Bool) (hr : r = madeB m.data.toList s.data.toList) :
    Calls Try.prog 87 #[.string s, .string m] w fun e w' => e = .returned (.bool r) ∧ w = w' := by
  have HR := Lib.hid hr
  clear hr
  have L := Lib.hid (size_len s)
  by_cases h1 : s.size < 1
  · obtain rfl : r = false := by rw [HR.out]; unfold madeB; rw [L.out, decide_eq_false (by omega)]; rfl
    go_enter Try.func87, Try.ntmps87
    go_wp2
    go_ret
    exact ⟨rfl, rfl⟩
  by_cases h2 : 31 < s.size
  · obtain rfl : r = false := by rw [HR.out]; unfold madeB; rw [L.out, decide_eq_false (p := s.size ≤ 31) (by omega), Bool.and_false]; rfl
    go_enter Try.func87, Try.ntmps87
    go_wp2
    go_ret
    exact ⟨rfl, rfl⟩
  go_enter Try.func87, Try.ntmps87
  go_wp2
  go_loop [16] (fun i => ∃ k : Nat, k ≤ s.size ∧ i = .int .i64 k ∧ ∀ j (hj : j < s.size), j < k → okM m.data.toList s[j] = true) (fun i => s.size - (intOf i).toNat)
  case atStart => exact ⟨0, Nat.zero_le _, rfl, fun _ _ h => absurd h (by omega)⟩
  case round =>
    obtain ⟨k, hk, rfl, hall⟩ := hrel
    have HA := Lib.hid hall
    clear hall
    by_cases hlt : k < s.size
    · have hb := byte_le s[k]
      have fine : okM m.data.toList s[k] = true → Hid (∀ j (hj : j < s.size), j < k + 1 → okM m.data.toList s[j] = true) := fun h j hj hjk => by
        by_cases e : j = k
        · subst e; exact h
        · exact HA.out j hj (by omega)
      have bad : okM m.data.toList s[k] = false → r = false := fun h => by
        rw [HR.out]; unfold madeB; rw [not_all s _ k hlt h, Bool.and_false]
      cases hl : letB (s[k].toNat : Int)
      · cases hd : digB (s[k].toNat : Int)
        · by_cases hm : 0 ≤ Lib.indexByte m.data.toList s[k]
          · have HF := fine (by unfold okM; rw [hl, hd, decide_eq_true hm]; rfl)
            obtain ⟨q, hq⟩ : ∃ q, q = Lib.indexByte m.data.toList s[k] := ⟨_, rfl⟩
            have hq0 : 0 ≤ q := by rw [hq]; exact hm
            have C1 := Lib.hid (letter_any s[k].toNat w hb false hl.symm)
            have C2 := Lib.hid (digit_any s[k].toNat w hb false hd.symm)
            have C3 := Lib.hid (indexs_any m s[k] w q hq)
            clear fine bad hl hd hm hq
            go_wp2_with (first | (go_at_call 92; refine C1.out.mono ?_; rintro e w' ⟨rfl, rfl⟩) | (go_at_call 93; refine C2.out.mono ?_; rintro e w' ⟨rfl, rfl⟩) | (go_at_call 94; refine C3.out.mono ?_; rintro e w' ⟨rfl, rfl⟩))
            go_round
            case rel => exact ⟨k + 1, by omega, by go_num, HF⟩
            case measure => simp [intOf]; omega
          · obtain rfl := bad (by unfold okM; rw [hl, hd, decide_eq_false hm]; rfl)
            obtain ⟨q, hq⟩ : ∃ q, q = Lib.indexByte m.data.toList s[k] := ⟨_, rfl⟩
            have hq0 : q < 0 := by rw [hq]; omega
            have C1 := Lib.hid (letter_any s[k].toNat w hb false hl.symm)
            have C2 := Lib.hid (digit_any s[k].toNat w hb false hd.symm)
            have C3 := Lib.hid (indexs_any m s[k] w q hq)
            clear fine bad hl hd hm hq
            go_wp2_with (first | (go_at_call 92; refine C1.out.mono ?_; rintro e w' ⟨rfl, rfl⟩) | (go_at_call 93; refine C2.out.mono ?_; rintro e w' ⟨rfl, rfl⟩) | (go_at_call 94; refine C3.out.mono ?_; rintro e w' ⟨rfl, rfl⟩))
            go_ret
            exact ⟨rfl, rfl⟩
        · have HF := fine (by unfold okM; rw [hl, hd]; rfl)
          have C1 := Lib.hid (letter_any s[k].toNat w hb false hl.symm)
          have C2 := Lib.hid (digit_any s[k].toNat w hb true hd.symm)
          clear fine bad hl hd
          go_wp2_with (first | (go_at_call 92; refine C1.out.mono ?_; rintro e w' ⟨rfl, rfl⟩) | (go_at_call 93; refine C2.out.mono ?_; rintro e w' ⟨rfl, rfl⟩))
          go_round
          case rel => exact ⟨k + 1, by omega, by go_num, HF⟩
          case measure => simp [intOf]; omega
      · have HF := fine (by unfold okM; rw [hl]; rfl)
        have C1 := Lib.hid (letter_any s[k].toNat w hb true hl.symm)
        clear fine bad hl
        go_wp2_with (go_at_call 92; refine C1.out.mono ?_; rintro e w' ⟨rfl, rfl⟩)
        go_round
        case rel => exact ⟨k + 1, by omega, by go_num, HF⟩
        case measure => simp [intOf]; omega
    · have HT : r = true := by
        rw [HR.out]; unfold madeB
        rw [L.out, decide_eq_true (by omega), decide_eq_true (by omega), all_at s _ (fun j hj => HA.out j hj (by omega))]; rfl
      obtain rfl := HT
      go_wp2
      go_ret
      exact ⟨rfl, rfl⟩
end Go.Proofs.Ytnopcnbeklbfoaa

/-! A text parted at the first @: the program's, the library's and the document's functions. -/
namespace Go.Proofs.Ytnopcnbeklbfoaa
open Go.RowKit
set_option linter.unusedVariables false
set_option linter.unusedSimpArgs false

/-- The first @ is at i. -/
def CutAt (s : ByteArray) (i : Nat) : Prop := i < s.size ∧ Lib.indexByte s.data.toList 64 = (i : Int)
/-- There is none. -/
def NoCut (s : ByteArray) : Prop := Lib.indexByte s.data.toList 64 = -1

theorem index_size (l : List UInt8) (c : UInt8) (i : Nat) (h : Lib.indexByte l c = i) : i < l.length := by
  have h1 := (Lib.indexByte_some h).1
  rcases Nat.lt_or_ge i l.length with h | h
  · exact h
  · rw [List.getElem?_eq_none h] at h1; cases h1
theorem cut_or_not (s : ByteArray) : NoCut s ∨ ∃ i, CutAt s i := by
  have hge := Lib.indexByte_ge s.data.toList 64
  by_cases hn : Lib.indexByte s.data.toList 64 = -1
  · exact .inl hn
  · refine .inr ⟨(Lib.indexByte s.data.toList 64).toNat, ?_, by omega⟩
    exact index_size s.data.toList 64 _ (by omega)
theorem elem_at (s : ByteArray) (k : Nat) (hk : k < s.size) : s.data.toList[k]? = some s[k] := by
  rw [List.getElem?_eq_getElem (show k < s.data.toList.length from hk)]; rfl
theorem NoCut.ne {s : ByteArray} (h : NoCut s) (k : Nat) (hk : k < s.size) : s[k] ≠ 64 := fun e => Lib.indexByte_none h k (by rw [elem_at s k hk, e])
theorem CutAt.at_ {s : ByteArray} {i : Nat} (h : CutAt s i) : s[i]'h.1 = 64 := by
  have h1 := (Lib.indexByte_some h.2).1
  rw [elem_at s i h.1] at h1
  exact Option.some.inj h1
theorem CutAt.ne {s : ByteArray} {i : Nat} (h : CutAt s i) (k : Nat) (hk : k < i) : s[k]'(Nat.lt_trans hk h.1) ≠ 64 := fun e =>
  (Lib.indexByte_some h.2).2 k hk (by rw [elem_at s k (Nat.lt_trans hk h.1), e])
theorem byte_ne (c d : UInt8) (h : c ≠ d) : ((c.toNat : Int) == (d.toNat : Int)) = false := by
  rw [beq_eq_false_iff_ne]; intro e; exact h (UInt8.toNat.inj (by omega))

set_option maxHeartbeats 400000 in
theorem lite_none (s : ByteArray) (w : World) (h : NoCut s) :
    Calls Try.prog 95 #[.string s, .string ⟨#[64]⟩] w fun e w' => e = .returned (.tuple #[.string s, .string ByteArray.empty, .bool false]) ∧ w = w' := by
  have C := Lib.hid (Go.Proofs.Try.stringslite_Index_one s 64 w)
  rw [h] at C
  clear h
  go_enter Try.func95, Try.ntmps95
  go_wp2_with (go_at_call 97; refine C.out.mono ?_; rintro e w' ⟨rfl, rfl⟩)
  go_ret3
  exact ⟨rfl, rfl⟩

set_option maxHeartbeats 1000000 in
theorem lite_some (s : ByteArray) (i : Nat) (w : World) (h : CutAt s i) (hs : s.size ≤ 140737488351232) :
    Calls Try.prog 95 #[.string s, .string ⟨#[64]⟩] w fun e w' => e = .returned (.tuple #[.string (s.extract 0 i), .string (s.extract (i + 1) s.size), .bool true]) ∧ w' = w.drewN 1 := by
  have C := Lib.hid (Go.Proofs.Try.stringslite_Index_one s 64 w)
  have hi := h.1
  rw [h.2] at C
  clear h
  have c1 : (0 : Int) ≤ ↑i := by omega
  have c2 : (↑i : Int) ≤ ↑s.size := by omega
  have c3 : (0 : Int) ≤ ↑i + 1 := by omega
  have c4 : (↑i + 1 : Int) ≤ ↑s.size := by omega
  have e1 : IntKind.i64.wrap ((i : Int) + 1) = (i : Int) + 1 := IntWalk.i64_in _ (by omega)
  have e2 : ((i : Int) + 1).toNat = i + 1 := by omega
  go_enter Try.func95, Try.ntmps95
  go_wp2_with (go_at_call 97; refine C.out.mono ?_; rintro e w' ⟨rfl, rfl⟩)
  go_region
  go_wp2
  go_ret3
  exact ⟨rfl, rfl⟩

theorem cut_none (s : ByteArray) (w : World) (h : NoCut s) :
    Calls Try.prog 90 #[.string s, .string ⟨#[64]⟩] w fun e w' => e = .returned (.tuple #[.string s, .string ByteArray.empty, .bool false]) ∧ w = w' := by
  have C := Lib.hid (lite_none s w h)
  clear h
  go_enter Try.func90, Try.ntmps90
  go_wp2_with (go_at_call 95; refine C.out.mono ?_; rintro e w' ⟨rfl, rfl⟩)
  go_ret3
  exact ⟨rfl, rfl⟩
theorem cut_some (s : ByteArray) (i : Nat) (w : World) (h : CutAt s i) (hs : s.size ≤ 140737488351232) :
    Calls Try.prog 90 #[.string s, .string ⟨#[64]⟩] w fun e w' => e = .returned (.tuple #[.string (s.extract 0 i), .string (s.extract (i + 1) s.size), .bool true]) ∧ w' = w.drewN 1 := by
  have C := Lib.hid (lite_some s i w h hs)
  clear h
  go_enter Try.func90, Try.ntmps90
  go_wp2_with (go_at_call 95; refine C.out.mono ?_; rintro e w' ⟨rfl, rfl⟩)
  go_ret3
  exact ⟨rfl, rfl⟩
end Go.Proofs.Ytnopcnbeklbfoaa

/-! name.Node and name.Prop: what the program answers, as a test on the bytes. -/
namespace Go.Proofs.Ytnopcnbeklbfoaa
open Go.RowKit
set_option linter.unusedVariables false
set_option linter.unusedSimpArgs false

def nodeMarks : List UInt8 := [44, 46, 95, 43, 45]
def propMarks : List UInt8 := [44, 46, 95, 43, 45, 63, 35]
def firstB (l : List UInt8) : Bool := letB (l.getD 0 0).toNat || decide ((l.getD 0 0).toNat = 95)
def baseB (l : List UInt8) : Bool := madeB nodeMarks l && firstB l

theorem first_at (s : ByteArray) (h : 0 < s.size) : s.data.toList.getD 0 0 = s[0] := by
  rw [List.getD, elem_at s 0 h]; rfl
theorem made_pos {m l : List UInt8} (h : madeB m l = true) : 0 < l.length := by
  unfold madeB at h
  rw [Bool.and_eq_true, Bool.and_eq_true, decide_eq_true_eq] at h
  omega

set_option maxHeartbeats 400000 in
theorem base_any (s : ByteArray) (w : World) (hs : s.size ≤ 140737488351232) (r : Bool) (hr : r = baseB s.data.toList) :
    Calls Try.prog 91 #[.string s] w fun e w' => e = .returned (.bool r) ∧ w = w' := by
  cases hm : madeB nodeMarks s.data.toList
  · obtain rfl : r = false := by rw [hr, baseB, hm]; rfl
    have C := Lib.hid (made_any s ⟨#[44, 46, 95, 43, 45]⟩ w hs false hm.symm)
    clear hr hm
    go_enter Try.func91, Try.ntmps91
    go_wp2_with (go_at_call 87; refine C.out.mono ?_; rintro e w' ⟨rfl, rfl⟩)
    go_ret
    exact ⟨rfl, rfl⟩
  · have C := Lib.hid (made_any s ⟨#[44, 46, 95, 43, 45]⟩ w hs true hm.symm)
    have h0 : 0 < s.size := made_pos hm
    have hf := first_at s h0
    have hb := byte_le s[0]
    cases hl : letB (s[0].toNat : Int)
    · have HE : r = ((s[0].toNat : Int) == 95) := by
        rw [hr, baseB, hm, firstB, hf, hl, Bool.true_and, Bool.false_or, Bool.eq_iff_iff]; simp; omega
      have C2 := Lib.hid (letter_any s[0].toNat w hb false hl.symm)
      have HR := Lib.hid HE
      clear hr hm hf HE hl
      go_enter Try.func91, Try.ntmps91
      go_wp2_with (first | (go_at_call 87; refine C.out.mono ?_; rintro e w' ⟨rfl, rfl⟩) | (go_at_call 92; refine C2.out.mono ?_; rintro e w' ⟨rfl, rfl⟩))
      go_ret
      exact ⟨congrArg (fun b => Ending.returned (.bool b)) HR.out.symm, rfl⟩
    · obtain rfl : r = true := by rw [hr, baseB, hm, firstB, hf, hl]; rfl
      have C2 := Lib.hid (letter_any s[0].toNat w hb true hl.symm)
      clear hr hm hf hl
      go_enter Try.func91, Try.ntmps91
      go_wp2_with (first | (go_at_call 87; refine C.out.mono ?_; rintro e w' ⟨rfl, rfl⟩) | (go_at_call 92; refine C2.out.mono ?_; rintro e w' ⟨rfl, rfl⟩))
      go_ret
      exact ⟨rfl, rfl⟩

/-- A node's name, without an @. -/
theorem node_none (s : ByteArray) (w : World) (h : NoCut s) (hs : s.size ≤ 140737488351232) (r : Bool) (hr : r = baseB s.data.toList) :
    Calls Try.prog 86 #[.string s] w fun e w' => e = .returned (.bool r) ∧ w = w' := by
  have C := Lib.hid (cut_none s w h)
  have C2 := Lib.hid (base_any s w hs r hr)
  clear h hr
  go_enter Try.func86, Try.ntmps86
  cases r
  all_goals
    go_wp2_with (first | (go_at_call 90; refine C.out.mono ?_; rintro e w' ⟨rfl, rfl⟩) | (go_at_call 91; refine C2.out.mono ?_; rintro e w' ⟨rfl, rfl⟩))
    go_ret
    exact ⟨rfl, rfl⟩

/-- A node's name, with an @ at i. -/
theorem node_some (s : ByteArray) (i : Nat) (w : World) (h : CutAt s i) (hs : s.size ≤ 140737488351232) (r1 r2 : Bool) (hr1 : r1 = baseB (s.extract 0 i).data.toList) (hr2 : r2 = madeB nodeMarks (s.extract (i + 1) s.size).data.toList) :
    Calls Try.prog 86 #[.string s] w fun e w' => e = .returned (.bool (r1 && r2)) ∧ w' = w.drewN 1 := by
  have C := Lib.hid (cut_some s i w h hs)
  have C2 := Lib.hid (base_any (s.extract 0 i) (w.drewN 1) (by rw [ByteArray.size_extract]; omega) r1 hr1)
  have C3 := Lib.hid (made_any (s.extract (i + 1) s.size) ⟨#[44, 46, 95, 43, 45]⟩ (w.drewN 1) (by rw [ByteArray.size_extract]; omega) r2 hr2)
  clear h hr1 hr2
  go_enter Try.func86, Try.ntmps86
  cases r1
  all_goals
    go_wp2_with (first | (go_at_call 90; refine C.out.mono ?_; rintro e w' ⟨rfl, rfl⟩) | (go_at_call 91; refine C2.out.mono ?_; rintro e w' ⟨rfl, rfl⟩) | (go_at_call 87; refine C3.out.mono ?_; rintro e w' ⟨rfl, rfl⟩))
    go_ret
    exact ⟨rfl, rfl⟩
end Go.Proofs.Ytnopcnbeklbfoaa

/-! The document's functions of names: the same tests on the bytes. -/
namespace Go.Proofs.Ytnopcnbeklbfoaa
open Go.RowKit
set_option linter.unusedVariables false
set_option linter.unusedSimpArgs false

set_option maxHeartbeats 1000000 in
theorem stands_any (c : Int) (w : World) (h : 0 ≤ c ∧ c ≤ 255) (r : Bool) (hr : r = stB c) :
    Calls Try.prog 59 #[.int .u8 c] w fun e w' => e = .returned (.bool r) ∧ w = w' := by
  have HR := Lib.hid hr
  clear hr
  go_enter Try.func59, Try.ntmps59
  go_wp2
  all_goals
    go_ret
    refine ⟨congrArg (fun b => Ending.returned (.bool b)) ?_, rfl⟩
    rw [HR.out, Bool.eq_iff_iff]
    simp only [stB, letB, digB, markB, Bool.or_eq_true, Bool.and_eq_true, decide_eq_true_eq, beq_iff_eq]
    try simp
    try omega
set_option maxRecDepth 100000 in
theorem node_marks : ∀ n : Fin 256, okM nodeMarks (UInt8.ofNat n.val) = stB n.val := by decide
theorem node_ok (c : UInt8) : okM nodeMarks c = stB c.toNat := by
  have h := node_marks ⟨c.toNat, c.toNat_lt⟩
  simpa using h
def stP (c : Int) : Bool := stB c || decide (c = 63) || decide (c = 35)
set_option maxRecDepth 100000 in
theorem prop_marks : ∀ n : Fin 256, okM propMarks (UInt8.ofNat n.val) = stP n.val := by decide
theorem prop_ok (c : UInt8) : okM propMarks c = stP c.toNat := by
  have h := prop_marks ⟨c.toNat, c.toNat_lt⟩
  simpa using h

set_option maxHeartbeats 400000 in
theorem refcut_any (s : ByteArray) (w : World) (hs : s.size ≤ 140737488351232) (r : Int) (hr : r = Lib.indexByte s.data.toList 64) :
    Calls Try.prog 58 #[.string s] w fun e w' => e = .returned (.int .i64 r) ∧ w = w' := by
  rcases cut_or_not s with h | ⟨i, h⟩
  · obtain rfl : r = -1 := hr.trans h
    have H := Lib.hid h
    clear hr h
    go_enter Try.func58, Try.ntmps58
    go_wp2
    go_loop [6] (fun i => ∃ k : Nat, k ≤ s.size ∧ i = .int .i64 k) (fun i => s.size - (intOf i).toNat)
    case atStart => exact ⟨0, Nat.zero_le _, rfl⟩
    case round =>
      obtain ⟨k, hk, rfl⟩ := hrel
      by_cases hlt : k < s.size
      · have hne : ((s[k].toNat : Int) == 64) = false := byte_ne s[k] 64 (H.out.ne k hlt)
        go_wp2
        go_round
        case rel => exact ⟨k + 1, by omega, by go_num⟩
        case measure => simp [intOf]; omega
      · go_wp2
        go_ret
        exact ⟨rfl, rfl⟩
  · obtain rfl : r = (i : Int) := hr.trans h.2
    have H := Lib.hid h
    have hi := h.1
    clear hr h
    go_enter Try.func58, Try.ntmps58
    go_wp2
    go_loop [6] (fun x => ∃ k : Nat, k ≤ i ∧ x = .int .i64 k) (fun i => s.size - (intOf i).toNat)
    case atStart => exact ⟨0, Nat.zero_le _, rfl⟩
    case round =>
      obtain ⟨k, hk, rfl⟩ := hrel
      have hlt : k < s.size := by omega
      by_cases hki : k < i
      · have hne : ((s[k].toNat : Int) == 64) = false := byte_ne s[k] 64 (H.out.ne k hki)
        go_wp2
        go_round
        case rel => exact ⟨k + 1, by omega, by go_num⟩
        case measure => simp [intOf]; omega
      · obtain rfl : k = i := by omega
        have heq : ((s[k].toNat : Int) == 64) = true := by rw [H.out.at_]; rfl
        go_wp2
        go_ret
        exact ⟨rfl, rfl⟩

set_option maxHeartbeats 1000000 in
theorem refprop_any (s : ByteArray) (w : World) (hs : s.size ≤ 140737488351232) (r : Bool) (hr : r = madeB propMarks s.data.toList) :
    Calls Try.prog 42 #[.string s] w fun e w' => e = .returned (.bool r) ∧ w = w' := by
  have HR := Lib.hid hr
  clear hr
  have L := Lib.hid (size_len s)
  go_enter Try.func42, Try.ntmps42
  go_wp2
  go_loop [6] (fun i => ∃ k : Nat, k ≤ s.size ∧ i = .int .i64 k ∧ ∀ j (hj : j < s.size), j < k → okM propMarks s[j] = true) (fun i => s.size - (intOf i).toNat)
  case atStart => exact ⟨0, Nat.zero_le _, rfl, fun _ _ h => absurd h (by omega)⟩
  case round =>
    obtain ⟨k, hk, rfl, hall⟩ := hrel
    have HA := Lib.hid hall
    clear hall
    by_cases hlt : k < s.size
    · have hb := byte_le s[k]
      have fine : okM propMarks s[k] = true → Hid (∀ j (hj : j < s.size), j < k + 1 → okM propMarks s[j] = true) := fun h j hj hjk => by
        by_cases e : j = k
        · subst e; exact h
        · exact HA.out j hj (by omega)
      have bad : okM propMarks s[k] = false → r = false := fun h => by
        rw [HR.out]; unfold madeB; rw [not_all s _ k hlt h, Bool.and_false]
      rw [prop_ok] at fine bad
      cases hl : stB (s[k].toNat : Int)
      · by_cases h1 : (s[k].toNat : Int) = 63 ∨ (s[k].toNat : Int) = 35
        · have HF := fine (by unfold stP; rw [hl]; rcases h1 with h | h <;> rw [h] <;> rfl)
          have C1 := Lib.hid (stands_any s[k].toNat w hb false hl.symm)
          have t1 : ((s[k].toNat : Int) == 63) = false → ((s[k].toNat : Int) == 35) = true := fun h => by
            rw [beq_eq_false_iff_ne] at h; rw [beq_iff_eq]; exact h1.resolve_left h
          clear fine bad hl h1
          cases e1 : ((s[k].toNat : Int) == 63)
          · have e2 := t1 e1
            have e3 : ((s[k].toNat : Int) != 63) = true := by rw [bne, e1]; rfl
            have e4 : ((s[k].toNat : Int) != 35) = false := by rw [bne, e2]; rfl
            clear t1
            go_wp2_with (go_at_call 59; refine C1.out.mono ?_; rintro e w' ⟨rfl, rfl⟩)
            go_round
            case rel => exact ⟨k + 1, by omega, by go_num, HF⟩
            case measure => simp [intOf]; omega
          · have e3 : ((s[k].toNat : Int) != 63) = false := by rw [bne, e1]; rfl
            clear t1
            go_wp2_with (go_at_call 59; refine C1.out.mono ?_; rintro e w' ⟨rfl, rfl⟩)
            go_round
            case rel => exact ⟨k + 1, by omega, by go_num, HF⟩
            case measure => simp [intOf]; omega
        · obtain rfl := bad (by unfold stP; rw [hl, decide_eq_false (by omega), decide_eq_false (by omega)]; rfl)
          have C1 := Lib.hid (stands_any s[k].toNat w hb false hl.symm)
          have e1 : ((s[k].toNat : Int) == 63) = false := by rw [beq_eq_false_iff_ne]; omega
          have e2 : ((s[k].toNat : Int) == 35) = false := by rw [beq_eq_false_iff_ne]; omega
          have e3 : ((s[k].toNat : Int) != 63) = true := by rw [bne, e1]; rfl
          have e4 : ((s[k].toNat : Int) != 35) = true := by rw [bne, e2]; rfl
          clear fine bad hl h1
          go_wp2_with (go_at_call 59; refine C1.out.mono ?_; rintro e w' ⟨rfl, rfl⟩)
          go_ret
          exact ⟨rfl, rfl⟩
      · have HF := fine (by unfold stP; rw [hl]; rfl)
        have C1 := Lib.hid (stands_any s[k].toNat w hb true hl.symm)
        clear fine bad hl
        go_wp2_with (go_at_call 59; refine C1.out.mono ?_; rintro e w' ⟨rfl, rfl⟩)
        go_round
        case rel => exact ⟨k + 1, by omega, by go_num, HF⟩
        case measure => simp [intOf]; omega
    · have HT : r = (decide (1 ≤ s.size) && decide (s.size ≤ 31)) := by
        rw [HR.out]; unfold madeB
        rw [L.out, all_at s _ (fun j hj => HA.out j hj (by omega)), Bool.and_true]
      by_cases h1 : 1 ≤ s.size
      · by_cases h2 : s.size ≤ 31
        · obtain rfl : r = true := by rw [HT, decide_eq_true h1, decide_eq_true h2]; rfl
          clear HT
          go_wp2
          go_ret
          exact ⟨congrArg (fun b => Ending.returned (.bool b)) (decide_eq_true (p := (s.size : Int) ≤ 31) (by omega)), rfl⟩
        · obtain rfl : r = false := by rw [HT, decide_eq_true h1, decide_eq_false h2]; rfl
          clear HT
          go_wp2
          go_ret
          exact ⟨congrArg (fun b => Ending.returned (.bool b)) (decide_eq_false (p := (s.size : Int) ≤ 31) (by omega)), rfl⟩
      · obtain rfl : r = false := by rw [HT, decide_eq_false h1]; rfl
        clear HT
        go_wp2
        go_ret
        exact ⟨rfl, rfl⟩

/-- All bytes but the one at i may stand. -/
def AllBut (s : ByteArray) (i : Int) (k : Nat) : Prop := ∀ j (hj : j < s.size), j < k → (j : Int) ≠ i → stB s[j].toNat = true

theorem AllBut.zero (s : ByteArray) (i : Int) : AllBut s i 0 := fun _ _ h => absurd h (by omega)
theorem AllBut.succ {s : ByteArray} {i : Int} {k : Nat} (h : AllBut s i k) (hk : k < s.size) (h1 : (k : Int) ≠ i → stB s[k].toNat = true) : AllBut s i (k + 1) := fun j hj hjk hne => by
  by_cases e : j = k
  · subst e; exact h1 hne
  · exact h j hj (by omega) hne

theorem made_true (s : ByteArray) (h1 : 1 ≤ s.size) (h2 : s.size ≤ 31) (h : ∀ j (hj : j < s.size), stB s[j].toNat = true) : madeB nodeMarks s.data.toList = true := by
  unfold madeB
  rw [size_len, decide_eq_true h1, decide_eq_true h2, all_at s _ (fun j hj => by rw [node_ok]; exact h j hj)]; rfl
theorem made_len (s : ByteArray) (h : ¬ (1 ≤ s.size ∧ s.size ≤ 31)) : madeB nodeMarks s.data.toList = false := by
  unfold madeB
  rw [size_len]
  by_cases h1 : 1 ≤ s.size
  · rw [decide_eq_false (p := s.size ≤ 31) (by omega), Bool.and_false]; rfl
  · rw [decide_eq_false h1]; rfl
theorem made_bad (s : ByteArray) (j : Nat) (hj : j < s.size) (h : stB s[j].toNat = false) : madeB nodeMarks s.data.toList = false := by
  unfold madeB
  rw [not_all s _ j hj (by rw [node_ok]; exact h), Bool.and_false]
end Go.Proofs.Ytnopcnbeklbfoaa

/-! The document's Node: the same test as the program's. -/
namespace Go.Proofs.Ytnopcnbeklbfoaa
open Go.RowKit
set_option linter.unusedVariables false
set_option linter.unusedSimpArgs false

set_option maxHeartbeats 2000000 in
theorem refnode_none (s : ByteArray) (w : World) (h : NoCut s) (hs : s.size ≤ 140737488351232) (r : Bool) (hr : r = baseB s.data.toList) :
    Calls Try.prog 41 #[.string s] w fun e w' => e = .returned (.bool r) ∧ w = w' := by
  have HR := Lib.hid hr
  have C := Lib.hid (refcut_any s w hs (-1) h.symm)
  clear hr h
  go_enter Try.func41, Try.ntmps41
  go_wp2_with (go_at_call 58; refine C.out.mono ?_; rintro e w' ⟨rfl, rfl⟩)
  go_loop [30] (fun i => ∃ k : Nat, k ≤ s.size ∧ i = .int .i64 k ∧ AllBut s (-1) k) (fun i => s.size - (intOf i).toNat)
  case atStart => exact ⟨0, Nat.zero_le _, rfl, AllBut.zero _ _⟩
  case round =>
    obtain ⟨k, hk, rfl, hall⟩ := hrel
    have HA := Lib.hid hall
    clear hall
    by_cases hlt : k < s.size
    · have hb := byte_le s[k]
      have hk1 : ((k : Int) == -1) = false := by rw [beq_eq_false_iff_ne]; omega
      have hk2 : ((k : Int) != -1) = true := by rw [bne, hk1]; rfl
      cases hl : stB (s[k].toNat : Int)
      · obtain rfl : r = false := by rw [HR.out, baseB, made_bad s k hlt hl]; rfl
        have C1 := Lib.hid (stands_any s[k].toNat w hb false hl.symm)
        clear hl
        go_wp2_with (go_at_call 59; refine C1.out.mono ?_; rintro e w' ⟨rfl, rfl⟩)
        go_ret
        exact ⟨rfl, rfl⟩
      · have HF := Lib.hid (HA.out.succ hlt (fun _ => hl))
        have C1 := Lib.hid (stands_any s[k].toNat w hb true hl.symm)
        clear hl
        go_wp2_with (go_at_call 59; refine C1.out.mono ?_; rintro e w' ⟨rfl, rfl⟩)
        go_round
        case rel => exact ⟨k + 1, by omega, by go_num, HF⟩
        case measure => simp [intOf]; omega
    · by_cases h1 : 1 ≤ s.size
      · by_cases h2 : s.size ≤ 31
        · have hm := made_true s h1 h2 (fun j hj => HA.out j hj (by omega) (by omega))
          have hf := first_at s (by omega)
          have HT : Hid (r = (letB s[0].toNat || decide (s[0].toNat = 95))) := by rw [HR.out, baseB, hm, Bool.true_and, firstB, hf]; rfl
          have hb := byte_le s[0]
          clear hm hf
          go_wp2
          all_goals
            go_ret
            refine ⟨congrArg (fun b => Ending.returned (.bool b)) ?_, rfl⟩
            rw [HT.out, Bool.eq_iff_iff]
            simp only [letB, Bool.or_eq_true, Bool.and_eq_true, decide_eq_true_eq, beq_iff_eq]
            try simp
            try omega
        · obtain rfl : r = false := by rw [HR.out, baseB, made_len s (by omega)]; rfl
          go_wp2
          go_ret
          exact ⟨rfl, rfl⟩
      · obtain rfl : r = false := by rw [HR.out, baseB, made_len s (by omega)]; rfl
        go_wp2
        go_ret
        exact ⟨rfl, rfl⟩

theorem ext_size (s : ByteArray) (a b : Nat) (h : b ≤ s.size) : (s.extract a b).size = b - a := by rw [ByteArray.size_extract]; omega
theorem head_at (s : ByteArray) (i j : Nat) (h : i ≤ s.size) (hj : j < i) : (s.extract 0 i)[j]'(by rw [ext_size _ _ _ h]; omega) = s[j] := by
  rw [ByteArray.getElem_extract]; simp only [Nat.zero_add]
theorem tail_at (s : ByteArray) (i j : Nat) (hj : j < (s.extract (i + 1) s.size).size) : (s.extract (i + 1) s.size)[j] = s[i + 1 + j]'(by rw [ext_size _ _ _ (Nat.le_refl _)] at hj; omega) :=
  ByteArray.getElem_extract hj

set_option maxHeartbeats 2000000 in
theorem refnode_some (s : ByteArray) (i : Nat) (w : World) (h : CutAt s i) (hs : s.size ≤ 140737488351232) (r : Bool) (hr : r = (baseB (s.extract 0 i).data.toList && madeB nodeMarks (s.extract (i + 1) s.size).data.toList)) :
    Calls Try.prog 41 #[.string s] w fun e w' => e = .returned (.bool r) ∧ w = w' := by
  have HR := Lib.hid hr
  have C := Lib.hid (refcut_any s w hs i h.2.symm)
  have hi := h.1
  have S1 := Lib.hid (ext_size s 0 i (by omega))
  have S2 := Lib.hid (ext_size s (i + 1) s.size (Nat.le_refl _))
  clear hr h
  by_cases hu : 1 ≤ s.size - (i + 1) ∧ s.size - (i + 1) ≤ 31
  · obtain ⟨hu1, hu2⟩ := hu
    have v1 : ¬ ((s.size : Int) - (i : Int) - 1 < 1) := by omega
    have v2 : ¬ (31 < (s.size : Int) - (i : Int) - 1) := by omega
    go_enter Try.func41, Try.ntmps41
    go_wp2_with (go_at_call 58; refine C.out.mono ?_; rintro e w' ⟨rfl, rfl⟩)
    go_loop [30] (fun x => ∃ k : Nat, k ≤ s.size ∧ x = .int .i64 k ∧ AllBut s i k) (fun i => s.size - (intOf i).toNat)
    case atStart => exact ⟨0, Nat.zero_le _, rfl, AllBut.zero _ _⟩
    case round =>
      obtain ⟨k, hk, rfl, hall⟩ := hrel
      have HA := Lib.hid hall
      clear hall
      by_cases hlt : k < s.size
      · have hb := byte_le s[k]
        by_cases hki : k = i
        · have HF := Lib.hid (HA.out.succ hlt (fun hne => absurd (by rw [hki]) hne))
          have hk1 : ((k : Int) == (i : Int)) = true := by rw [beq_iff_eq]; omega
          have hk2 : ((k : Int) != (i : Int)) = false := by rw [bne, hk1]; rfl
          clear hki
          go_wp2
          go_round
          case rel => exact ⟨k + 1, by omega, by go_num, HF⟩
          case measure => simp [intOf]; omega
        · have hk1 : ((k : Int) == (i : Int)) = false := by rw [beq_eq_false_iff_ne]; omega
          have hk2 : ((k : Int) != (i : Int)) = true := by rw [bne, hk1]; rfl
          cases hl : stB (s[k].toNat : Int)
          · have HT : r = false := by
              rw [HR.out]
              rcases Nat.lt_or_ge k i with hc | hc
              · rw [baseB, made_bad (s.extract 0 i) k (by rw [S1.out]; omega) (by rw [head_at s i k (by omega) hc]; exact hl)]; rfl
              · rw [made_bad (s.extract (i + 1) s.size) (k - (i + 1)) (by rw [S2.out]; omega) (by rw [tail_at]; simp only [show i + 1 + (k - (i + 1)) = k from by omega]; exact hl), Bool.and_false]
            obtain rfl := HT
            have C1 := Lib.hid (stands_any s[k].toNat w hb false hl.symm)
            clear hl
            go_wp2_with (go_at_call 59; refine C1.out.mono ?_; rintro e w' ⟨rfl, rfl⟩)
            go_ret
            exact ⟨rfl, rfl⟩
          · have HF := Lib.hid (HA.out.succ hlt (fun _ => hl))
            have C1 := Lib.hid (stands_any s[k].toNat w hb true hl.symm)
            clear hl
            go_wp2_with (go_at_call 59; refine C1.out.mono ?_; rintro e w' ⟨rfl, rfl⟩)
            go_round
            case rel => exact ⟨k + 1, by omega, by go_num, HF⟩
            case measure => simp [intOf]; omega
      · have hm2 : madeB nodeMarks (s.extract (i + 1) s.size).data.toList = true := made_true _ (by rw [S2.out]; omega) (by rw [S2.out]; omega) (fun j hj => by rw [tail_at]; exact HA.out _ _ (by have := hj; rw [S2.out] at this; omega) (by omega))
        by_cases h1 : 1 ≤ i
        · by_cases h2 : i ≤ 31
          · have hm := made_true (s.extract 0 i) (by rw [S1.out]; omega) (by rw [S1.out]; omega) (fun j hj => by
              have hji : j < i := by rw [S1.out] at hj; omega
              rw [head_at s i j (by omega) hji]; exact HA.out j _ (by omega) (by omega))
            have h0 : 0 < (s.extract 0 i).size := by rw [S1.out]; omega
            have hf := first_at (s.extract 0 i) h0
            have HT : Hid (r = (letB (s.extract 0 i)[0].toNat || decide ((s.extract 0 i)[0].toNat = 95))) := by rw [HR.out, baseB, hm, hm2, Bool.true_and, Bool.and_true, firstB, hf]; rfl
            have hb := byte_le (s.extract 0 i)[0]
            clear hm hm2 hf
            go_wp2
            all_goals
              go_ret
              refine ⟨congrArg (fun b => Ending.returned (.bool b)) ?_, rfl⟩
              rw [HT.out, Bool.eq_iff_iff]
              simp only [letB, Bool.or_eq_true, Bool.and_eq_true, decide_eq_true_eq, beq_iff_eq]
              try simp
              try omega
          · obtain rfl : r = false := by rw [HR.out, baseB, made_len (s.extract 0 i) (by rw [S1.out]; omega)]; rfl
            clear hm2
            go_wp2
            go_ret
            exact ⟨rfl, rfl⟩
        · obtain rfl : r = false := by rw [HR.out, baseB, made_len (s.extract 0 i) (by rw [S1.out]; omega)]; rfl
          clear hm2
          go_wp2
          go_ret
          exact ⟨rfl, rfl⟩
  · obtain rfl : r = false := by rw [HR.out, made_len (s.extract (i + 1) s.size) (by rw [S2.out]; exact hu), Bool.and_false]
    by_cases hu1 : (s.size : Int) - (i : Int) - 1 < 1
    · clear hu
      go_enter Try.func41, Try.ntmps41
      go_wp2_with (go_at_call 58; refine C.out.mono ?_; rintro e w' ⟨rfl, rfl⟩)
      go_ret
      exact ⟨rfl, rfl⟩
    · have hu2 : 31 < (s.size : Int) - (i : Int) - 1 := by omega
      clear hu
      go_enter Try.func41, Try.ntmps41
      go_wp2_with (go_at_call 58; refine C.out.mono ?_; rintro e w' ⟨rfl, rfl⟩)
      go_ret
      exact ⟨rfl, rfl⟩
end Go.Proofs.Ytnopcnbeklbfoaa

/-! Layer 3: a node as it lies in memory: its name, its properties, the nodes right below it, with their addresses. -/
namespace Go.Proofs.Ytnopcnbeklbfoaa
open Go.RowKit Go.ChangeShapes Go.WideShapes Go.Deep
set_option linter.unusedVariables false

/-- A property as it lies: its name, and the slice that is its value. -/
structure PV where
  name : ByteArray
  addr : Option Addr
  cap : Nat
  zs : List Int

def PV.val (p : PV) : Value := .slice p.addr p.zs.length p.cap

inductive Nd where
  | mk (name : ByteArray) (pa : Option Addr) (pc : Nat) (props : List PV) (ka : Option Addr) (kc : Nat) (kids : List Nd)

namespace Nd
def name : Nd → ByteArray | .mk n _ _ _ _ _ _ => n
def pa : Nd → Option Addr | .mk _ a _ _ _ _ _ => a
def pc : Nd → Nat | .mk _ _ c _ _ _ _ => c
def props : Nd → List PV | .mk _ _ _ l _ _ _ => l
def ka : Nd → Option Addr | .mk _ _ _ _ a _ _ => a
def kc : Nd → Nat | .mk _ _ _ _ _ c _ => c
def kids : Nd → List Nd | .mk _ _ _ _ _ _ l => l
def pv (n : Nd) : Value := .slice n.pa n.props.length n.pc
def kv (n : Nd) : Value := .slice n.ka n.kids.length n.kc
def val (n : Nd) : Value := .agg #[.string n.name, n.pv, n.kv]

theorem ind {p : Nd → Prop} (h : ∀ n, (∀ k ∈ n.kids, p k) → p n) (n : Nd) : p n := by
  have : ∀ m : Nat, ∀ n : Nd, SizeOf.sizeOf n ≤ m → p n := by
    intro m
    induction m with
    | zero => intro n hn; cases n; simp at hn
    | succ m ih =>
      intro n hn
      refine h n fun k hk => ih k ?_
      have h1 := List.sizeOf_lt_of_mem hk
      cases n with
      | mk a b c d e f g => simp only [Nd.mk.sizeOf_spec] at hn; simp only [kids] at h1; omega
  exact this _ n (Nat.le_refl _)
end Nd

/-- The property's name is a text, its value's bytes lie below block B. -/
def PV.In (w : World) (B : Nat) (p : PV) : Prop := (p.name.size ≤ 140737488351232 ∧ p.zs.length ≤ 140737488351232) ∧ Shows w B p.addr p.zs.length p.zs ∧ p.zs.length ≤ p.cap ∧ p.cap ≤ 9223372036854775807

/-- The cells of a row of properties. -/
def PRow (w : World) (B : Nat) (a : Option Addr) (l : List PV) : Prop :=
  0 < l.length → ∃ b o, a = some ⟨b, o, none⟩ ∧ b < B ∧ ∀ i (h : i < l.length), w.cell? ⟨b, o + i * 2, none⟩ = some (.string l[i].name) ∧ w.cell? ⟨b, o + i * 2 + 1, none⟩ = some l[i].val
def KRow (w : World) (B : Nat) (a : Option Addr) (l : List Nd) : Prop :=
  0 < l.length → ∃ b o, a = some ⟨b, o, none⟩ ∧ b < B ∧ ∀ i (h : i < l.length), w.cell? ⟨b, o + i * 3, none⟩ = some (.string l[i].name) ∧ w.cell? ⟨b, o + i * 3 + 1, none⟩ = some l[i].pv ∧ w.cell? ⟨b, o + i * 3 + 2, none⟩ = some l[i].kv

/-- The node lies in w, below block B. -/
inductive Nd.In (w : World) (B : Nat) : Nd → Prop where
  | mk (n : Nd) (h1 : n.name.size ≤ 140737488351232 ∧ n.props.length * 40 ≤ 140737488351232 ∧ n.kids.length * 64 ≤ 140737488351232) (h2 : n.props.length ≤ n.pc) (h3 : n.pc ≤ 9223372036854775807) (h4 : n.kids.length ≤ n.kc) (h5 : n.kc ≤ 9223372036854775807)
      (hp : PRow w B n.pa n.props) (hv : ∀ p ∈ n.props, p.In w B) (hk : KRow w B n.ka n.kids) (hk' : ∀ k ∈ n.kids, Nd.In w B k) : Nd.In w B n

section
variable {w w' : World} {B B' : Nat}
theorem PV.In.keep {p : PV} (h : p.In w B) (hk : ∀ a : Addr, a.block < B → w'.cell? a = w.cell? a) : p.In w' B := ⟨h.1, h.2.1.keep hk, h.2.2⟩
theorem PV.In.more {p : PV} (h : p.In w B) (hB : B ≤ B') : p.In w B' := ⟨h.1, h.2.1.more hB, h.2.2⟩
theorem PRow.keep {a : Option Addr} {l : List PV} (h : PRow w B a l) (hk : ∀ a : Addr, a.block < B → w'.cell? a = w.cell? a) : PRow w' B a l := fun h0 => by
  obtain ⟨b, o, e, hb, hc⟩ := h h0
  exact ⟨b, o, e, hb, fun i hi => ⟨(hk _ hb).trans (hc i hi).1, (hk _ hb).trans (hc i hi).2⟩⟩
theorem KRow.keep {a : Option Addr} {l : List Nd} (h : KRow w B a l) (hk : ∀ a : Addr, a.block < B → w'.cell? a = w.cell? a) : KRow w' B a l := fun h0 => by
  obtain ⟨b, o, e, hb, hc⟩ := h h0
  exact ⟨b, o, e, hb, fun i hi => ⟨(hk _ hb).trans (hc i hi).1, (hk _ hb).trans (hc i hi).2.1, (hk _ hb).trans (hc i hi).2.2⟩⟩
theorem PRow.more {a : Option Addr} {l : List PV} (h : PRow w B a l) (hB : B ≤ B') : PRow w B' a l := fun h0 => by
  obtain ⟨b, o, e, hb, hc⟩ := h h0
  exact ⟨b, o, e, by omega, hc⟩
theorem KRow.more {a : Option Addr} {l : List Nd} (h : KRow w B a l) (hB : B ≤ B') : KRow w B' a l := fun h0 => by
  obtain ⟨b, o, e, hb, hc⟩ := h h0
  exact ⟨b, o, e, by omega, hc⟩

theorem Nd.In.name_le {n : Nd} (h : n.In w B) : n.name.size ≤ 140737488351232 ∧ n.props.length * 40 ≤ 140737488351232 ∧ n.kids.length * 64 ≤ 140737488351232 := by cases h; assumption
theorem Nd.In.plen {n : Nd} (h : n.In w B) : n.props.length ≤ n.pc ∧ n.pc ≤ 9223372036854775807 := by cases h; exact ⟨by assumption, by assumption⟩
theorem Nd.In.klen {n : Nd} (h : n.In w B) : n.kids.length ≤ n.kc ∧ n.kc ≤ 9223372036854775807 := by cases h; exact ⟨by assumption, by assumption⟩
theorem Nd.In.prow {n : Nd} (h : n.In w B) : PRow w B n.pa n.props := by cases h; assumption
theorem Nd.In.krow {n : Nd} (h : n.In w B) : KRow w B n.ka n.kids := by cases h; assumption
theorem Nd.In.prop {n : Nd} (h : n.In w B) {p : PV} (hp : p ∈ n.props) : p.In w B := by cases h with | mk _ h1 h2 h3 h4 h5 h6 h7 h8 h9 => exact h7 p hp
theorem Nd.In.kid {n : Nd} (h : n.In w B) {k : Nd} (hk : k ∈ n.kids) : k.In w B := by cases h with | mk _ h1 h2 h3 h4 h5 h6 h7 h8 h9 => exact h9 k hk

theorem Nd.In.keep {n : Nd} (hk : ∀ a : Addr, a.block < B → w'.cell? a = w.cell? a) : n.In w B → n.In w' B :=
  Nd.ind (p := fun n => n.In w B → n.In w' B) (fun n ih h => .mk n h.name_le h.plen.1 h.plen.2 h.klen.1 h.klen.2 (h.prow.keep hk) (fun p hp => (h.prop hp).keep hk) (h.krow.keep hk) (fun k hk' => ih k hk' (h.kid hk'))) n
theorem Nd.In.more {n : Nd} (hB : B ≤ B') : n.In w B → n.In w B' :=
  Nd.ind (p := fun n => n.In w B → n.In w B') (fun n ih h => .mk n h.name_le h.plen.1 h.plen.2 h.klen.1 h.klen.2 (h.prow.more hB) (fun p hp => (h.prop hp).more hB) (h.krow.more hB) (fun k hk' => ih k hk' (h.kid hk'))) n
theorem Nd.In.under {n : Nd} (h : n.In w B) (hb : Below B w w') : n.In w' B := h.keep fun _ hp => hb.cell hp
/-- What a call that lays only new blocks leaves of a node. -/
theorem Nd.In.on {n : Nd} (h : n.In w w.heap.size) (hb : Below w.heap.size w w') : n.In w' w'.heap.size := (h.under hb).more hb.size

/-- The i-th property's cells. -/
theorem Nd.In.pcell {n : Nd} (h : n.In w B) {i : Nat} (hi : i < n.props.length) : ∃ b o, n.pa = some ⟨b, o, none⟩ ∧ b < B ∧ w.cell? ⟨b, o + i * 2, none⟩ = some (.string n.props[i].name) ∧ w.cell? ⟨b, o + i * 2 + 1, none⟩ = some n.props[i].val := by
  obtain ⟨b, o, e, hb, hc⟩ := h.prow (by omega)
  exact ⟨b, o, e, hb, hc i hi⟩
theorem Nd.In.kcell {n : Nd} (h : n.In w B) {i : Nat} (hi : i < n.kids.length) : ∃ b o, n.ka = some ⟨b, o, none⟩ ∧ b < B ∧ w.cell? ⟨b, o + i * 3, none⟩ = some (.string n.kids[i].name) ∧ w.cell? ⟨b, o + i * 3 + 1, none⟩ = some n.kids[i].pv ∧ w.cell? ⟨b, o + i * 3 + 2, none⟩ = some n.kids[i].kv := by
  obtain ⟨b, o, e, hb, hc⟩ := h.krow (by omega)
  exact ⟨b, o, e, hb, hc i hi⟩
end

/-! ### A value that came in is such a node -/

theorem two_of {α : Type} {l : List α} (h : l.length = 2) : ∃ a b, l = [a, b] := by
  match l, h with
  | [a, b], _ => exact ⟨a, b, rfl⟩
theorem three_of {α : Type} {l : List α} (h : l.length = 3) : ∃ a b c, l = [a, b, c] := by
  match l, h with
  | [a, b, c], _ => exact ⟨a, b, c, rfl⟩
theorem five_of {α : Type} {l : List α} (h : l.length = 5) : ∃ a b c d e, l = [a, b, c, d, e] := by
  match l, h with
  | [a, b, c, d, e], _ => exact ⟨a, b, c, d, e, rfl⟩

theorem Try.cellsNode : Try.prog.cellsOf 38 = 3 := by kernel_rfl
theorem Try.cellsProp : Try.prog.cellsOf 52 = 2 := by kernel_rfl
theorem Try.cellsStr : Try.prog.cellsOf 9 = 1 := by kernel_rfl
theorem Try.cellsByte : Try.prog.cellsOf 5 = 1 := by kernel_rfl
theorem Try.cellsBytes : Try.prog.cellsOf 26 = 1 := by kernel_rfl
theorem Try.cellsProps : Try.prog.cellsOf 35 = 1 := by kernel_rfl
theorem Try.cellsNodes : Try.prog.cellsOf 36 = 1 := by kernel_rfl

instance : Inhabited PV := ⟨⟨⟨#[]⟩, none, 0, []⟩⟩
instance : Inhabited Nd := ⟨.mk ⟨#[]⟩ none 0 [] none 0 []⟩

section
variable {H : Type} {enc : TypeId × Value → H} {w : World} {base : Nat} {spare : Nat → Bool} {held : Bool}

theorem weights_mem {P : Program} {e : TypeId} {d : DataW H} : ∀ {l : List (DataW H)}, d ∈ l → ∀ {z : Nat}, z ∈ DataW.weights P e d → z ∈ DataW.weightsAll P e l
  | x :: l, hd, z, hz => by
    rw [DataW.weightsAll]
    rcases List.mem_cons.1 hd with rfl | h
    · exact List.mem_append_left _ hz
    · exact List.mem_append_right _ (weights_mem h hz)

theorem open_pv {fuel : Nat} {cs : List Value} {x : DataW H × List MemPlace} (h : DataW.trod enc Try.prog w base spare held fuel 52 cs = some x) (hw : ∀ z ∈ DataW.weights Try.prog 52 x.1, z ≤ 140737488351232) :
    ∃ p : PV, cs = [.string p.name, p.val] ∧ p.In w w.heap.size := by
  obtain ⟨y0, y1, n, rfl, hl, h0, h1⟩ := trod_struct2 Try.underlying52 h
  rw [Try.cellsProp] at hl
  obtain ⟨c0, c1, rfl⟩ : ∃ c0 c1, cs = [c0, c1] := by
    exact two_of hl
  rw [Try.cellsStr] at h0
  rw [Try.cellsBytes] at h1
  obtain ⟨s, e0, rfl, hs⟩ := DataW.trod_string Try.underlying9 h0
  simp only [List.drop_zero, List.take_succ_cons, List.take_zero, List.cons.injEq, and_true] at e0
  subst e0
  have hs' : s.size ≤ 140737488351232 := hw s.size (by
    simp only [DataW.weights, DataW.weightsEach, Try.underlying52, List.map_cons, List.map_nil]
    exact List.mem_append_left _ (by simp))
  rcases open_ints Try.underlying26 Try.underlying5 Try.cellsByte h1 with ⟨e1, _⟩ | ⟨a, len, cap, zs, e1, hb, hlc, hm, hz, rfl, hcell, hwf⟩
  · simp only [List.drop_succ_cons, List.drop_zero, List.take_succ_cons, List.take_zero, List.cons.injEq, and_true] at e1
    subst e1
    exact ⟨⟨s, none, 0, []⟩, rfl, ⟨hs', by simp⟩, Shows.nil _ _, Nat.le_refl _, by simp⟩
  · simp only [List.drop_succ_cons, List.drop_zero, List.take_succ_cons, List.take_zero, List.cons.injEq, and_true] at e1
    subst e1
    have hle : len ≤ zs.length := by rw [hz]; split <;> omega
    have hl' : (zs.take len).length = len := by rw [List.length_take]; omega
    have hb' : zs.length * Try.prog.bytesOf 5 ≤ 140737488351232 := hw _ (by
      simp only [DataW.weights, DataW.weightsEach, Try.underlying52, Try.underlying26, List.map_cons, List.map_nil]
      refine List.mem_append_right _ (List.mem_append_left _ (List.mem_cons.2 (.inl ?_)))
      simp only [lits, List.length_map, List.length_take, List.length_drop]
      congr 1
      omega)
    have e1 : Try.prog.bytesOf 5 = 1 := by kernel_rfl
    rw [e1] at hb'
    refine ⟨⟨s, some a, cap, zs.take len⟩, by rw [PV.val, hl'], ⟨hs', by simp only [hl']; omega⟩, ?_, by rw [hl']; exact hlc, hm⟩
    refine ⟨rfl, fun z hz' => ?_, fun hn => ?_⟩
    · have h2 := bounds_u8 (hwf z (List.mem_of_mem_take hz'))
      omega
    · rw [hl'] at hn
      obtain ⟨b, o, spot⟩ := a
      have hc := hcell 0 (by omega)
      have hspot : spot = none := by simpa [Addr.add] using World.cell?_spot hc
      subst hspot
      refine ⟨b, o, rfl, ?_, fun i hi => ?_⟩
      · rw [addr_add] at hc
        exact World.block_lt_of_cell? w _ hc
      · rw [hl'] at hi
        have hci := hcell i (by omega)
        rw [addr_add] at hci
        rw [hci]
        refine congrArg (fun z => some (Value.int .u8 z)) ?_
        simp [List.getD, List.getElem?_take_of_lt hi]

/-- The elements of a row that came in, one by one. -/
theorem open_row {α : Type} [Inhabited α] {t e : TypeId} {c : Nat} (f : α → List Value) (good : α → Prop) {fuel : Nat} {cs : List Value} {x : DataW H × List MemPlace} (ht : Try.prog.underlying t = some (.slice e)) (hc : Try.prog.cellsOf e = c) (hc0 : 0 < c)
    (hlen : ∀ p, (f p).length = c) (each : ∀ (n : Nat) (cs : List Value) (y : DataW H × List MemPlace), SizeOf.sizeOf y.1 < SizeOf.sizeOf x.1 → DataW.trod enc Try.prog w base spare held n e cs = some y → (∀ z ∈ DataW.weights Try.prog e y.1, z ≤ 140737488351232) → ∃ p : α, cs = f p ∧ good p)
    (h : DataW.trod enc Try.prog w base spare held fuel t cs = some x) (hw : ∀ z ∈ DataW.weights Try.prog t x.1, z ≤ 140737488351232) :
    ∃ (a : Option Addr) (cap : Nat) (l : List α), cs = [.slice a l.length cap] ∧ l.length ≤ cap ∧ cap ≤ 9223372036854775807 ∧ l.length * Try.prog.bytesOf e ≤ 140737488351232 ∧ (∀ p ∈ l, good p) ∧
      (0 < l.length → ∃ b o, a = some ⟨b, o, none⟩ ∧ b < w.heap.size ∧ ∀ i (h : i < l.length), ∀ j, j < c → w.cell? ⟨b, o + i * c + j, none⟩ = (f l[i])[j]?) := by
  rcases open_slice ht h with ⟨rfl, _⟩ | ⟨a, len, cap, m, n, D, Pl, rfl, hb, hl, hm, hmm, rfl, hi⟩
  · exact ⟨none, 0, [], rfl, Nat.le_refl _, by simp, by simp, by simp, fun h => absurd h (by simp)⟩
  · have hlm : len ≤ m := by rw [hmm]; split <;> omega
    have sz : ∀ i, i < len → SizeOf.sizeOf (D i) < SizeOf.sizeOf (DataW.slice ((List.range len).map D) ((List.range (m - len)).map fun j => D (len + j))) := fun i hi' => by
      have hmem : D i ∈ (List.range len).map D := List.mem_map.2 ⟨i, List.mem_range.2 hi', rfl⟩
      have := List.sizeOf_lt_of_mem hmem
      simp only [DataW.slice.sizeOf_spec]
      omega
    have hw1 : (len + (m - len)) * Try.prog.bytesOf e ≤ 140737488351232 := hw _ (by
      simp only [DataW.weights, ht]
      refine List.mem_cons.2 (.inl ?_)
      simp)
    have hw2 : len * Try.prog.bytesOf e ≤ 140737488351232 := Nat.le_trans (Nat.mul_le_mul_right _ (by omega)) hw1
    have hwi : ∀ i, i < len → ∀ z ∈ DataW.weights Try.prog e (D i), z ≤ 140737488351232 := fun i hi' z hz => hw z (by
      simp only [DataW.weights, ht]
      exact List.mem_cons.2 (.inr (List.mem_append_left _ (weights_mem (List.mem_map.2 ⟨i, List.mem_range.2 hi', rfl⟩) hz))))
    obtain ⟨F, hF⟩ := choose_lt (α := α) (n := len) (p := fun i p => w.cells? base (a.add (i * Try.prog.cellsOf e)) (Try.prog.cellsOf e) = some (f p) ∧ good p) (fun i hi' => by
      obtain ⟨cs', h1, h2⟩ := hi i (by omega)
      obtain ⟨p, rfl, hg⟩ := each n cs' _ (sz i hi') h2 (hwi i hi')
      exact ⟨p, h1, hg⟩)
    refine ⟨some a, cap, (List.range len).map F, by simp, by simpa using hl, hm, by simpa using hw2, ?_, fun h0 => ?_⟩
    · intro p hp
      obtain ⟨i, hi', rfl⟩ := List.mem_map.1 hp
      exact (hF i (List.mem_range.1 hi')).2
    · simp only [List.length_map, List.length_range] at h0 ⊢
      obtain ⟨b, o, spot⟩ := a
      have cell : ∀ i, i < len → ∀ j, j < c → w.cell? ((⟨b, o, spot⟩ : Addr).add (i * c + j)) = (f (F i))[j]? := fun i hi' j hj => by
        obtain ⟨_, _, h3⟩ := World.cells?_some (hF i hi').1
        rw [hc] at h3
        rw [← Go.Deep.add_add]
        exact h3 j hj
      have c0 := cell 0 h0 0 hc0
      rw [List.getElem?_eq_getElem (by rw [hlen]; exact hc0)] at c0
      have hspot : spot = none := by simpa [Addr.add] using World.cell?_spot c0
      subst hspot
      refine ⟨b, o, rfl, World.block_lt_of_cell? w _ (by rw [addr_add] at c0; exact c0), fun i hi' j hj => ?_⟩
      have := cell i hi' j hj
      rw [addr_add, ← Nat.add_assoc] at this
      simpa using this

theorem Try.bytesNode : Try.prog.bytesOf 38 = 64 := by kernel_rfl
theorem Try.bytesProp : Try.prog.bytesOf 52 = 40 := by kernel_rfl

theorem open_nd : ∀ (m fuel : Nat) (cs : List Value) (x : DataW H × List MemPlace), SizeOf.sizeOf x.1 ≤ m → DataW.trod enc Try.prog w base spare held fuel 38 cs = some x →
    (∀ z ∈ DataW.weights Try.prog 38 x.1, z ≤ 140737488351232) → ∃ n : Nd, cs = [.string n.name, n.pv, n.kv] ∧ n.In w w.heap.size := by
  intro m
  induction m with
  | zero => intro fuel cs x hx; exfalso; obtain ⟨d, pl⟩ := x; cases d <;> simp at hx
  | succ m ih =>
    intro fuel cs x hx h hw
    obtain ⟨y0, y1, y2, n, rfl, hl, h0, h1, h2⟩ := trod_struct3 Try.underlying38 h
    rw [Try.cellsNode] at hl
    obtain ⟨c0, c1, c2, rfl⟩ : ∃ c0 c1 c2, cs = [c0, c1, c2] := by
      exact three_of hl
    rw [Try.cellsStr] at h0
    rw [Try.cellsProps] at h1
    rw [Try.cellsNodes] at h2
    simp only [List.drop_zero, List.drop_succ_cons, List.take_succ_cons, List.take_zero] at h0 h1 h2
    simp only [DataW.weights, DataW.weightsEach, Try.underlying38, List.map_cons, List.map_nil] at hw
    have hw0 := fun z hz => hw z (List.mem_append_left _ hz)
    have hw1 := fun z hz => hw z (List.mem_append_right _ (List.mem_append_left _ hz))
    have hw2 := fun z hz => hw z (List.mem_append_right _ (List.mem_append_right _ (List.mem_append_left _ hz)))
    obtain ⟨s, e0, rfl, hs⟩ := DataW.trod_string Try.underlying9 h0
    simp only [List.cons.injEq, and_true] at e0
    subst e0
    have hs' : s.size ≤ 140737488351232 := hw0 s.size (by simp [DataW.weights])
    obtain ⟨pa, pc, props, e1, hp1, hp2, hp3, hpg, hprow⟩ := open_row (c := 2) (fun p : PV => [.string p.name, p.val]) (fun p => p.In w w.heap.size) Try.underlying35 Try.cellsProp (by omega) (fun _ => rfl) (fun n cs y _ hy hwy => open_pv hy hwy) h1 hw1
    obtain ⟨ka, kc, kids, e2, hk1, hk2, hk3, hkg, hkrow⟩ := open_row (c := 3) (fun k : Nd => [.string k.name, k.pv, k.kv]) (fun k => k.In w w.heap.size) Try.underlying36 Try.cellsNode (by omega) (fun _ => rfl)
      (fun n cs y hy hy' hwy => ih n cs y (by simp only [DataW.agg.sizeOf_spec, List.cons.sizeOf_spec] at hx; omega) hy' hwy) h2 hw2
    simp only [List.cons.injEq, and_true] at e1 e2
    subst e1 e2
    rw [Try.bytesProp] at hp3
    rw [Try.bytesNode] at hk3
    refine ⟨.mk s pa pc props ka kc kids, rfl, .mk _ ⟨hs', hp3, hk3⟩ hp1 hp2 hk1 hk2 (fun h0 => ?_) hpg (fun h0 => ?_) hkg⟩
    · obtain ⟨b, o, e, hb, hc⟩ := hprow h0
      exact ⟨b, o, e, hb, fun i hi => ⟨hc i hi 0 (by omega), hc i hi 1 (by omega)⟩⟩
    · obtain ⟨b, o, e, hb, hc⟩ := hkrow h0
      exact ⟨b, o, e, hb, fun i hi => ⟨hc i hi 0 (by omega), hc i hi 1 (by omega), hc i hi 2 (by omega)⟩⟩
end
end Go.Proofs.Ytnopcnbeklbfoaa

/-! Layer 3: the names' tests, as functions of the text alone. -/
namespace Go.Proofs.Ytnopcnbeklbfoaa
open Go.RowKit
set_option linter.unusedVariables false
set_option linter.unusedSimpArgs false

theorem prop_any (s : ByteArray) (w : World) (hs : s.size ≤ 140737488351232) (r : Bool) (hr : r = madeB propMarks s.data.toList) :
    Calls Try.prog 73 #[.string s] w fun e w' => e = .returned (.bool r) ∧ w = w' := by
  have C := Lib.hid (made_any s ⟨#[44, 46, 95, 43, 45, 63, 35]⟩ w hs r hr)
  clear hr
  go_enter Try.func73, Try.ntmps73
  go_wp2_with (go_at_call 87; refine C.out.mono ?_; rintro e w' ⟨rfl, rfl⟩)
  go_ret
  exact ⟨rfl, rfl⟩

theorem draws_under (w : World) (n : Nat) : Below w.heap.size w (w.drewN n) := ⟨rfl, rfl, rfl, Nat.le_refl _, fun _ _ => rfl⟩

/-- Is the text a node's name? What both functions answer. -/
def nodeB (s : ByteArray) : Bool :=
  if Lib.indexByte s.data.toList 64 = -1 then baseB s.data.toList
  else baseB (s.extract 0 (Lib.indexByte s.data.toList 64).toNat).data.toList && madeB nodeMarks (s.extract ((Lib.indexByte s.data.toList 64).toNat + 1) s.size).data.toList
theorem nodeB_none {s : ByteArray} (h : NoCut s) : nodeB s = baseB s.data.toList := if_pos h
theorem nodeB_some {s : ByteArray} {i : Nat} (h : CutAt s i) : nodeB s = (baseB (s.extract 0 i).data.toList && madeB nodeMarks (s.extract (i + 1) s.size).data.toList) := by
  have e : (Lib.indexByte s.data.toList 64).toNat = i := by rw [h.2]; rfl
  rw [nodeB, if_neg (by rw [h.2]; omega), e]
/-- Is the text a property's name? -/
def propB (s : ByteArray) : Bool := madeB propMarks s.data.toList

theorem nodeB_any (s : ByteArray) (w : World) (hs : s.size ≤ 140737488351232) (r : Bool) (hr : nodeB s = r) : Calls Try.prog 86 #[.string s] w fun e w' => e = .returned (.bool r) ∧ Below w.heap.size w w' := by
  subst hr
  rcases cut_or_not s with h | ⟨i, h⟩
  · refine (node_none s w h hs _ rfl).mono fun e w' ⟨h1, h2⟩ => ⟨by rw [h1, nodeB_none h], ?_⟩
    subst h2
    exact Below.refl _ _
  · refine (node_some s i w h hs _ _ rfl rfl).mono fun e w' ⟨h1, h2⟩ => ⟨by rw [h1, nodeB_some h], ?_⟩
    subst h2
    exact draws_under w 1
theorem refnodeB_any (s : ByteArray) (w : World) (hs : s.size ≤ 140737488351232) (r : Bool) (hr : nodeB s = r) : Calls Try.prog 41 #[.string s] w fun e w' => e = .returned (.bool r) ∧ w = w' := by
  subst hr
  rcases cut_or_not s with h | ⟨i, h⟩
  · exact refnode_none s w h hs _ (nodeB_none h)
  · exact refnode_some s i w h hs _ (nodeB_some h)
theorem propB_any (s : ByteArray) (w : World) (hs : s.size ≤ 140737488351232) (r : Bool) (hr : propB s = r) : Calls Try.prog 73 #[.string s] w fun e w' => e = .returned (.bool r) ∧ w = w' := prop_any s w hs r hr.symm
theorem refpropB_any (s : ByteArray) (w : World) (hs : s.size ≤ 140737488351232) (r : Bool) (hr : propB s = r) : Calls Try.prog 42 #[.string s] w fun e w' => e = .returned (.bool r) ∧ w = w' := refprop_any s w hs r hr.symm
end Go.Proofs.Ytnopcnbeklbfoaa

/-! decode.Header: the ten cells, or what is wrong with them. -/
namespace Go.Proofs.Ytnopcnbeklbfoaa
open Go.RowKit
set_option linter.unusedVariables false
set_option linter.unusedSimpArgs false

/-- Does a part lie within so many bytes, behind the header? -/
def within (a s t : Int) : Bool := decide (40 ≤ a ∧ a ≤ t ∧ s ≤ t - a)

set_option maxHeartbeats 400000 in
theorem within_any (a s t : Int) (w : World) (ha : 0 ≤ a ∧ a ≤ 4294967295) (hs : 0 ≤ s ∧ s ≤ 4294967295) (ht : 0 ≤ t ∧ t ≤ 4294967295) (r : Bool) (hr : within a s t = r) :
    Calls Try.prog 40 #[.int .u32 a, .int .u32 s, .int .u32 t] w fun e w' => e = .returned (.bool r) ∧ w = w' := by
  obtain ⟨a0, a1⟩ := ha
  obtain ⟨s0, s1⟩ := hs
  obtain ⟨t0, t1⟩ := ht
  by_cases h1 : 40 ≤ a
  · by_cases h2 : a ≤ t
    · by_cases h3 : s ≤ t - a
      · obtain rfl : r = true := by rw [← hr]; simp [within]; omega
        clear hr
        go_enter Try.func40, Try.ntmps40
        go_wp2
        go_ret
        exact ⟨rfl, rfl⟩
      · obtain rfl : r = false := by rw [← hr]; simp [within]; omega
        clear hr
        go_enter Try.func40, Try.ntmps40
        go_wp2
        go_ret
        exact ⟨rfl, rfl⟩
    · obtain rfl : r = false := by rw [← hr]; simp [within]; omega
      clear hr
      go_enter Try.func40, Try.ntmps40
      go_wp2
      go_ret
      exact ⟨rfl, rfl⟩
  · obtain rfl : r = false := by rw [← hr]; simp [within]; omega
    clear hr
    go_enter Try.func40, Try.ntmps40
    go_wp2
    go_ret
    exact ⟨rfl, rfl⟩

/-- Do the parts that the ten cells tell lie within? -/
def parts (h1 h2 h3 h4 h8 h9 : Int) : Bool := within h2 h9 h1 && (decide (h2 % 4 = 0) && (within h3 h8 h1 && (within h4 0 h1 && decide (h4 % 8 = 0))))

set_option maxHeartbeats 2000000 in
theorem parts_any (h0 h1 h2 h3 h4 h5 h6 h7 h8 h9 : Int) (w : World) (b1 : 0 ≤ h1 ∧ h1 ≤ 4294967295) (b2 : 0 ≤ h2 ∧ h2 ≤ 4294967295) (b3 : 0 ≤ h3 ∧ h3 ≤ 4294967295) (b4 : 0 ≤ h4 ∧ h4 ≤ 4294967295) (b8 : 0 ≤ h8 ∧ h8 ≤ 4294967295) (b9 : 0 ≤ h9 ∧ h9 ≤ 4294967295) (r : Bool) (hr : parts h1 h2 h3 h4 h8 h9 = r) :
    Calls Try.prog 22 #[.agg #[.int .u32 h0, .int .u32 h1, .int .u32 h2, .int .u32 h3, .int .u32 h4, .int .u32 h5, .int .u32 h6, .int .u32 h7, .int .u32 h8, .int .u32 h9]] w fun e w' => e = .returned (.bool r) ∧ w' = w.alloc (.cells #[.int .u32 h0, .int .u32 h1, .int .u32 h2, .int .u32 h3, .int .u32 h4, .int .u32 h5, .int .u32 h6, .int .u32 h7, .int .u32 h8, .int .u32 h9] 23) := by
  obtain ⟨r1, hr1⟩ : ∃ r1, within h2 h9 h1 = r1 := ⟨_, rfl⟩
  obtain ⟨r2, hr2⟩ : ∃ r2, within h3 h8 h1 = r2 := ⟨_, rfl⟩
  obtain ⟨r3, hr3⟩ : ∃ r3, within h4 0 h1 = r3 := ⟨_, rfl⟩
  have C1 := Lib.hid (fun w => within_any h2 h9 h1 w b2 b9 b1 r1 hr1)
  have C2 := Lib.hid (fun w => within_any h3 h8 h1 w b3 b8 b1 r2 hr2)
  have C3 := Lib.hid (fun w => within_any h4 0 h1 w b4 (by omega) b1 r3 hr3)
  have HR : Hid ((r1 && (decide (h2 % 4 = 0) && (r2 && (r3 && decide (h4 % 8 = 0))))) = r) := by rw [← hr, ← hr1, ← hr2, ← hr3]; rfl
  clear hr hr1 hr2 hr3
  obtain ⟨b2a, b2b⟩ := b2
  obtain ⟨b4a, b4b⟩ := b4
  cases r1
  · obtain rfl : r = false := by rw [← HR.out]; rfl
    go_enter Try.func22, Try.ntmps22
    go_wp2_with fail
    refine (C1.out _).mono ?_
    rintro e w1 ⟨rfl, rfl⟩
    go_wp2
    go_ret
    exact ⟨rfl, rfl⟩
  · by_cases m2 : h2 % 4 = 0
    · have HR2 : Hid ((r2 && (r3 && decide (h4 % 8 = 0))) = r) := by rw [← HR.out, decide_eq_true m2]; rfl
      have m2' : (h2 % 4 == 0) = true := by rw [m2]; rfl
      clear m2
      cases r2
      · obtain rfl : r = false := by rw [← HR2.out]; rfl
        go_enter Try.func22, Try.ntmps22
        go_wp2_with fail
        refine (C1.out _).mono ?_
        rintro e w1 ⟨rfl, rfl⟩
        go_wp2_with fail
        refine (C2.out _).mono ?_
        rintro e w1 ⟨rfl, rfl⟩
        go_wp2
        go_ret
        exact ⟨rfl, rfl⟩
      · cases r3
        · obtain rfl : r = false := by rw [← HR2.out]; rfl
          go_enter Try.func22, Try.ntmps22
          go_wp2_with fail
          refine (C1.out _).mono ?_
          rintro e w1 ⟨rfl, rfl⟩
          go_wp2_with fail
          refine (C2.out _).mono ?_
          rintro e w1 ⟨rfl, rfl⟩
          go_wp2_with fail
          refine (C3.out _).mono ?_
          rintro e w1 ⟨rfl, rfl⟩
          go_wp2
          go_ret
          exact ⟨rfl, rfl⟩
        · obtain ⟨m, hm⟩ : ∃ m, decide (h4 % 8 = 0) = m := ⟨_, rfl⟩
          have HM : Hid (m = r) := by
            show m = r
            have := HR2.out
            rw [hm] at this
            simpa using this
          have m4' : (h4 % 8 == 0) = m := by rw [← hm]; exact Bool.eq_iff_iff.2 (by simp)
          clear hm HR HR2
          go_enter Try.func22, Try.ntmps22
          go_wp2_with fail
          refine (C1.out _).mono ?_
          rintro e w1 ⟨rfl, rfl⟩
          go_wp2_with fail
          refine (C2.out _).mono ?_
          rintro e w1 ⟨rfl, rfl⟩
          go_wp2_with fail
          refine (C3.out _).mono ?_
          rintro e w1 ⟨rfl, rfl⟩
          go_wp2
          go_ret
          exact ⟨congrArg (fun b => Ending.returned (.bool b)) HM.out, rfl⟩
    · obtain rfl : r = false := by rw [← HR.out, decide_eq_false m2]; rfl
      have m2' : (h2 % 4 == 0) = false := by rw [beq_eq_false_iff_ne]; exact m2
      clear m2
      go_enter Try.func22, Try.ntmps22
      go_wp2_with fail
      refine (C1.out _).mono ?_
      rintro e w1 ⟨rfl, rfl⟩
      go_wp2
      go_ret
      exact ⟨rfl, rfl⟩

/-- words.Get at a place that is there. -/
theorem get_at (A : Option Addr) (n c a : Nat) (q : Int) (hq : q = (a : Int)) (zs : List Int) (w : World) (B : Nat) (hs : Shows w B A n zs) (h : a + 4 ≤ n) (hn : n ≤ 9223372036854775807) (hnc : n ≤ c) (hc63 : c ≤ maxLen) (x : Int) (hx : numTo zs a 4 = x) :
    Calls Try.prog 21 #[.slice A n c, .int .i64 q] w fun e w' => e = .returned (.tuple #[.int .u32 x, .bool true]) ∧ w = w' := by
  subst hq hx
  exact get_yes A n c a zs w B hs h hn hnc hc63

/-- The i-th of the ten cells. -/
def hcell (zs : List Int) (i : Nat) : Int := numTo zs (i * 4) 4
theorem hcell_bound {zs : List Int} (hz : ∀ i, 0 ≤ zs.getD i 0 ∧ zs.getD i 0 < 256) (i : Nat) : 0 ≤ hcell zs i ∧ hcell zs i ≤ 4294967295 := by
  have h := numTo_bound zs (i * 4) hz 4
  have e : (256 : Int) ^ 4 = 4294967296 := by decide
  unfold hcell
  omega

/-- The ten cells, of which k are read. -/
def filled (f : Nat → Int) (k : Nat) : Array Value := ((List.range 10).map fun j => Value.int .u32 (if j < k then f j else 0)).toArray
theorem filled_set (f : Nat → Int) (k : Nat) (hk : k < 10) : (filled f k).setIfInBounds k (.int .u32 (f k)) = filled f (k + 1) := by
  apply Array.toList_inj.1
  simp only [filled, Array.toList_setIfInBounds]
  apply List.ext_getElem
  · simp
  · intro i h1 h2
    simp only [List.length_map, List.length_range] at h2
    rw [List.getElem_set]
    split
    · subst i; simp
    · simp only [List.getElem_map, List.getElem_range]
      congr 1
      by_cases h : i < k
      · rw [if_pos h, if_pos (by omega)]
      · rw [if_neg h, if_neg (by omega)]
theorem filled_none (f : Nat → Int) : filled f 0 = #[.int .u32 0, .int .u32 0, .int .u32 0, .int .u32 0, .int .u32 0, .int .u32 0, .int .u32 0, .int .u32 0, .int .u32 0, .int .u32 0] := by
  apply Array.toList_inj.1
  simp [filled, List.range_succ]
theorem filled_all (f : Nat → Int) : filled f 10 = #[.int .u32 (f 0), .int .u32 (f 1), .int .u32 (f 2), .int .u32 (f 3), .int .u32 (f 4), .int .u32 (f 5), .int .u32 (f 6), .int .u32 (f 7), .int .u32 (f 8), .int .u32 (f 9)] := by
  apply Array.toList_inj.1
  simp [filled, List.range_succ]
theorem filled_size (f : Nat → Int) (k : Nat) : (filled f k).size = 10 := by simp [filled]

/-- What is wrong with the header of n bytes; 0: nothing. -/
def headE (n : Nat) (x0 x1 x2 x3 x4 x5 x6 x8 x9 : Int) : Int :=
  if x0 = 3490578157 then (if x5 = 17 ∧ x6 = 16 then (if x1 = (n : Int) ∧ parts x1 x2 x3 x4 x8 x9 = true then 0 else 4) else 3) else 2

/-- What Header answers: the cells beside 0, noughts beside an error. -/
def Headed (f : Nat → Int) (E : Int) (e : Ending) : Prop := ∃ v, e = .returned (.tuple #[v, .int .i64 E]) ∧ (E = 0 → v = .agg (filled f 10)) ∧ (E ≠ 0 → v = .agg (filled f 0))

set_option maxHeartbeats 2000000 in
theorem header_yes (A : Option Addr) (n c : Nat) (zs : List Int) (w : World) (hs : Shows w w.heap.size A n zs) (h40 : 40 ≤ n) (hn : n ≤ 1048576) (hnc : n ≤ c) (hc : c ≤ maxLen) (E : Int)
    (hE : headE n (hcell zs 0) (hcell zs 1) (hcell zs 2) (hcell zs 3) (hcell zs 4) (hcell zs 5) (hcell zs 6) (hcell zs 8) (hcell zs 9) = E) :
    Calls Try.prog 11 #[.slice A n c] w fun e w' => Headed (hcell zs) E e ∧ Below w.heap.size w w' := by
  obtain ⟨f, hf⟩ : ∃ f, hcell zs = f := ⟨_, rfl⟩
  have HG := Lib.hid (fun (k : Nat) (hk : k < 10) (q : Int) (hq : q = ((k * 4 : Nat) : Int)) (W : World) (hW : Shows W w.heap.size A n zs) => get_at A n c (k * 4) q hq zs W w.heap.size hW (by omega) (by omega) hnc hc (f k) (by rw [← hf]; rfl))
  have HF : Hid (∀ i, 0 ≤ f i ∧ f i ≤ 4294967295) := fun i => by rw [← hf]; exact hcell_bound hs.byte i
  rw [hf] at hE ⊢
  have HS := Lib.hid hs
  have HE := Lib.hid hE
  clear hs hE hf
  have HB := Lib.hid (fun o p => ((Below.refl w.heap.size w).alloc (Nat.le_refl _) o).alloc (by simp) p)
  go_enter Try.func11, Try.ntmps11
  go_wp2_with fail
  go_loopw [15] (fun i wr => ∃ k : Nat, k ≤ 10 ∧ i = .int .i64 k ∧ wr = (w.alloc (.cells #[.int .u32 0, .int .u32 0, .int .u32 0, .int .u32 0, .int .u32 0, .int .u32 0, .int .u32 0, .int .u32 0, .int .u32 0, .int .u32 0] 23)).alloc (.cells (filled f k) 23)) (fun i _ => 10 - (intOf i).toNat)
  case atStart => exact ⟨0, Nat.zero_le _, rfl, by rw [filled_none]⟩
  case round =>
    obtain ⟨k, hk, rfl, rfl⟩ := hrel
    by_cases hlt : k < 10
    · have hat : (filled f k)[k]? = some (.int .u32 0) := by simp [filled, List.getElem?_range hlt]
      have HT := Lib.hid (filled_set f k hlt)
      have HC := Lib.hid (fun q hq => HG.out k hlt q hq _ (HS.out.below (HB.out (.cells #[.int .u32 0, .int .u32 0, .int .u32 0, .int .u32 0, .int .u32 0, .int .u32 0, .int .u32 0, .int .u32 0, .int .u32 0, .int .u32 0] 23) (.cells (filled f k) 23))))
      go_wp2_with fail
      refine (HC.out _ (by omega)).mono ?_
      rintro e w1 ⟨rfl, rfl⟩
      go_wp2
      go_roundw
      case rel => exact ⟨k + 1, by omega, by go_num, by rw [HT.out]⟩
      case measure => simp [intOf]; omega
    · obtain rfl : k = 10 := by omega
      have HBX := Lib.hid (fun p => HB.out (.cells #[.int .u32 0, .int .u32 0, .int .u32 0, .int .u32 0, .int .u32 0, .int .u32 0, .int .u32 0, .int .u32 0, .int .u32 0, .int .u32 0] 23) p)
      have HBY := Lib.hid (fun (o p q : Obj) => (HB.out o p).alloc (by simp; omega) q)
      rw [filled_all]
      by_cases h0 : f 0 = 3490578157
      · have n0 : (f 0 != 3490578157) = false := by rw [h0]; rfl
        by_cases h5 : f 5 = 17
        · have n5 : (f 5 != 17) = false := by rw [h5]; rfl
          by_cases h6 : f 6 = 16
          · have n6 : (f 6 != 16) = false := by rw [h6]; rfl
            by_cases h1 : f 1 = (n : Int)
            · have n1 : (f 1 != (n : Int)) = false := by rw [h1]; simp
              obtain ⟨r, hr⟩ : ∃ r, parts (f 1) (f 2) (f 3) (f 4) (f 8) (f 9) = r := ⟨_, rfl⟩
              have HE2 : Hid ((if r = true then 0 else 4) = E) := by
                have := HE.out
                rw [headE, if_pos h0, if_pos ⟨h5, h6⟩, hr] at this
                cases r
                · rwa [if_neg (by simp)] at this
                · rwa [if_pos ⟨h1, rfl⟩] at this
              have C := Lib.hid (fun W => parts_any (f 0) (f 1) (f 2) (f 3) (f 4) (f 5) (f 6) (f 7) (f 8) (f 9) W (HF.out 1) (HF.out 2) (HF.out 3) (HF.out 4) (HF.out 8) (HF.out 9) r hr)
              clear h0 h5 h6 h1 hr HG
              go_wp2_with fail
              refine (C.out _).mono ?_
              rintro e w1 ⟨rfl, rfl⟩
              cases r
              · obtain rfl : E = 4 := HE2.out.symm
                go_wp2
                refine bodyPost_ret (v := .tuple #[.agg (filled f 0), .int .i64 4]) (by rw [filled_none]; simp [results, Try.results11, go_sem]) rfl ?_
                exact ⟨⟨_, rfl, fun h => absurd h (by decide), fun _ => rfl⟩, HBY.out _ _ _⟩
              · obtain rfl : E = 0 := HE2.out.symm
                go_wp2
                refine bodyPost_ret (v := .tuple #[.agg (filled f 10), .int .i64 0]) (by rw [filled_all]; simp [results, Try.results11, go_sem]) rfl ?_
                exact ⟨⟨_, rfl, fun _ => rfl, fun h => absurd rfl h⟩, HBY.out _ _ _⟩
            · have n1 : (f 1 != (n : Int)) = true := by rw [bne_iff_ne]; exact h1
              obtain rfl : E = 4 := by
                have := HE.out
                rw [headE, if_pos h0, if_pos ⟨h5, h6⟩, if_neg (fun h => h1 h.1)] at this
                exact this.symm
              clear h0 h5 h6 h1 HG
              go_wp2
              refine bodyPost_ret (v := .tuple #[.agg (filled f 0), .int .i64 4]) (by rw [filled_none]; simp [results, Try.results11, go_sem]) rfl ?_
              exact ⟨⟨_, rfl, fun h => absurd h (by decide), fun _ => rfl⟩, HBX.out _⟩
          · have n6 : (f 6 != 16) = true := by rw [bne_iff_ne]; exact h6
            obtain rfl : E = 3 := by
              have := HE.out
              rw [headE, if_pos h0, if_neg (fun h => h6 h.2)] at this
              exact this.symm
            clear h0 h5 h6 HG
            go_wp2
            refine bodyPost_ret (v := .tuple #[.agg (filled f 0), .int .i64 3]) (by rw [filled_none]; simp [results, Try.results11, go_sem]) rfl ?_
            exact ⟨⟨_, rfl, fun h => absurd h (by decide), fun _ => rfl⟩, HBX.out _⟩
        · have n5 : (f 5 != 17) = true := by rw [bne_iff_ne]; exact h5
          obtain rfl : E = 3 := by
            have := HE.out
            rw [headE, if_pos h0, if_neg (fun h => h5 h.1)] at this
            exact this.symm
          clear h0 h5 HG
          go_wp2
          refine bodyPost_ret (v := .tuple #[.agg (filled f 0), .int .i64 3]) (by rw [filled_none]; simp [results, Try.results11, go_sem]) rfl ?_
          exact ⟨⟨_, rfl, fun h => absurd h (by decide), fun _ => rfl⟩, HBX.out _⟩
      · have n0 : (f 0 != 3490578157) = true := by rw [bne_iff_ne]; exact h0
        obtain rfl : E = 2 := by
          have := HE.out
          rw [headE, if_neg h0] at this
          exact this.symm
        clear h0 HG
        go_wp2
        refine bodyPost_ret (v := .tuple #[.agg (filled f 0), .int .i64 2]) (by rw [filled_none]; simp [results, Try.results11, go_sem]) rfl ?_
        exact ⟨⟨_, rfl, fun h => absurd h (by decide), fun _ => rfl⟩, HBX.out _⟩

set_option maxHeartbeats 2000000 in
theorem header_no (A : Option Addr) (n c : Nat) (f : Nat → Int) (w : World) (h : n < 40 ∨ 1048576 < n) (hn : n ≤ 9223372036854775807) :
    Calls Try.prog 11 #[.slice A n c] w fun e w' => Headed f 4 e ∧ w' = w.alloc (.cells #[.int .u32 0, .int .u32 0, .int .u32 0, .int .u32 0, .int .u32 0, .int .u32 0, .int .u32 0, .int .u32 0, .int .u32 0, .int .u32 0] 23) := by
  by_cases h40 : n < 40
  · have h1 : (n : Int) < 40 := by omega
    clear h h40
    go_enter Try.func11, Try.ntmps11
    go_wp2
    refine bodyPost_ret (v := .tuple #[.agg (filled f 0), .int .i64 4]) (by rw [filled_none]; simp [results, Try.results11, go_sem]) rfl ?_
    exact ⟨⟨_, rfl, fun h => absurd h (by decide), fun _ => rfl⟩, rfl⟩
  · have h1 : (40 : Int) ≤ n := by omega
    have h2 : (1048576 : Int) < n := by omega
    clear h h40
    go_enter Try.func11, Try.ntmps11
    go_wp2
    refine bodyPost_ret (v := .tuple #[.agg (filled f 0), .int .i64 4]) (by rw [filled_none]; simp [results, Try.results11, go_sem]) rfl ?_
    exact ⟨⟨_, rfl, fun h => absurd h (by decide), fun _ => rfl⟩, rfl⟩

/-- Decode of bytes with no good header: the header's error. -/
theorem headed_ne {f : Nat → Int} {E : Int} {e : Ending} (h : Headed f E e) (hE : E ≠ 0) : e = .returned (.tuple #[.agg #[.int .u32 0, .int .u32 0, .int .u32 0, .int .u32 0, .int .u32 0, .int .u32 0, .int .u32 0, .int .u32 0, .int .u32 0, .int .u32 0], .int .i64 E]) := by
  obtain ⟨v, rfl, _, h2⟩ := h
  rw [h2 hE, filled_none]

set_option maxHeartbeats 2000000 in
theorem decode_err (A : Option Addr) (n c : Nat) (f : Nat → Int) (w : World) (E : Int) (hE : E ≠ 0)
    (hC : ∀ o, Calls Try.prog 11 #[.slice A n c] (w.alloc o) fun e w' => Headed f E e ∧ Below (w.alloc o).heap.size (w.alloc o) w') :
    Calls Try.prog 16 #[.slice A n c] w fun e w' => e = .returned (.tuple #[.agg #[.int .u32 0, .slice none 0 0, .string ⟨#[]⟩, .slice none 0 0, .slice none 0 0], .int .i64 E]) ∧ Below w.heap.size w w' := by
  have HC := Lib.hid (fun o => (hC o).mono fun e w' (h : Headed f E e ∧ _) => show e = .returned (.tuple #[.agg #[.int .u32 0, .int .u32 0, .int .u32 0, .int .u32 0, .int .u32 0, .int .u32 0, .int .u32 0, .int .u32 0, .int .u32 0, .int .u32 0], .int .i64 E]) ∧ Below (w.alloc o).heap.size (w.alloc o) w' from ⟨headed_ne h.1 hE, h.2⟩)
  have e1 : (E != 0) = true := by rw [bne_iff_ne]; exact hE
  have HB := Lib.hid (fun o => (Below.refl w.heap.size w).alloc (Nat.le_refl _) o)
  clear hC hE
  go_enter Try.func16, Try.ntmps16
  go_wp2_with fail
  refine (HC.out _).mono ?_
  rintro e w1 ⟨rfl, hb⟩
  have HB1 := Lib.hid ((HB.out (.cells #[.int .u32 0, .slice none 0 0, .string ⟨#[]⟩, .slice none 0 0, .slice none 0 0] 40)).trans (hb.mono (by simp)))
  have c0 := (hb.cell (p := ⟨w.heap.size, 0, none⟩) (by simp)).trans (World.cell?_alloc_new _ _ _ _)
  have c1 := (hb.cell (p := ⟨w.heap.size, 1, none⟩) (by simp)).trans (World.cell?_alloc_new _ _ _ _)
  have c2 := (hb.cell (p := ⟨w.heap.size, 2, none⟩) (by simp)).trans (World.cell?_alloc_new _ _ _ _)
  have c3 := (hb.cell (p := ⟨w.heap.size, 3, none⟩) (by simp)).trans (World.cell?_alloc_new _ _ _ _)
  have c4 := (hb.cell (p := ⟨w.heap.size, 4, none⟩) (by simp)).trans (World.cell?_alloc_new _ _ _ _)
  have f0 := (hb.frozen (p := ⟨w.heap.size, 0, none⟩) (by simp)).trans (World.frozen?_alloc_new _ _ _ _)
  have f1 := (hb.frozen (p := ⟨w.heap.size, 1, none⟩) (by simp)).trans (World.frozen?_alloc_new _ _ _ _)
  have f2 := (hb.frozen (p := ⟨w.heap.size, 2, none⟩) (by simp)).trans (World.frozen?_alloc_new _ _ _ _)
  have f3 := (hb.frozen (p := ⟨w.heap.size, 3, none⟩) (by simp)).trans (World.frozen?_alloc_new _ _ _ _)
  have f4 := (hb.frozen (p := ⟨w.heap.size, 4, none⟩) (by simp)).trans (World.frozen?_alloc_new _ _ _ _)
  have hlt : w.heap.size < w1.heap.size := by have := hb.size; simp at this; omega
  clear hb
  go_wp2
  refine bodyPost_ret (v := .tuple #[.agg #[.int .u32 0, .slice none 0 0, .string ⟨#[]⟩, .slice none 0 0, .slice none 0 0], .int .i64 E]) (by simp [results, Try.results16, go_sem, c0, c1, c2, c3, c4, hlt]; try rfl) rfl ?_
  exact ⟨rfl, (((((HB1.out.setCell (Nat.le_refl _) _).setCell (Nat.le_refl _) _).setCell (Nat.le_refl _) _).setCell (Nat.le_refl _) _).setCell (Nat.le_refl _) _).alloc (by simp; omega) _⟩
end Go.Proofs.Ytnopcnbeklbfoaa

/-! Bytes that a call makes: rows of its own, appended to; the document's bytes of a number, written one by one from the last to the first. -/
namespace Go.Proofs.Ytnopcnbeklbfoaa
open Go.RowKit
set_option linter.unusedVariables false
set_option linter.unusedSimpArgs false

theorem info_u8 : (Try.prog.info? 5).map (fun i => (i.zero, i.size, i.bytes)) = some (some (.int .u8 0), 1, 1) := by kernel_rfl
theorem size_u8 (w : World) : (Go.sizeOf 5).run Try.prog w = .ok 1 w := by kernel_rfl
/-- The numbers as cells. -/
abbrev u8s (zs : List Int) : List Value := zs.map (Value.int .u8)

theorem run_append_shown (w : World) (i0 : TypeInfo) (hi0 : Try.prog.info? 5 = some i0) (hz0 : i0.zero = some (.int .u8 0)) (hz1 : i0.size = 1) (hz2 : i0.bytes = 1)
    (base : Nat) (v : Value) (n : Nat) (xs : List Value) (hown : w.ownsRow base 5 1 v n xs) (B : Nat) (A : Option Addr) (m c : Nat) (zs : List Int) (hs : Shows w B A m zs)
    (hnm : n + m ≤ 140737488351232) (hbase : base ≤ w.heap.size) (ty : TypeId) :
    ∃ v' w', (Builtin.append_ #[26, 26] ty #[v, .slice A m c]).run Try.prog w = .ok v' w' ∧ w'.ownsRow base 5 1 v' (n + m) (xs ++ u8s zs) ∧ w.grownBy w' v.ownBlock ∧ (v ≠ .slice none 0 0 → v' ≠ .slice none 0 0) := by
  rcases Nat.eq_zero_or_pos m with rfl | hm
  · obtain rfl : zs = [] := List.eq_nil_of_length_eq_zero hs.1
    rcases A with _ | ad
    · refine ⟨v, w, ?_, by simpa using hown, World.grownBy.refl w _, fun h => h⟩
      rcases hown.2 with ⟨rfl, rfl⟩ | ⟨g, cap, cur, rfl, _, _, hnc, _⟩
      · simp [Builtin.append_, run_underlying Try.underlying26, sizeOf, typeInfo, hi0, Builtin.lenOf, Builtin.firstCells]
      · simp [Builtin.append_, run_underlying Try.underlying26, sizeOf, typeInfo, hi0, Builtin.lenOf, Builtin.firstCells, hnc, storeCells]
    · obtain ⟨v', w', h1, h2, h3, h4⟩ := run_append_own_at (P := Try.prog) w base 26 ty 5 i0 (.int .u8 0) 1 1 Try.underlying26 hi0 hz0 hz1 hz2 rfl (by omega) v n xs hown ad 0 c [] rfl (by simp) (by simp) (by unfold maxLen; omega) (by omega) hbase
      exact ⟨v', w', h1, h2, h3, fun h e => h ((h4.1.1 e).1)⟩
  · obtain ⟨b, o, rfl, _, hc⟩ := hs.at_ hm
    obtain ⟨v', w', h1, h2, h3, h4⟩ := run_append_own_at (P := Try.prog) w base 26 ty 5 i0 (.int .u8 0) 1 1 Try.underlying26 hi0 hz0 hz1 hz2 rfl (by omega) v n xs hown ⟨b, o, none⟩ m c (u8s zs) (by simp [hs.1])
      (fun j u hu => by
        rw [List.getElem?_map] at hu
        have hj : j < zs.length := by
          rcases Nat.lt_or_ge j zs.length with h | h
          · exact h
          · rw [List.getElem?_eq_none h] at hu; cases hu
        rw [List.getElem?_eq_getElem hj] at hu
        rw [addr_add, hc j (by rw [← hs.1]; exact hj), ← Option.some.inj hu]
        simp [List.getD, List.getElem?_eq_getElem hj])
      (fun u hu => by obtain ⟨z, _, rfl⟩ := List.mem_map.1 hu; rfl) (by unfold maxLen; omega) (by omega) hbase
    exact ⟨v', w', h1, h2, h3, fun h e => h ((h4.1.1 e).1)⟩
/-- What a call has made shows its bytes. -/
theorem owned_shows {w : World} {base n : Nat} {v : Value} {zs : List Int} (h : w.ownsRow base 5 1 v n (u8s zs)) (hz : ∀ z ∈ zs, 0 ≤ z ∧ z < 256) :
    ∃ A c, v = .slice A n c ∧ Shows w w.heap.size A n zs ∧ n ≤ c ∧ c ≤ 9223372036854775807 := by
  obtain ⟨hl, ⟨rfl, rfl⟩ | ⟨g, cap, cur, rfl, hb, hg, hnc, hcm, hsz, htk⟩⟩ := h
  · obtain rfl : zs = [] := by simpa using hl
    exact ⟨none, 0, rfl, Shows.nil _ _, Nat.le_refl _, by omega⟩
  · have hlz : zs.length = n := by simpa using hl
    refine ⟨_, cap, rfl, ⟨hlz, hz, fun hn => ⟨g, 0, rfl, ?_, fun i hi => ?_⟩⟩, hnc, hcm⟩
    · exact (Array.getElem?_eq_some_iff.1 hg).1
    · have h1 : (u8s zs)[i]? = cur[i]? := by
        rw [← htk, List.getElem?_take_of_lt (by omega), Array.getElem?_toList]
      rw [Nat.zero_add]
      have h2 : w.cell? ⟨g, i, none⟩ = cur[i]? := by simp [World.cell?, hg]
      rw [h2, ← h1, List.getElem?_map, List.getElem?_eq_getElem (by omega)]
      simp [List.getD, List.getElem?_eq_getElem (show i < zs.length by omega)]

/-- The four bytes of a number, the greatest first. -/
def four (v : Int) : List Int := [v / 16777216, v / 65536 % 256, v / 256 % 256, v % 256]

/-- Block g holds just these bytes. -/
def BRow (w : World) (g : Nat) (zs : List Int) : Prop := w.heap[g]? = some (.cells (u8s zs).toArray 5 (0, 0))
section
variable {w w' : World} {g : Nat} {zs : List Int}
theorem BRow.lt (h : BRow w g zs) : g < w.heap.size := (Array.getElem?_eq_some_iff.1 h).1
theorem BRow.cell (h : BRow w g zs) (i : Nat) (hi : i < zs.length) : w.cell? ⟨g, i, none⟩ = some (.int .u8 (zs.getD i 0)) := by
  rw [cell_of_row w g i _ _ (0, 0) h]
  simp [List.getD, List.getElem?_eq_getElem hi]
theorem BRow.free (h : BRow w g zs) (i : Nat) : w.frozen? ⟨g, i, none⟩ = false := by
  unfold BRow at h
  simp [World.frozen?, h]
theorem BRow.set (h : BRow w g zs) (i : Nat) (v : Int) : BRow (w.setCell ⟨g, i, none⟩ (.int .u8 v)) g (zs.set i v) := by
  unfold BRow at h ⊢
  simp [World.setCell, Array.getElem?_modify, h, List.map_set]
theorem BRow.shows {n : Nat} (h : BRow w g zs) (hn : zs.length = n) (hz : ∀ z ∈ zs, 0 ≤ z ∧ z < 256) : Shows w w.heap.size (some ⟨g, 0, none⟩) n zs :=
  ⟨hn, hz, fun h0 => ⟨g, 0, rfl, h.lt, fun i hi => by rw [Nat.zero_add]; exact h.cell i (by omega)⟩⟩
end

/-- The k bytes of v, the greatest first. -/
def digits (v : Int) (k : Nat) : List Int := (List.range k).map fun i => v / 256 ^ (k - 1 - i) % 256

theorem make_bytes (k : Nat) (hk : k ≤ 100) (w : World) :
    (Instr.makeSlice 26 (.int .i64 (k : Int)) (.int .i64 (k : Int))).run Try.prog w = .ok (.slice (some ⟨w.heap.size, 0, none⟩) k k) (w.alloc (.cells (madeCells #[.int .u8 0] k) 5)) := by
  exact run_make_row' (P := Try.prog) 26 5 (.int .u8 0) 1 Try.underlying26 info_u8 rfl .i64 .i64 k (by omega) (by omega) w

theorem made_brow (w : World) (k : Nat) : BRow (w.alloc (.cells (madeCells #[.int .u8 0] k) 5)) w.heap.size (List.replicate k 0) := by
  unfold BRow
  rw [heap_alloc_new]
  congr 2
  apply Array.toList_inj.1
  rw [toList_madeCells_one]
  simp

/-- One byte more from the end is written. -/
theorem digits_step (v : Int) (k m : Nat) (cs : List Int) (hm : m < k) (hl : cs.length = k) (h : ∀ p, m + 1 ≤ p → p < k → cs.getD p 0 = v / 256 ^ (k - 1 - p) % 256) :
    ∀ p, m ≤ p → p < k → (cs.set m (v / 256 ^ (k - (m + 1)) % 256)).getD p 0 = v / 256 ^ (k - 1 - p) % 256 := by
  intro p h1 h2
  by_cases e : p = m
  · subst e
    rw [show k - (p + 1) = k - 1 - p from by omega]
    simp [List.getD, hl, h2]
  · have := h p (by omega) h2
    rw [← this]
    simp [List.getD, List.getElem?_set_ne (Ne.symm e)]

theorem digits_all (v : Int) (k : Nat) (cs : List Int) (hl : cs.length = k) (h : ∀ p, 0 ≤ p → p < k → cs.getD p 0 = v / 256 ^ (k - 1 - p) % 256) : cs = digits v k := by
  apply List.ext_getElem
  · simp [digits, hl]
  · intro i h1 h2
    have := h i (by omega) (by omega)
    simp only [List.getD, List.getElem?_eq_getElem h1, Option.getD_some] at this
    rw [this]
    simp [digits]

theorem quo_step (v : Int) (k m : Nat) (hm : m < k) : v / 256 ^ (k - (m + 1)) / 256 = v / 256 ^ (k - m) := by
  rw [show k - m = (k - (m + 1)) + 1 from by omega, Int.pow_succ, Int.ediv_ediv_of_nonneg (Int.pow_nonneg (by omega))]

set_option maxHeartbeats 400000 in

theorem bytes_any (v : Int) (k : Nat) (w : World) (hk : k ≤ 100) (h0 : 0 ≤ v) (h1 : v ≤ 18446744073709551615) :
    Calls Try.prog 10 #[.int .u64 v, .int .i64 k] w fun e w' => e = .returned (.slice (some ⟨w.heap.size, 0, none⟩) k k) ∧ Shows w' w'.heap.size (some ⟨w.heap.size, 0, none⟩) k (digits v k) ∧ Below w.heap.size w w' := by
  have HM := make_bytes k hk
  go_enter Try.func10, Try.ntmps10
  go_wp2
  go_loopw [0, 6] (fun x i wr => ∃ (j : Nat) (q : Int) (cs : List Int), j ≤ k ∧ q = (j : Int) - 1 ∧ i = .int .i64 q ∧ x = .int .u64 (v / 256 ^ (k - j)) ∧ cs.length = k ∧ BRow wr w.heap.size cs ∧ (∀ z ∈ cs, 0 ≤ z ∧ z < 256) ∧
      (∀ p, j ≤ p → p < k → cs.getD p 0 = v / 256 ^ (k - 1 - p) % 256) ∧ Below w.heap.size w wr) (fun _ i _ => (intOf i + 1).toNat)
  case atStart => exact ⟨k, _, List.replicate k 0, Nat.le_refl _, rfl, rfl, by simp, by simp, made_brow w k, by simp, by omega, (Below.refl _ _).alloc (Nat.le_refl _) _⟩
  case round =>
    obtain ⟨j, q, cs, hj, hq, rfl, rfl, hl, hrow, hz, hd, hbel⟩ := hrel
    have hv0 : 0 ≤ v / 256 ^ (k - j) := Int.ediv_nonneg h0 (Int.pow_nonneg (by omega))
    have hv1 : v / 256 ^ (k - j) ≤ 18446744073709551615 := Int.le_trans (Int.ediv_le_self _ h0) h1
    rcases Nat.eq_zero_or_pos j with rfl | hpos
    · have e : cs = digits v k := digits_all v k cs hl hd
      have hlt : q < 0 := by omega
      have HR := Lib.hid (And.intro (e ▸ hrow.shows hl hz) hbel)
      clear hq hl hd e hrow hbel HM
      go_wp2
      go_ret
      exact ⟨rfl, HR.out.1, HR.out.2⟩
    · obtain ⟨m, rfl⟩ : ∃ m, j = m + 1 := ⟨j - 1, by omega⟩
      obtain rfl : q = (m : Int) := by omega
      have hc := hrow.cell m (by omega)
      have hf := hrow.free m
      generalize hx : v / 256 ^ (k - (m + 1)) = x at hv0 hv1
      have HX := Lib.hid hx
      have HD := Lib.hid (digits_step v k m cs (by omega) hl hd)
      have HQ := Lib.hid (quo_step v k m (by omega))
      rw [hx] at HD HQ
      have HR := Lib.hid (hrow.set m (x % 256))
      have HB := Lib.hid (hbel.setCell (p := ⟨w.heap.size, m, none⟩) (Nat.le_refl _) (.int .u8 (x % 256)))
      have HZ : Hid (∀ z ∈ cs.set m (x % 256), 0 ≤ z ∧ z < 256) := by
        intro z hz'
        rcases List.mem_or_eq_of_mem_set hz' with h | h
        · exact hz z h
        · subst h; omega
      have HL := Lib.hid hl
      clear hq hl hd hrow hbel HM hx hz
      go_wp2
      go_roundw
      case rel => exact ⟨m, _, _, by omega, rfl, rfl, by rw [← HQ.out], by rw [List.length_set]; exact HL.out, HR.out, HZ.out, HD.out, HB.out⟩
      case measure => simp [intOf]

theorem digits_four (v : Int) (h0 : 0 ≤ v) (h1 : v ≤ 4294967295) : digits v 4 = four v := by
  have e : List.range 4 = [0, 1, 2, 3] := rfl
  simp only [digits, four, e, List.map_cons, List.map_nil, List.cons.injEq, and_true]
  refine ⟨?_, ?_, ?_, ?_⟩ <;> simp only [show (4 - 1 - 0 : Nat) = 3 from rfl, show (4 - 1 - 1 : Nat) = 2 from rfl, show (4 - 1 - 2 : Nat) = 1 from rfl, show (4 - 1 - 3 : Nat) = 0 from rfl, show (256 : Int) ^ 3 = 16777216 from by decide, show (256 : Int) ^ 2 = 65536 from by decide, show (256 : Int) ^ 1 = 256 from by decide, show (256 : Int) ^ 0 = 1 from by decide]
  all_goals omega
theorem digits_eight (v : Int) (h0 : 0 ≤ v) (h1 : v ≤ 18446744073709551615) : digits v 8 = four (v / 4294967296) ++ four (v % 4294967296) := by
  have e : List.range 8 = [0, 1, 2, 3, 4, 5, 6, 7] := rfl
  simp only [digits, four, e, List.map_cons, List.map_nil, List.cons_append, List.nil_append, List.cons.injEq, and_true]
  refine ⟨?_, ?_, ?_, ?_, ?_, ?_, ?_, ?_⟩ <;> simp only [show (8 - 1 - 0 : Nat) = 7 from rfl, show (8 - 1 - 1 : Nat) = 6 from rfl, show (8 - 1 - 2 : Nat) = 5 from rfl, show (8 - 1 - 3 : Nat) = 4 from rfl, show (8 - 1 - 4 : Nat) = 3 from rfl, show (8 - 1 - 5 : Nat) = 2 from rfl, show (8 - 1 - 6 : Nat) = 1 from rfl, show (8 - 1 - 7 : Nat) = 0 from rfl, show (256 : Int) ^ 7 = 72057594037927936 from by decide, show (256 : Int) ^ 6 = 281474976710656 from by decide, show (256 : Int) ^ 5 = 1099511627776 from by decide, show (256 : Int) ^ 4 = 4294967296 from by decide, show (256 : Int) ^ 3 = 16777216 from by decide, show (256 : Int) ^ 2 = 65536 from by decide, show (256 : Int) ^ 1 = 256 from by decide, show (256 : Int) ^ 0 = 1 from by decide]
  all_goals omega

theorem bytes_four (v : Int) (w : World) (h0 : 0 ≤ v) (h1 : v ≤ 4294967295) :
    Calls Try.prog 10 #[.int .u64 v, .int .i64 4] w fun e w' => ∃ g, e = .returned (.slice (some ⟨g, 0, none⟩) 4 4) ∧ Shows w' w'.heap.size (some ⟨g, 0, none⟩) 4 (four v) ∧ Below w.heap.size w w' :=
  (bytes_any v 4 w (by omega) h0 (by omega)).mono fun e w' ⟨h2, h3, h4⟩ => ⟨_, h2, by rw [← digits_four v h0 h1]; exact h3, h4⟩
theorem bytes_eight (v : Int) (w : World) (h0 : 0 ≤ v) (h1 : v ≤ 18446744073709551615) :
    Calls Try.prog 10 #[.int .u64 v, .int .i64 8] w fun e w' => ∃ g, e = .returned (.slice (some ⟨g, 0, none⟩) 8 8) ∧ Shows w' w'.heap.size (some ⟨g, 0, none⟩) 8 (four (v / 4294967296) ++ four (v % 4294967296)) ∧ Below w.heap.size w w' :=
  (bytes_any v 8 w (by omega) h0 h1).mono fun e w' ⟨h2, h3, h4⟩ => ⟨_, h2, by rw [← digits_eight v h0 h1]; exact h3, h4⟩


/-- A row of the call's own is left by a call that lays only new blocks. -/
theorem own_on {w w' : World} {base n sz : Nat} {e : TypeId} {v : Value} {xs : List Value} (h : w.ownsRow base e sz v n xs) (hb : Below w.heap.size w w') : w'.ownsRow base e sz v n xs :=
  h.kept (row := none) ⟨hb.os, hb.tape, hb.output, hb.size, fun i hi _ => hb.block i hi⟩ (by cases v.ownBlock <;> simp)
end Go.Proofs.Ytnopcnbeklbfoaa

/-! append(b, make([]byte, m)...) onto a row that the call owns: gc's append-of-make. -/
namespace Go.Proofs.Ytnopcnbeklbfoaa
open Go.RowKit
set_option linter.unusedVariables false
set_option linter.unusedSimpArgs false

theorem zeroCells_u8 (m : Nat) : (Builtin.zeroCells (Value.int .u8 0).cells m).toList = u8s (List.replicate m 0) := by
  have e : (Value.int .u8 0).cells = #[.int .u8 0] := rfl
  rw [e]
  simp only [Builtin.zeroCells, List.size_toArray, List.length_cons, List.length_nil, Nat.zero_add, Nat.mul_one, u8s, List.map_replicate]
  rw [Array.toList_map, Array.toList_range]
  apply List.ext_getElem
  · simp
  · intro i h1 h2
    simp [Nat.mod_one]

set_option maxHeartbeats 1000000 in
theorem run_append_zeros (w : World) (i0 : TypeInfo) (hi0 : Try.prog.info? 5 = some i0) (hz0 : i0.zero = some (.int .u8 0)) (hz1 : i0.size = 1) (hz2 : i0.bytes = 1)
    (base : Nat) (v : Value) (n : Nat) (xs : List Value) (hown : w.ownsRow base 5 1 v n xs) (m : Nat) (hnm : n + m ≤ 140737488351232) (hbase : base ≤ w.heap.size) (ty : TypeId) :
    ∃ v' w', (Builtin.append_ #[26, 3] ty #[v, .int .i64 (m : Int)]).run Try.prog w = .ok v' w' ∧ w'.ownsRow base 5 1 v' (n + m) (xs ++ u8s (List.replicate m 0)) ∧ w.grownBy w' v.ownBlock := by
  have ht := Try.underlying26
  have htn := Try.underlying3
  have hw : IntKind.i64.wrap (m : Int) = m := by rw [IntKind.wrap_i64]; omega
  have hneg : ¬ ((m : Int) < 0) := by omega
  have h48i : ¬ (281474976710656 < (m : Int) * (i0.bytes : Int)) := by rw [hz2]; omega
  have h48j : ¬ (281474976710656 < (m : Int)) := by omega
  have hl : xs.length = n := by simpa using hown.1
  have hlen : (xs ++ u8s (List.replicate m 0)).length = (n + m) * 1 := by simp [hl]
  have hsz : (Builtin.zeroCells (Value.int .u8 0).cells m).size = m := by rw [size_zeroCells]; simp [Value.cells]
  rcases Nat.eq_zero_or_pos m with rfl | hm
  · refine ⟨v, w, ?_, by simpa using hown, World.grownBy.refl w _⟩
    rcases hown.2 with ⟨rfl, rfl⟩ | ⟨g, cap, cur, rfl, _, _, hnc, _⟩
    · simp [Builtin.append_, run_underlying ht, run_underlying htn, sizeOf, typeInfo, hi0, asInt, asIntOf, hw, Builtin.lenOf, Builtin.firstCells, IntKind.wrap_i64]
    · simp [Builtin.append_, run_underlying ht, run_underlying htn, sizeOf, typeInfo, hi0, asInt, asIntOf, hw, Builtin.lenOf, Builtin.firstCells, hnc, storeCells, IntKind.wrap_i64]
  · have grow : ∀ (A : Option Addr) (cap : Nat), cap < n + m → v = .slice A n cap → (Builtin.firstCells 1 n (.slice A n cap)).run Try.prog w.drew = .ok xs.toArray w.drew →
        ∃ v' w', (Builtin.append_ #[26, 3] ty #[v, .int .i64 (m : Int)]).run Try.prog w = .ok v' w' ∧ w'.ownsRow base 5 1 v' (n + m) (xs ++ u8s (List.replicate m 0)) ∧ w.grownBy w' v.ownBlock := by
      intro A cap hlt hv hold
      subst hv
      have hr := Lib.run_append_grow_zeros (P := Try.prog) w 26 3 ty 5 i0 (.int .u8 0) .i64 .i64 ht htn hi0 hz0 A n cap xs (by rw [hz1]; exact hold) m hm (by omega) hlt (by omega) (by rw [hz2]; omega) (by rw [hz2]; exact growslice_fits (by omega) (by omega))
      have hge := grownCap_ge w (n + m) cap 5
      have hcm : grownCap w (n + m) cap 5 ≤ maxLen := grownCap_le_maxLen w (n + m) cap 5 (by unfold maxLen; omega)
      refine ⟨_, _, hr, ⟨hlen, .inr ⟨w.heap.size, _, _, rfl, hbase, heap_alloc_new w.drew _, hge, hcm, ?_, ?_⟩⟩, ⟨rfl, rfl, rfl, by simp, fun k hk _ => heap_alloc_old w.drew _ hk⟩⟩
      · simp only [Array.size_append, List.size_toArray, size_zeroCells, hsz, hl]
        simp only [Value.cells, List.size_toArray, List.length_cons, List.length_nil]
        omega
      · simp only [Array.toList_append, zeroCells_u8]
        rw [← hlen]
        exact List.take_left
    rcases hown.2 with ⟨hv, hx⟩ | ⟨g, cap, cur, hv, hbg, hg, hnc, hcm, hcs, htake⟩
    · subst hx
      obtain rfl : xs = [] := List.eq_nil_of_length_eq_zero hl
      exact grow none 0 (by omega) hv (run_firstCells_none w.drew 1 0 0 0)
    · by_cases hroom : n + m ≤ cap
      · subst hv
        have hfit : n * i0.size + (u8s (List.replicate m 0)).length ≤ cur.size := by rw [hz1, hcs]; simp; omega
        have hst := run_storeCells_at Try.prog g (n * i0.size) 5 (u8s (List.replicate m 0)) 0 cur w hg (by simpa using hfit) (fun u hu => by obtain ⟨z, _, rfl⟩ := List.mem_map.1 hu; rfl)
        rw [hz1] at hst hfit
        simp only [Nat.add_zero, Nat.mul_one] at hst hfit
        have hm0 : m ≠ 0 := by omega
        have hr : (Builtin.append_ #[26, 3] ty #[.slice (some ⟨g, 0, none⟩) n cap, .int .i64 (m : Int)]).run Try.prog w =
            .ok (.slice (some ⟨g, 0, none⟩) (n + m) cap) (w.setRow g (cur.toList.take n ++ u8s (List.replicate m 0) ++ cur.toList.drop (n + (u8s (List.replicate m 0)).length)).toArray) := by
          rw [← zeroCells_u8] at hst ⊢
          simp [Builtin.append_, run_underlying ht, run_underlying htn, sizeOf, typeInfo, zeroValue, hi0, hz0, hz1, hz2, asInt, asIntOf, hw, hneg, h48i, h48j, hm0, hroom, Addr.add_lit, hst]
        refine ⟨_, _, hr, ⟨hlen, .inr ⟨g, cap, _, rfl, hbg, setRow_heap w g cur _ 5 _ hg, hroom, hcm, ?_, ?_⟩⟩, ⟨rfl, rfl, rfl, by simp, fun k _ hk => setRow_other w g k _ (fun e => hk (by simp [Value.ownBlock, e]))⟩⟩
        · simp only [List.size_toArray, List.length_append, List.length_take, List.length_drop, Array.length_toList]
          omega
        · have h1 : cur.toList.take n = xs := by simpa using htake
          rw [h1, ← hlen]
          exact List.take_left
      · have holds : ∀ j u, xs[j]? = some u → w.cell? ((⟨g, 0, none⟩ : Addr).add j) = some u := by
          subst hv
          exact hown.cells (g := g) rfl
        exact grow (some ⟨g, 0, none⟩) cap (by omega) hv (run_firstCells_some (P := Try.prog) w.drew 1 n _ n cap xs (by simpa using hl) holds)
end Go.Proofs.Ytnopcnbeklbfoaa

/-! The document's blob, its small parts: a cell's bytes, bytes with noughts up to a multiple of 4. -/
namespace Go.Proofs.Ytnopcnbeklbfoaa
open Go.RowKit
set_option linter.unusedVariables false
set_option linter.unusedSimpArgs false

theorem four_byte (v : Int) (h0 : 0 ≤ v) (h1 : v ≤ 4294967295) : ∀ z ∈ four v, 0 ≤ z ∧ z < 256 := by
  intro z hz
  simp only [four, List.mem_cons, List.not_mem_nil, or_false] at hz
  omega
theorem and_mask (v : Nat) (hv : v ≤ 4294967295) : bits .and .u64 (v : Int) 4294967295 = v := by
  have h := u64_and_nat v 4294967295 (by omega) (by omega)
  have e : v &&& 4294967295 = v := by
    have := Nat.and_two_pow_sub_one_eq_mod v 32
    rw [show (2 ^ 32 - 1 : Nat) = 4294967295 from by decide, show (2 ^ 32 : Nat) = 4294967296 from by decide] at this
    rw [this]; omega
  rw [e] at h
  exact h

set_option maxHeartbeats 400000 in
theorem doccell_any (v : Nat) (w : World) (hv : v ≤ 4294967295) :
    Calls Try.prog 28 #[.int .i64 v] w fun e w' => ∃ g, e = .returned (.slice (some ⟨g, 0, none⟩) 4 4) ∧ Shows w' w'.heap.size (some ⟨g, 0, none⟩) 4 (four v) ∧ Below w.heap.size w w' := by
  have e := and_mask v hv
  go_enter Try.func28, Try.ntmps28
  go_wp2_with fail
  refine (bytes_four (v : Int) _ (by omega) (by omega)).mono ?_
  rintro e w' ⟨g, rfl, hs, hb⟩
  have HS := Lib.hid (And.intro hs hb)
  clear hs hb
  go_wp2
  go_ret
  exact ⟨g, rfl, HS.out.1, HS.out.2⟩

/-- How many noughts are missing up to a multiple of 4. -/
def padN (n : Nat) : Nat := (4 - n % 4) % 4
/-- Bytes, and noughts up to a multiple of 4. -/
def padL (zs : List Int) : List Int := zs ++ List.replicate (padN zs.length) 0
theorem padL_length (zs : List Int) : (padL zs).length = zs.length + padN zs.length := by simp [padL]
theorem padN_lt (n : Nat) : padN n < 4 := by unfold padN; omega
theorem padL_byte {zs : List Int} (h : ∀ z ∈ zs, 0 ≤ z ∧ z < 256) : ∀ z ∈ padL zs, 0 ≤ z ∧ z < 256 := by
  intro z hz
  rcases List.mem_append.1 hz with h' | h'
  · exact h z h'
  · rw [List.mem_replicate] at h'; omega
theorem bytes_more {zs : List Int} (h : ∀ z ∈ zs, 0 ≤ z ∧ z < 256) (j : Nat) : ∀ z ∈ zs ++ List.replicate j 0, 0 ≤ z ∧ z < 256 := by
  intro z hz
  rcases List.mem_append.1 hz with h' | h'
  · exact h z h'
  · rw [List.mem_replicate] at h'; omega

/-- A new block of bytes is shown. -/
theorem shows_lit (w : World) (zs : List Int) (n : Nat) (cs : Array Value) (hn : zs.length = n) (hz : ∀ z ∈ zs, 0 ≤ z ∧ z < 256) (hcs : cs = (u8s zs).toArray) (t : TypeId) :
    Shows (w.alloc (.cells cs t)) (w.heap.size + 1) (some ⟨w.heap.size, 0, none⟩) n zs := by
  subst hcs
  refine ⟨hn, hz, fun h0 => ⟨w.heap.size, 0, rfl, by omega, fun i hi => ?_⟩⟩
  rw [Nat.zero_add, cell_of_row (w.alloc (.cells (u8s zs).toArray t)) w.heap.size i _ t (0, 0) (heap_alloc_new w _)]
  have hi' : i < zs.length := by omega
  simp [List.getD, List.getElem?_eq_getElem hi']

def lenOfV : Value → Nat
  | .slice _ k _ => k
  | _ => 0
/-- How many noughts are missing. -/
def missing (v : Value) : Nat := padN (lenOfV v)

set_option maxHeartbeats 1000000 in
theorem padded_any (A : Option Addr) (n c : Nat) (zs : List Int) (w : World) (hs : Shows w w.heap.size A n zs) (hn : n ≤ 70368744177664) :
    Calls Try.prog 43 #[.slice A n c] w fun e w' => ∃ A' m c', e = .returned (.slice A' m c') ∧ Shows w' w'.heap.size A' m (padL zs) ∧ Below w.heap.size w w' := by
  obtain ⟨i0, hi0, hz0, hz1, hz2⟩ := info_parts info_u8
  have HI : Hid (Try.prog.info? 5 = some i0 ∧ i0.zero = some (.int .u8 0) ∧ i0.size = 1 ∧ i0.bytes = 1) := ⟨hi0, hz0, hz1, hz2⟩
  have HB0 := (Below.refl w.heap.size w).alloc (Nat.le_refl _) (.cells #[] 5)
  obtain ⟨v1, w1, hrun, hown1, hgr1, _⟩ := run_append_shown (w.alloc (.cells #[] 5)) i0 hi0 hz0 hz1 hz2 w.heap.size (.slice (some ⟨w.heap.size, 0, none⟩) 0 0) 0 [] (World.ownsRow_made w #[] 0 (Nat.le_refl _) (Nat.zero_le _) rfl) w.heap.size A n c zs (hs.below HB0) (by omega) (by simp) 26
  have hb1 := HB0.grown hgr1 (by simp) (fun q hq => by simp [Value.ownBlock] at hq; omega)
  have HZ := Lib.hid (And.intro hs.1 hs.2.1)
  have HO := Lib.hid hown1
  have HB := Lib.hid hb1
  clear hi0 hz0 hz1 hz2 hs hown1 hb1 hgr1 HB0
  go_enter Try.func43, Try.ntmps43
  go_wp2_with (at_builtin; refine Lib.wpList_append_run_sl _ rfl _ _ _ rfl _ _ rfl rfl hrun ?_)
  go_loopw [3] (fun v wr => ∃ j, j ≤ padN n ∧ wr.ownsRow w.heap.size 5 1 v (n + j) (u8s (zs ++ List.replicate j 0)) ∧ Below w.heap.size w wr) (fun v _ => missing v)
  case atStart => exact ⟨0, Nat.zero_le _, by simpa using HO.out, HB.out⟩
  case round =>
    obtain ⟨j, hj, hown, hbel⟩ := hrel
    obtain ⟨N, hN⟩ : ∃ N, n + j = N := ⟨_, rfl⟩
    have hb : N ≤ 70368744177674 := by have := padN_lt n; omega
    have HJ := Lib.hid (And.intro hj hN)
    rw [hN] at hown
    obtain ⟨A1, c1, rfl, hsh, _, _⟩ := owned_shows hown (bytes_more HZ.out.2 j)
    have HO1 := Lib.hid hown
    have HB1 := Lib.hid hbel
    have HS1 := Lib.hid hsh
    clear hown hbel hsh hj hrun hN
    by_cases h4 : N % 4 = 0
    · have h4' : ((N : Int) % 4 != 0) = false := by rw [bne_eq_false_iff_eq]; omega
      have HE : Hid (zs ++ List.replicate j 0 = padL zs) := by
        have hje : j = padN n := by have := HJ.out; unfold padN at this ⊢; omega
        show _ = _
        rw [hje, padL, HZ.out.1]
      clear h4
      go_wp2
      go_ret
      exact ⟨_, _, _, rfl, by rw [← HE.out]; exact HS1.out, HB1.out⟩
    · have h4' : ((N : Int) % 4 != 0) = true := by rw [bne_iff_ne]; omega
      have hje : j + 1 ≤ padN n ∧ n + (j + 1) = N + 1 := by have := HJ.out; unfold padN at this ⊢; omega
      have HJE := Lib.hid hje
      obtain ⟨i1, i2, i3, i4⟩ := HI.out
      have hbx := HB1.out.alloc HB1.out.size (.cells #[.int .u8 0] 5)
      obtain ⟨v2, w2, hrun, hown2, hgr2, _⟩ := run_append_shown (wr.alloc (.cells #[.int .u8 0] 5)) i0 i1 i2 i3 i4 w.heap.size (.slice A1 N c1) N _ (HO1.out.alloc _) _ _ 1 1 [0] (shows_lit wr [0] 1 _ rfl (by simp) rfl 5) (by omega) hbx.size 26
      have HO2 := Lib.hid hown2
      have HB2 := Lib.hid (hbx.grown hgr2 hbx.size (fun q hq => (HO1.out.lt q hq).1))
      obtain ⟨A2, c2, rfl⟩ : ∃ A2 c2, v2 = .slice A2 (N + 1) c2 := by
        rcases hown2.2 with ⟨_, h⟩ | ⟨g, cap, cur, h, _⟩
        · omega
        · exact ⟨_, _, h⟩
      have HM := Lib.hid (show missing (.slice A2 (N + 1) c2) < missing (.slice A1 N c1) from by simp only [missing, lenOfV, padN]; omega)
      clear i1 i2 i3 i4 hbx hown2 hgr2 hje h4
      go_wp2_with (at_builtin; refine Lib.wpList_append_run_sl _ rfl _ _ _ rfl _ _ rfl rfl hrun ?_)
      go_roundw
      case rel => exact ⟨j + 1, HJE.out.1, by rw [HJE.out.2, List.replicate_succ', ← List.append_assoc, u8s, List.map_append]; exact HO2.out, HB2.out⟩
      case measure => exact HM.out
end Go.Proofs.Ytnopcnbeklbfoaa

/-! Layer 4: what Decode answers, as a function of the bytes alone. -/
namespace Go.Proofs.Ytnopcnbeklbfoaa
open Go.RowKit
set_option linter.unusedVariables false
set_option linter.unusedSimpArgs false

/-- A node without addresses. -/
inductive PN where
  | mk (name : ByteArray) (props : List (ByteArray × List Int)) (kids : List PN)
namespace PN
def name : PN → ByteArray | .mk n _ _ => n
def props : PN → List (ByteArray × List Int) | .mk _ p _ => p
def kids : PN → List PN | .mk _ _ k => k
end PN
instance : Inhabited PN := ⟨.mk ⟨#[]⟩ [] []⟩

def PV.pure (p : PV) : ByteArray × List Int := (p.name, p.zs)
mutual
def pureN : Nd → PN
  | .mk n _ _ ps _ _ ks => .mk n (ps.map PV.pure) (pureL ks)
def pureL : List Nd → List PN
  | [] => []
  | k :: r => pureN k :: pureL r
end
theorem pureL_map : ∀ l : List Nd, pureL l = l.map pureN
  | [] => by simp [pureL]
  | k :: r => by simp [pureL, pureL_map r]
theorem pureN_mk (n : Nd) : pureN n = .mk n.name (n.props.map PV.pure) (n.kids.map pureN) := by
  cases n; simp only [pureN, pureL_map]; rfl

/-- A node that is being read: its name, what is read of it, and which names are taken by nodes below it. -/
structure PF where
  name : ByteArray
  props : List (ByteArray × List Int)
  kids : List PN
  taken : List ByteArray
def PF.done (f : PF) : PN := .mk f.name f.props f.kids
def PF.new (s : ByteArray) : PF := ⟨s, [], [], []⟩

/-- Where the reader stands: the place of the next token, the innermost node, those around it. -/
structure PSt where
  pos : Nat
  top : PF
  below : List PF

theorem padN_mod (n : Nat) : (n + padN n) % 4 = 0 := by unfold padN; omega

def tokAt (S : List Int) (a : Nat) : Option Int := if a + 4 ≤ S.length then some (numTo S a 4) else none
/-- The bytes from a place on up to the next nought. -/
def textFrom (S : List Int) (a : Nat) : Option (List Int) := if 0 ∈ S.drop a then some ((S.drop a).takeWhile fun z => decide (z ≠ 0)) else none
/-- The place behind noughts up to a multiple of 4. -/
def behind (S : List Int) (a : Nat) : Option Nat := if a + padN a ≤ S.length ∧ ∀ x ∈ (S.drop a).take (padN a), x = 0 then some (a + padN a) else none

/-- May a token stand, where there are so many open nodes around the innermost one, which has so many nodes? -/
def standB (b k : Nat) (tok : Int) : Bool :=
  if tok = 1 then (decide (0 < b) || decide (k = 0)) else if tok = 2 then decide (0 < b) else if tok = 3 then (decide (0 < b) && decide (k = 0)) else if tok = 4 then true else if tok = 9 then (decide (b = 0) && decide (k = 1)) else false

/-- Is a name among those? -/
def hasS (l : List ByteArray) (s : ByteArray) : Bool := l.any fun x => decide (x = s)
theorem hasS_iff {l : List ByteArray} {s : ByteArray} : hasS l s = true ↔ s ∈ l := by
  unfold hasS
  rw [List.any_eq_true]
  exact ⟨fun ⟨x, h1, h2⟩ => by rw [← of_decide_eq_true h2]; exact h1, fun h => ⟨s, h, decide_eq_true rfl⟩⟩
theorem hasS_false {l : List ByteArray} {s : ByteArray} : hasS l s = false ↔ s ∉ l := by
  rw [← hasS_iff]; simp

noncomputable def okName (s : ByteArray) (d : Nat) : Bool := if d = 1 then s.toList.isEmpty else nodeB s

noncomputable def beginF (S : List Int) (st : PSt) : Except Int PSt :=
  match textFrom S (st.pos + 4) with
  | none => .error 4
  | some s => match behind S (st.pos + 4 + s.length + 1) with
    | none => .error 4
    | some a =>
      if 16 < st.below.length + 1 then .error 6 else if okName (strOfNums s) (st.below.length + 1) = false then .error 5 else if hasS st.top.taken (strOfNums s) = true then .error 9 else
        .ok ⟨a, PF.new (strOfNums s), { st.top with taken := st.top.taken ++ [strOfNums s] } :: st.below⟩

noncomputable def propF (S T : List Int) (st : PSt) : Except Int PSt :=
  if st.pos + 12 ≤ S.length then
    if ((S.length - (st.pos + 12) : Nat) : Int) < numTo S (st.pos + 4) 4 then .error 4 else
    match behind S (st.pos + 12 + (numTo S (st.pos + 4) 4).toNat) with
    | none => .error 4
    | some a => match textFrom T (numTo S (st.pos + 8) 4).toNat with
      | none => .error 4
      | some s => if propB (strOfNums s) = false then .error 5 else if hasS (st.top.props.map Prod.fst) (strOfNums s) = true then .error 9 else
        .ok ⟨a, { st.top with props := st.top.props ++ [(strOfNums s, (S.drop (st.pos + 12)).take (numTo S (st.pos + 4) 4).toNat)] }, st.below⟩
  else .error 4

def leaveF (st : PSt) : PSt :=
  match st.below with
  | [] => st
  | f :: r => ⟨st.pos, { f with kids := f.kids ++ [st.top.done] }, r⟩
def skipF (st : PSt) : PSt := { st with pos := st.pos + 4 }

noncomputable def readF (S T : List Int) (st : PSt) (tok : Int) : Except Int PSt :=
  if tok = 1 then beginF S st else if tok = 3 then propF S T st else if tok = 2 then .ok (skipF (leaveF st)) else .ok (skipF st)

noncomputable def rootF (S T : List Int) : Nat → PSt → Except Int PN
  | 0, _ => .error 4
  | f + 1, st =>
    match tokAt S st.pos with
    | none => .error 4
    | some k =>
      if standB st.below.length st.top.kids.length k = false then .error 4 else
      match readF S T st k with
      | .error e => .error e
      | .ok st' => if k = 9 then (if st'.pos = S.length then .ok (st'.top.kids.headD default) else .error 4) else rootF S T f st'
def start : PSt := ⟨0, PF.new ⟨#[]⟩, []⟩

/-- The reserves from a place on. -/
def resF (zs : List Int) : Nat → Nat → List (Int × Int) → Except Int (List (Int × Int))
  | 0, _, _ => .error 4
  | f + 1, a, l =>
    if a + 16 ≤ zs.length then
      if numTo zs a 8 = 0 ∧ numTo zs (a + 8) 8 = 0 then (if 64 < l.length then .error 7 else .ok l) else resF zs f (a + 16) (l ++ [(numTo zs a 8, numTo zs (a + 8) 8)])
    else .error 4

def errOf {α : Type} : Except Int α → Int
  | .error e => e
  | .ok _ => 0

/-- The part of the bytes that begins at a place, and is so long. -/
def partL (zs : List Int) (a n : Nat) : List Int := (zs.drop a).take n

/-- What the bytes say, but for how many nodes and properties there may be. -/
noncomputable def readAll (zs : List Int) : Except Int (List (Int × Int) × PN) :=
  match resF zs (zs.length + 1) (hcell zs 4).toNat [] with
  | .error e => .error e
  | .ok rs => match rootF (partL zs (hcell zs 2).toNat (hcell zs 9).toNat) (partL zs (hcell zs 3).toNat (hcell zs 8).toNat) ((hcell zs 9).toNat + 1) start with
    | .error e => .error e
    | .ok n => .ok (rs, n)

/-! ### What holds of it -/
theorem textFrom_len {S : List Int} {a : Nat} {s : List Int} (h : textFrom S a = some s) : a + s.length + 1 ≤ S.length := by
  unfold textFrom at h
  split at h
  · rename_i h0
    simp only [Option.some.injEq] at h
    subst h
    have h1 : ((S.drop a).takeWhile fun z => decide (z ≠ 0)).length < (S.drop a).length := by
      have : ∀ l : List Int, 0 ∈ l → (l.takeWhile fun z => decide (z ≠ 0)).length < l.length := by
        intro l
        induction l with
        | nil => intro h; cases h
        | cons x l ih =>
          intro h
          by_cases hx : x = 0
          · simp [List.takeWhile_cons, hx]
          · have h2 : 0 ∈ l := by
              rcases List.mem_cons.1 h with e | e
              · exact absurd e.symm hx
              · exact e
            have := ih h2
            simp [List.takeWhile_cons, hx]
            simpa using this
      exact this _ h0
    rw [List.length_drop] at h1
    omega
  · cases h
theorem behind_some {S : List Int} {a b : Nat} (h : behind S a = some b) : b = a + padN a ∧ b ≤ S.length := by
  unfold behind at h
  split at h
  · rename_i h0
    simp only [Option.some.injEq] at h
    exact ⟨h.symm, h ▸ h0.1⟩
  · cases h
theorem readF_err_ne {S T : List Int} {st : PSt} {tok E : Int} (h : readF S T st tok = .error E) : E ≠ 0 := by
  unfold readF beginF propF at h
  repeat' split at h
  all_goals first | (cases h; done) | (simp only [Except.error.injEq] at h; omega)
/-- A token takes four bytes at least, and the reader stays within. -/
theorem readF_pos {S T : List Int} {st st' : PSt} {tok : Int} (h0 : st.pos + 4 ≤ S.length) (h : readF S T st tok = .ok st') : st.pos + 4 ≤ st'.pos ∧ st'.pos ≤ S.length := by
  unfold readF at h
  split at h
  · unfold beginF at h
    split at h
    · cases h
    · split at h
      · cases h
      · rename_i s hs a ha
        have h1 := behind_some ha
        repeat' split at h
        all_goals first | (cases h; done) | skip
        simp only [Except.ok.injEq] at h
        subst h
        simp only
        omega
  · split at h
    · unfold propF at h
      split at h
      · split at h
        · cases h
        · split at h
          · cases h
          · rename_i a ha
            have h1 := behind_some ha
            repeat' split at h
            all_goals first | (cases h; done) | skip
            simp only [Except.ok.injEq] at h
            subst h
            simp only
            omega
      · cases h
    · split at h <;> simp only [Except.ok.injEq] at h <;> subst h
      · unfold leaveF skipF
        split <;> simp only <;> omega
      · simp only [skipF]; omega
end Go.Proofs.Ytnopcnbeklbfoaa

/-! The document's blob, a node's first statement, whose operations come in several orders: what is known while some of them have come. -/
namespace Go.Proofs.Ytnopcnbeklbfoaa
open Go.RowKit
set_option linter.unusedVariables false
set_option linter.unusedSimpArgs false

/-- A text's bytes. -/
def strB (s : ByteArray) : List Int := s.data.toList.map fun b => (b.toNat : Int)
theorem strB_length (s : ByteArray) : (strB s).length = s.size := by simp [strB]
theorem strB_byte (s : ByteArray) : ∀ z ∈ strB s, 0 ≤ z ∧ z < 256 := by
  intro z hz
  obtain ⟨b, _, rfl⟩ := List.mem_map.1 hz
  have := b.toNat_lt
  omega

/-- An empty row that the call has made. -/
def EmptyRow (W : World) (B : Nat) (u : Value) : Prop := ∃ g, u = .slice (some ⟨g, 0, none⟩) 0 0 ∧ W.ownsRow B 5 1 u 0 []
/-- The row that []byte(s) has made: it bears a mark. -/
def MarkRow (W : World) (B : Nat) (s : ByteArray) (u : Value) : Prop :=
  ∃ g cap cs, u = .slice (some ⟨g, 0, none⟩) s.size cap ∧ B ≤ g ∧ W.heap[g]? = some (.cells cs 5 (cs.size, cs.size + 1)) ∧ cs.size = cap ∧ s.size ≤ cap ∧ cap ≤ 9223372036854775807 ∧ cs.toList.take s.size = u8s (strB s)
/-- A small row, by its bytes. -/
def SmallRow (W : World) (n : Nat) (zs : List Int) (u : Value) : Prop := ∃ g, u = .slice (some ⟨g, 0, none⟩) n n ∧ Shows W W.heap.size (some ⟨g, 0, none⟩) n zs

section
variable {W W' : World} {B : Nat} {u : Value} {s : ByteArray} {n : Nat} {zs : List Int}
theorem EmptyRow.on (h : EmptyRow W B u) (hb : Below W.heap.size W W') : EmptyRow W' B u := by
  obtain ⟨g, rfl, h⟩ := h
  exact ⟨g, rfl, own_on h hb⟩
theorem MarkRow.on (h : MarkRow W B s u) (hb : Below W.heap.size W W') : MarkRow W' B s u := by
  obtain ⟨g, cap, cs, h1, h2, h3, h4⟩ := h
  exact ⟨g, cap, cs, h1, h2, (hb.block g (Array.getElem?_eq_some_iff.1 h3).1).trans h3, h4⟩
theorem SmallRow.on (h : SmallRow W n zs u) (hb : Below W.heap.size W W') : SmallRow W' n zs u := by
  obtain ⟨g, h1, h2⟩ := h
  exact ⟨g, h1, (h2.below hb).more hb.size⟩
theorem SmallRow.new (W : World) (zs : List Int) (n : Nat) (cs : Array Value) (hn : zs.length = n) (hz : ∀ z ∈ zs, 0 ≤ z ∧ z < 256) (hcs : cs = (u8s zs).toArray) (t : TypeId) : SmallRow (W.alloc (.cells cs t)) n zs (.slice (some ⟨W.heap.size, 0, none⟩) n n) :=
  ⟨_, rfl, (shows_lit W zs n cs hn hz hcs t).more (by simp)⟩
theorem EmptyRow.new (W : World) (hB : B ≤ W.heap.size) : EmptyRow (W.alloc (.cells #[] 5)) B (.slice (some ⟨W.heap.size, 0, none⟩) 0 0) :=
  ⟨_, rfl, World.ownsRow_made W #[] 0 hB (Nat.zero_le _) rfl⟩
end

/-- append onto an empty row: a new one. -/
theorem run_append_empty (W : World) (B : Nat) (u : Value) (h : EmptyRow W B u) (hB : B ≤ W.heap.size) (n : Nat) (zs : List Int) (x : Value) (hx : SmallRow W n zs x) (h0 : 0 < n) (hn : n ≤ 100) (ty : TypeId) :
    ∃ v' W', (Builtin.append_ #[26, 26] ty #[u, x]).run Try.prog W = .ok v' W' ∧ W'.ownsRow B 5 1 v' n (u8s zs) ∧ Below W.heap.size W W' := by
  obtain ⟨i0, hi0, hz0, hz1, hz2⟩ := info_parts info_u8
  obtain ⟨g, rfl, hown⟩ := h
  obtain ⟨g2, rfl, hsh⟩ := hx
  obtain ⟨b, o, e, _, hc⟩ := hsh.at_ h0
  obtain ⟨rfl, rfl⟩ : b = g2 ∧ o = 0 := by injection e with e; injection e with e1 e2; exact ⟨e1.symm, e2.symm⟩
  have hl := hsh.1
  have hr := run_append_grow (P := Try.prog) W 26 ty 5 i0 (.int .u8 0) Try.underlying26 hi0 hz0 ⟨g, 0, none⟩ 0 0 [] (by simp) (by simp) ⟨b, 0, none⟩ n n (u8s zs) (by simp [hz1, hl])
    (fun j u hu => by
      rw [List.getElem?_map] at hu
      have hj : j < zs.length := by
        rcases Nat.lt_or_ge j zs.length with h | h
        · exact h
        · rw [List.getElem?_eq_none h] at hu; cases hu
      rw [List.getElem?_eq_getElem hj] at hu
      have := hc j (by omega)
      rw [Nat.zero_add] at this
      rw [addr_add, Nat.zero_add, this, ← Option.some.inj hu]
      simp [List.getD, List.getElem?_eq_getElem hj]) (by omega) (by omega) (by rw [hz2]; exact growslice_fits (by omega) (by omega))
  have hge := grownCap_ge W (0 + n) 0 5
  have hcm : grownCap W (0 + n) 0 5 ≤ maxLen := grownCap_le_maxLen W (0 + n) 0 5 (by unfold maxLen; omega)
  refine ⟨_, _, hr, ?_, (Below.refl _ W).drew.alloc (by simp) _⟩
  rw [Nat.zero_add] at hge hcm ⊢
  refine ⟨by simp [hl], .inr ⟨W.heap.size, _, _, rfl, hB, heap_alloc_new W.drew _, hge, hcm, ?_, ?_⟩⟩
  · have hz1' : (Value.int IntKind.u8 0).cells.size = 1 := rfl
    simp only [Array.size_append, List.size_toArray, size_zeroCells, hz1', List.length_nil, List.length_map, hl]
    omega
  · simp [hl]

/-- []byte(s). -/
theorem run_bytes_marked (W : World) (B : Nat) (hB : B ≤ W.heap.size) (s : ByteArray) (hs : s.size ≤ 140737488351232) :
    ∃ v' W', (convert 9 26 (.string s)).run Try.prog W = .ok v' W' ∧ MarkRow W' B s v' ∧ Below W.heap.size W W' := by
  have hge := grownCap_ge W s.size 0 5
  have hcm : grownCap W s.size 0 5 ≤ maxLen := grownCap_le_maxLen W s.size 0 5 (by unfold maxLen; omega)
  have hsz : (Lib.bytesCells W 5 s).size = grownCap W s.size 0 5 := by
    simp only [Lib.bytesCells, Array.size_append, Array.size_map, Array.size_replicate]
    have : s.data.size = s.size := rfl
    omega
  refine ⟨_, _, Lib.run_convert_string_bytes W _ _ 5 s Try.underlying9 Try.underlying26 Try.underlying5, ⟨_, _, _, rfl, hB, Lib.bytesWorld_at_new W _ s, hsz, hge, hcm, ?_⟩, ⟨rfl, rfl, rfl, by rw [Lib.bytesWorld_size]; omega, fun i hi => Lib.bytesWorld_at_old W _ s i hi⟩⟩
  have hl : s.data.toList.length = s.size := by simp
  rw [← hl]
  simp only [Lib.bytesCells, Array.toList_append, Array.toList_map, u8s, strB, List.map_map]
  rw [List.take_append_of_le_length (by simp), List.take_of_length_le (by simp)]
  rfl

/-- append of one nought onto the row that []byte(s) has made. -/
theorem own_ne {W : World} {B n : Nat} {v : Value} {xs : List Value} {g : Nat} (h : W.ownsRow B 5 1 v n xs) (hg : ∀ cur t, W.heap[g]? ≠ some (.cells cur t (0, 0))) : v.ownBlock = none ∨ v.ownBlock ≠ some g := by
  rcases h.2 with ⟨rfl, _⟩ | ⟨g', cap, cur, rfl, _, hh, _⟩
  · exact .inl rfl
  · refine .inr fun e => ?_
    have e' : g' = g := by simpa [Value.ownBlock] using e
    subst e'
    exact hg _ _ hh
theorem run_append_marked (W : World) (B : Nat) (s : ByteArray) (u : Value) (h : MarkRow W B s u) (hB : B ≤ W.heap.size) (hs : s.size ≤ 140737488351200) (x : Value) (hx : SmallRow W 1 [0] x) (ty : TypeId) :
    ∃ A c g W', (Builtin.append_ #[26, 26] ty #[u, x]).run Try.prog W = .ok (.slice A (s.size + 1) c) W' ∧ Shows W' W'.heap.size A (s.size + 1) (strB s ++ [0]) ∧ W.grownBy W' (some g) ∧ B ≤ g ∧ (∀ cur t, W.heap[g]? ≠ some (.cells cur t (0, 0))) := by
  obtain ⟨i0, hi0, hz0, hz1, hz2⟩ := info_parts info_u8
  obtain ⟨g, cap, cs, rfl, hg0, hg, hcs, hsc, hcm, htk⟩ := h
  obtain ⟨g2, rfl, hsh⟩ := hx
  obtain ⟨b, o, e, _, hc⟩ := hsh.at_ (by omega)
  obtain ⟨rfl, rfl⟩ : b = g2 ∧ o = 0 := by injection e with e; injection e with e1 e2; exact ⟨e1.symm, e2.symm⟩
  have hc0 : W.cell? ⟨b, 0, none⟩ = some (.int .u8 0) := by simpa using hc 0 (by omega)
  have hne : ∀ cur t, W.heap[g]? ≠ some (.cells cur t (0, 0)) := fun cur t e => by rw [hg] at e; injection e with e; injection e with _ _ e; injection e with _ e; omega
  have hz : ∀ z ∈ strB s ++ [0], 0 ≤ z ∧ z < 256 := fun z hz => by
    rcases List.mem_append.1 hz with h | h
    · exact strB_byte s z h
    · simp at h; subst h; omega
  have hlz : (strB s ++ [0]).length = s.size + 1 := by simp [strB_length]
  have cell : ∀ i, i < s.size → W.cell? ⟨g, i, none⟩ = some (.int .u8 ((strB s).getD i 0)) := fun i hi => by
    have e : W.cell? ⟨g, i, none⟩ = cs[i]? := by simp [World.cell?, hg]
    have h1 : (u8s (strB s))[i]? = cs[i]? := by rw [← htk, List.getElem?_take_of_lt hi, Array.getElem?_toList]
    rw [e, ← h1, List.getElem?_map]
    have hi' : i < (strB s).length := by rw [strB_length]; exact hi
    simp [List.getD, List.getElem?_eq_getElem hi']
  by_cases hroom : s.size + 1 ≤ cap
  · have hcn : W.cell? ⟨g, s.size, none⟩ = some cs[s.size] := by simp [World.cell?, hg, show s.size < cs.size by omega]
    have hfn : W.frozen? ⟨g, s.size, none⟩ = false := by
      simp only [World.frozen?, hg, Bool.and_eq_false_iff, decide_eq_false_iff_not]
      left
      omega
    have hst : (store (⟨g, s.size, none⟩ : Addr) (.int .u8 0)).run Try.prog W = .ok () (W.setCell ⟨g, s.size, none⟩ (.int .u8 0)) := by
      rw [run_store Try.prog W _ (.int .u8 0) _ rfl, hcn]
      simp [stored, hcn, hfn]
    have hfc := run_firstCells_some (P := Try.prog) W 1 1 ⟨b, 0, none⟩ 1 1 [.int .u8 0] rfl (fun j u hj => by
      match j, hj with
      | 0, hj => simp at hj; subst hj; rw [addr_add]; exact hc0)
    refine ⟨some ⟨g, 0, none⟩, cap, g, W.setCell ⟨g, s.size, none⟩ (.int .u8 0), ?_, ⟨hlz, hz, fun _ => ⟨g, 0, rfl, ?_, fun i hi => ?_⟩⟩, ?_, hg0, hne⟩
    · simp [Builtin.append_, run_underlying Try.underlying26, sizeOf, typeInfo, hi0, hz1, Builtin.lenOf, hroom, hfc, storeCells, addr_add, hst]
    · simp [World.setCell]; exact (Array.getElem?_eq_some_iff.1 hg).1
    · rw [Nat.zero_add]
      rcases Nat.lt_or_ge i s.size with h | h
      · rw [World.cell?_setCell_other _ _ _ _ (by intro e; injection e with _ e; omega), cell i h]
        have hi' : i < (strB s).length := by rw [strB_length]; exact h
        simp [List.getD, List.getElem?_append_left hi']
      · obtain rfl : i = s.size := by omega
        rw [World.cell?_setCell_same _ _ _ hcn]
        simp [List.getD, strB_length]
    · exact ⟨rfl, rfl, rfl, by simp [World.setCell], fun i hi hne' => Below.heap_setCell W ⟨g, s.size, none⟩ (.int .u8 0) i (fun e => hne' (by rw [e]))⟩
  · have hr := run_append_grow (P := Try.prog) W 26 ty 5 i0 (.int .u8 0) Try.underlying26 hi0 hz0 ⟨g, 0, none⟩ s.size cap (u8s (strB s)) (by simp [hz1, strB_length])
      (fun j u hu => by
        rw [List.getElem?_map] at hu
        have hj : j < (strB s).length := by
          rcases Nat.lt_or_ge j (strB s).length with h | h
          · exact h
          · rw [List.getElem?_eq_none h] at hu; cases hu
        rw [List.getElem?_eq_getElem hj] at hu
        have := cell j (by rw [← strB_length]; exact hj)
        rw [addr_add, Nat.zero_add, this, ← Option.some.inj hu]
        simp [List.getD, List.getElem?_eq_getElem hj])
      ⟨b, 0, none⟩ 1 1 [.int .u8 0] (by simp [hz1]) (fun j u hj => by
        match j, hj with
        | 0, hj => simp at hj; subst hj; rw [addr_add]; exact hc0) (by omega) (by omega) (by rw [hz2]; exact growslice_fits (by omega) (by omega))
    have hge := grownCap_ge W (s.size + 1) cap 5
    refine ⟨_, _, g, _, hr, ⟨hlz, hz, fun _ => ⟨W.heap.size, 0, rfl, by simp, fun i hi => ?_⟩⟩, ⟨rfl, rfl, rfl, by simp, fun i hi _ => heap_alloc_old W.drew _ hi⟩, hg0, hne⟩
    rw [Nat.zero_add, cell_of_row _ W.heap.size i _ 5 (0, 0) (heap_alloc_new W.drew _)]
    have hi' : i < (strB s ++ [0]).length := by omega
    have e : ((u8s (strB s)).toArray ++ [Value.int IntKind.u8 0].toArray) = (u8s (strB s ++ [0])).toArray := by simp
    rw [e, Array.getElem?_append_left (by simp [strB_length]; omega)]
    have e2 : (u8s (strB s ++ [0]))[i]? = some (.int .u8 ((strB s ++ [0])[i])) := by rw [List.getElem?_map, List.getElem?_eq_getElem hi']; rfl
    rw [List.getElem?_toArray, e2]
    simp [List.getD, List.getElem?_eq_getElem hi']

/-- What is known while some of a node's first operations have come: b0, b2, b3, b4, b7, b8: whether the empty row, it again, the token's row, the token appended, the name's row, the nought's row, are there. -/
structure NF (W0 W : World) (B : Nat) (nm : ByteArray) (b0 b2 b3 b4 b7 b8 : Bool) (u19 u21 u22 u23 u26 u27 : Value) : Prop where
  below : Below B W0 W
  size : B ≤ W.heap.size
  i20 : b2 = true → b0 = true
  i42 : b4 = true → b2 = true
  i43 : b4 = true → b3 = true
  f0 : b0 = true → EmptyRow W B u19
  f2 : b2 = true → EmptyRow W B u21
  f3 : b3 = true → SmallRow W 4 [0, 0, 0, 1] u22
  f4 : b4 = true → W.ownsRow B 5 1 u23 4 (u8s [0, 0, 0, 1])
  f7 : b7 = true → MarkRow W B nm u26
  f8 : b8 = true → SmallRow W 1 [0] u27

section
variable {W0 W W' : World} {B : Nat} {nm : ByteArray} {b0 b2 b3 b4 b7 b8 : Bool} {u19 u21 u22 u23 u26 u27 : Value}
theorem NF.on (h : NF W0 W B nm b0 b2 b3 b4 b7 b8 u19 u21 u22 u23 u26 u27) (hb : Below W.heap.size W W') : NF W0 W' B nm b0 b2 b3 b4 b7 b8 u19 u21 u22 u23 u26 u27 :=
  ⟨h.below.trans (hb.mono h.size), Nat.le_trans h.size hb.size, h.i20, h.i42, h.i43, fun e => (h.f0 e).on hb, fun e => (h.f2 e).on hb, fun e => (h.f3 e).on hb, fun e => own_on (h.f4 e) hb, fun e => (h.f7 e).on hb, fun e => (h.f8 e).on hb⟩
theorem NF.start (hb : Below B W0 W) (hs : B ≤ W.heap.size) : NF W0 W B nm false false false false false false u19 u21 u22 u23 u26 u27 :=
  ⟨hb, hs, (fun h => by cases h), (fun h => by cases h), (fun h => by cases h), (fun h => by cases h), (fun h => by cases h), (fun h => by cases h), (fun h => by cases h), (fun h => by cases h), (fun h => by cases h)⟩
theorem NF.op0 (h : NF W0 W B nm false b2 b3 b4 b7 b8 u19 u21 u22 u23 u26 u27) : NF W0 (W.alloc (.cells #[] 5)) B nm true b2 b3 b4 b7 b8 (.slice (some ⟨W.heap.size, 0, none⟩) 0 0) u21 u22 u23 u26 u27 := by
  have k := h.on ((Below.refl _ W).alloc (Nat.le_refl _) (.cells #[] 5))
  exact ⟨k.below, k.size, fun _ => rfl, k.i42, k.i43, fun _ => EmptyRow.new W h.size, k.f2, k.f3, k.f4, k.f7, k.f8⟩
theorem NF.op2 (h : NF W0 W B nm true false b3 b4 b7 b8 u19 u21 u22 u23 u26 u27) : NF W0 W B nm true true b3 b4 b7 b8 u19 u19 u22 u23 u26 u27 :=
  ⟨h.below, h.size, fun _ => rfl, fun _ => rfl, h.i43, h.f0, fun _ => h.f0 rfl, h.f3, h.f4, h.f7, h.f8⟩
theorem NF.op3 (h : NF W0 W B nm b0 b2 false b4 b7 b8 u19 u21 u22 u23 u26 u27) : NF W0 (W.alloc (.cells #[.int .u8 0, .int .u8 0, .int .u8 0, .int .u8 1] 5)) B nm b0 b2 true b4 b7 b8 u19 u21 (.slice (some ⟨W.heap.size, 0, none⟩) 4 4) u23 u26 u27 := by
  have k := h.on ((Below.refl _ W).alloc (Nat.le_refl _) (.cells #[.int .u8 0, .int .u8 0, .int .u8 0, .int .u8 1] 5))
  exact ⟨k.below, k.size, k.i20, k.i42, fun _ => rfl, k.f0, k.f2, fun _ => SmallRow.new W [0, 0, 0, 1] 4 _ rfl (by simp) rfl _, k.f4, k.f7, k.f8⟩
theorem NF.op4 (h : NF W0 W B nm b0 true true false b7 b8 u19 u21 u22 u23 u26 u27) (ty : TypeId) : ∃ v' W', (Builtin.append_ #[26, 26] ty #[u21, u22]).run Try.prog W = .ok v' W' ∧ NF W0 W' B nm b0 true true true b7 b8 u19 u21 u22 v' u26 u27 := by
  obtain ⟨v', W', h1, h2, h3⟩ := run_append_empty W B u21 (h.f2 rfl) h.size 4 [0, 0, 0, 1] u22 (h.f3 rfl) (by omega) (by omega) ty
  have k := h.on h3
  exact ⟨v', W', h1, k.below, k.size, k.i20, fun _ => rfl, fun _ => rfl, k.f0, k.f2, k.f3, fun _ => h2, k.f7, k.f8⟩
theorem NF.op7 (h : NF W0 W B nm b0 b2 b3 b4 false b8 u19 u21 u22 u23 u26 u27) (hs : nm.size ≤ 140737488351232) : ∃ v' W', (convert 9 26 (.string nm)).run Try.prog W = .ok v' W' ∧ NF W0 W' B nm b0 b2 b3 b4 true b8 u19 u21 u22 u23 v' u27 := by
  obtain ⟨v', W', h1, h2, h3⟩ := run_bytes_marked W B h.size nm hs
  have k := h.on h3
  exact ⟨v', W', h1, k.below, k.size, k.i20, k.i42, k.i43, k.f0, k.f2, k.f3, k.f4, fun _ => h2, k.f8⟩
theorem NF.op8 (h : NF W0 W B nm b0 b2 b3 b4 b7 false u19 u21 u22 u23 u26 u27) : NF W0 (W.alloc (.cells #[.int .u8 0] 5)) B nm b0 b2 b3 b4 b7 true u19 u21 u22 u23 u26 (.slice (some ⟨W.heap.size, 0, none⟩) 1 1) := by
  have k := h.on ((Below.refl _ W).alloc (Nat.le_refl _) (.cells #[.int .u8 0] 5))
  exact ⟨k.below, k.size, k.i20, k.i42, k.i43, k.f0, k.f2, k.f3, k.f4, k.f7, fun _ => SmallRow.new W [0] 1 _ rfl (by simp) rfl _⟩
/-- append of nil onto the empty row: the same. -/
theorem run_append_nil0 (W : World) (u : Value) (h : EmptyRow W B u) (ty : TypeId) : (Builtin.append_ #[26, 26] ty #[u, .slice none 0 0]).run Try.prog W = .ok u W := by
  obtain ⟨i0, hi0, hz0, hz1, hz2⟩ := info_parts info_u8
  obtain ⟨g, rfl, _⟩ := h
  simp [Builtin.append_, run_underlying Try.underlying26, sizeOf, typeInfo, hi0, Builtin.lenOf, Builtin.firstCells, storeCells]
end

section
variable {P : Program} {ops : Array Oper} {Q : Exit → Act → World → Prop} {S : World → Prop}
/-- Operations that come in whatever order: what is known is kept by each that may come. -/
theorem phase (I : Act → Nat → Array Bool → Act → World → Prop) {a0 : Act} : ∀ {fuel : Nat} {L : Array Bool} {a : Act} {w : World}, I a0 fuel L a w →
    (∀ n L a w, I a0 n L a w → (∀ m, m < n → ∀ L' a' w', I a0 m L' a' w' → wpAnyH P .any ops Q S m L' a' w') → wpAnyH P .any ops Q S n L a w) → wpAnyH P .any ops Q S fuel L a w := by
  intro fuel
  induction fuel using Nat.strongRecOn with
  | _ n ih =>
    intro L a w h hstep
    exact hstep n L a w h (fun m hm L' a' w' h' => ih m hm h' hstep)
theorem phase0 (I : Act → Nat → Array Bool → Act → World → Prop) {a0 : Act} {fuel : Nat} {L : Array Bool} {w : World} (h : I a0 fuel L a0 w)
    (hs : ∀ n L a w, I a0 n L a w → (∀ m, m < n → ∀ L' a' w', I a0 m L' a' w' → wpAnyH P .any ops Q S m L' a' w') → wpAnyH P .any ops Q S n L a w) : wpAnyH P .any ops Q S fuel L a0 w := phase I h hs
theorem any_step {n : Nat} {L : Array Bool} {a : Act} {w : World} (hne : Region.ready .any ops L ≠ []) (h : ∀ i ∈ Region.ready .any ops L, wpOp P ops Q i (fun a' w' => S w' ∧ wpAnyH P .any ops Q S n (L.setIfInBounds i true) a' w') a w) : wpAnyH P .any ops Q S (n + 1) L a w :=
  ⟨fun h0 => absurd h0 hne, h⟩
/-- One operation, by its number. -/
theorem one_op {l : List Oper} {n i : Nat} {o : Oper} {L : Array Bool} {a : Act} {w : World} (ho : l[i]? = some o) (hg : Region.wanted o (yielded l.toArray a.tmps) = true)
    (h : ∀ K : Act → World → Prop, Shut (∀ a w, S w → (S w → wpAnyH P .any l.toArray Q S n (L.setIfInBounds i true) a w) → K a w) → Oper.wp P o a w K Q) : wpOp P l.toArray Q i (fun a' w' => S w' ∧ wpAnyH P .any l.toArray Q S n (L.setIfInBounds i true) a' w') a w :=
  AllReadyH.cons (by simpa using ho) (fun K hK => by rw [if_pos hg]; exact h K hK) AllReadyH.nil i (List.mem_singleton.2 rfl)
/-- What an operation that is ready waits for has come. -/
theorem came {l : List Oper} {i j : Nat} {o : Oper} {L : Array Bool} {g : Ground} (ho : l[i]? = some o) (hi : i ∈ Region.ready .any l.toArray L) (he : { on := j, ground := g } ∈ o.after) (hb : Region.binds .any { on := j, ground := g } = true) : L.getD j false = true := by
  obtain ⟨_, o', ho', h⟩ := mem_ready.1 hi
  rw [List.getElem?_toArray, ho] at ho'
  injection ho' with e
  subst e
  exact h _ he hb
theorem not_come {i : Nat} {L : Array Bool} (hi : i ∈ Region.ready .any ops L) : L.getD i true = false := (mem_ready.1 hi).1
theorem ready_ne {l : List Nat} (h : l.isEmpty = false) : l ≠ [] := by
  rintro rfl
  cases h
theorem ready_lt {i : Nat} {L : Array Bool} (hi : i ∈ Region.ready .any ops L) : i < ops.size := by
  obtain ⟨_, o, ho, _⟩ := mem_ready.1 hi
  exact (Array.getElem?_eq_some_iff.1 ho).1
end

/-- A frame in which six temporaries have come. -/
def Six (a : Act) (u19 u21 u22 u23 u26 u27 : Value) : Act := (((((a.put (some 19) u19).put (some 21) u21).put (some 22) u22).put (some 23) u23).put (some 26) u26).put (some 27) u27
section
variable (a : Act) (u19 u21 u22 u23 u26 u27 v : Value)
theorem put_put (t : Nat) (x : Value) : (a.put (some t) x).put (some t) v = a.put (some t) v := by simp [Act.put]
theorem put_swap (t t' : Nat) (x : Value) (h : t ≠ t') : (a.put (some t) x).put (some t') v = (a.put (some t') v).put (some t) x :=
  Act.put_comm a x v (fun d e e' => by injection e with e; injection e' with e'; exact h (e.trans e'.symm))
theorem six19 : (Six a u19 u21 u22 u23 u26 u27).put (some 19) v = Six a v u21 u22 u23 u26 u27 := by
  unfold Six
  rw [put_swap _ _ 27 19 _ (by decide), put_swap _ _ 26 19 _ (by decide), put_swap _ _ 23 19 _ (by decide), put_swap _ _ 22 19 _ (by decide), put_swap _ _ 21 19 _ (by decide), put_put]
theorem six21 : (Six a u19 u21 u22 u23 u26 u27).put (some 21) v = Six a u19 v u22 u23 u26 u27 := by
  unfold Six
  rw [put_swap _ _ 27 21 _ (by decide), put_swap _ _ 26 21 _ (by decide), put_swap _ _ 23 21 _ (by decide), put_swap _ _ 22 21 _ (by decide), put_put]
theorem six22 : (Six a u19 u21 u22 u23 u26 u27).put (some 22) v = Six a u19 u21 v u23 u26 u27 := by
  unfold Six
  rw [put_swap _ _ 27 22 _ (by decide), put_swap _ _ 26 22 _ (by decide), put_swap _ _ 23 22 _ (by decide), put_put]
theorem six23 : (Six a u19 u21 u22 u23 u26 u27).put (some 23) v = Six a u19 u21 u22 v u26 u27 := by
  unfold Six
  rw [put_swap _ _ 27 23 _ (by decide), put_swap _ _ 26 23 _ (by decide), put_put]
theorem six26 : (Six a u19 u21 u22 u23 u26 u27).put (some 26) v = Six a u19 u21 u22 u23 v u27 := by
  unfold Six
  rw [put_swap _ _ 27 26 _ (by decide), put_put]
theorem six27 : (Six a u19 u21 u22 u23 u26 u27).put (some 27) v = Six a u19 u21 u22 u23 u26 v := by
  unfold Six
  rw [put_put]
theorem six_at19 (h : 19 < a.tmps.size) : (Six a u19 u21 u22 u23 u26 u27).eval (.tmp 19) = u19 := by
  simp [Six, Act.put, Act.eval, h]
theorem six_at21 (h : 21 < a.tmps.size) : (Six a u19 u21 u22 u23 u26 u27).eval (.tmp 21) = u21 := by
  simp [Six, Act.put, Act.eval, h]
theorem six_at22 (h : 22 < a.tmps.size) : (Six a u19 u21 u22 u23 u26 u27).eval (.tmp 22) = u22 := by
  simp [Six, Act.put, Act.eval, h]
theorem six_at23 (h : 23 < a.tmps.size) : (Six a u19 u21 u22 u23 u26 u27).eval (.tmp 23) = u23 := by
  simp [Six, Act.put, Act.eval, h]
theorem six_at26 (h : 26 < a.tmps.size) : (Six a u19 u21 u22 u23 u26 u27).eval (.tmp 26) = u26 := by
  simp [Six, Act.put, Act.eval, h]
theorem six_at27 (h : 27 < a.tmps.size) : (Six a u19 u21 u22 u23 u26 u27).eval (.tmp 27) = u27 := by
  simp [Six, Act.put, Act.eval, h]
theorem six_far (t : Nat) (h19 : t ≠ 19) (h21 : t ≠ 21) (h22 : t ≠ 22) (h23 : t ≠ 23) (h26 : t ≠ 26) (h27 : t ≠ 27) : (Six a u19 u21 u22 u23 u26 u27).eval (.tmp t) = a.eval (.tmp t) := by
  simp [Six, Act.put, Act.eval, Array.getElem?_setIfInBounds_ne, Ne.symm h19, Ne.symm h21, Ne.symm h22, Ne.symm h23, Ne.symm h26, Ne.symm h27]
end
theorem wp_run {P : Program} {o : Oper} {a : Act} {w w' : World} {v : Value} {K : Act → World → Prop} {Q : Exit → Act → World → Prop} (h : (execOp a.eval o).run P w = .ok (.value v) w') (hK : K (a.put o.dst v) w') : Oper.wp P o a w K Q := by
  unfold Oper.wp
  rw [h]
  exact hK
theorem conv_run {P : Program} {a : Act} {w w' : World} {x v : Value} {x0 : Operand} {t t' : TypeId} {d : Option Tmp} {ty : TypeId} {pos : String} {af : Array Edge} {gd : Option (Nat × Bool)} (hx : a.eval x0 = x) (h : (convert t t' x).run P w = .ok v w') : (execOp a.eval { dst := d, op := Op.convert t t' x0, type := ty, pos := pos, after := af, guard := gd }).run P w = .ok (.value v) w' := by
  unfold execOp
  simp only [hx, Sem.run_bind, h, Result.andThen_ok, Sem.run_pure]

theorem own_base {w : World} {b b' : Nat} {e : TypeId} {sz : Nat} {v : Value} {n : Nat} {xs : List Value} (h : w.ownsRow b e sz v n xs) (hb : b' ≤ b) : w.ownsRow b' e sz v n xs := by
  refine ⟨h.1, ?_⟩
  rcases h.2 with h | ⟨g, cap, cur, h1, h2, h3⟩
  · exact .inl h
  · exact .inr ⟨g, cap, cur, h1, Nat.le_trans hb h2, h3⟩

/-- While bytes are put behind bytes: the row is the call's own, and what was there is as it was. -/
def Mid (B : Nat) (W0 W : World) (v : Value) (zs : List Int) : Prop := W.ownsRow B 5 1 v zs.length (u8s zs) ∧ Below B W0 W ∧ B ≤ W.heap.size ∧ ∀ z ∈ zs, 0 ≤ z ∧ z < 256
theorem Mid.on {B : Nat} {W0 W W' : World} {v : Value} {zs : List Int} (h : Mid B W0 W v zs) (hb : Below W.heap.size W W') : Mid B W0 W' v zs :=
  ⟨own_on h.1 hb, h.2.1.trans (hb.mono h.2.2.1), Nat.le_trans h.2.2.1 hb.size, h.2.2.2⟩
theorem Mid.drew {B : Nat} {W0 W : World} {v : Value} {zs : List Int} (h : Mid B W0 W v zs) : Mid B W0 W.drew v zs := ⟨h.1, h.2.1.drew, h.2.2⟩
/-- A block of another kind than bytes. -/
def Other (W : World) (g : Nat) (cs : Array Value) (t : TypeId) : Prop := t ≠ 5 ∧ W.heap[g]? = some (.cells cs t (0, 0))
theorem Other.on {W W' : World} {g : Nat} {cs : Array Value} {t : TypeId} (h : Other W g cs t) (hb : Below W.heap.size W W') : Other W' g cs t := ⟨h.1, (hb.block g (Array.getElem?_eq_some_iff.1 h.2).1).trans h.2⟩
theorem Other.new (W : World) (cs : Array Value) (t : TypeId) (ht : t ≠ 5) : Other (W.alloc (.cells cs t)) W.heap.size cs t := ⟨ht, heap_alloc_new W _⟩
theorem Other.cell {W : World} {g : Nat} {cs : Array Value} {t : TypeId} (h : Other W g cs t) (i : Nat) : W.cell? ⟨g, i, none⟩ = cs[i]? := cell_of_row W g i cs t (0, 0) h.2
theorem Other.ne {W : World} {g B n : Nat} {cs : Array Value} {t : TypeId} {v : Value} {xs : List Value} (h : Other W g cs t) (ho : W.ownsRow B 5 1 v n xs) : some g ≠ v.ownBlock := by
  rcases ho.2 with ⟨rfl, _⟩ | ⟨g', cap, cur, rfl, _, hh, _⟩
  · intro e; cases e
  · intro e
    have e' : g = g' := by simpa [Value.ownBlock] using e
    subst e'
    rw [h.2] at hh
    injection hh with hh
    injection hh with _ ht
    exact h.1 ht
theorem Mid.append {B : Nat} {W0 W : World} {v : Value} {zs : List Int} (h : Mid B W0 W v zs) {B' m : Nat} {A : Option Addr} {ys : List Int} (c : Nat) (hs : Shows W B' A m ys) (hbig : zs.length + ys.length ≤ 140737488351232) (ty : TypeId) :
    ∃ v' W', (Builtin.append_ #[26, 26] ty #[v, .slice A m c]).run Try.prog W = .ok v' W' ∧ Mid B W0 W' v' (zs ++ ys) ∧ (∀ g cs t, Other W g cs t → Other W' g cs t) := by
  obtain ⟨i0, hi0, hz0, hz1, hz2⟩ := info_parts info_u8
  obtain ⟨v', W', h1, h2, h3, _⟩ := run_append_shown W i0 hi0 hz0 hz1 hz2 B v _ _ h.1 B' A m c ys hs (by rw [← hs.1]; exact hbig) h.2.2.1 ty
  have hb := h.2.1.grown h3 h.2.2.1 (fun q hq => (h.1.lt q hq).1)
  have hsz : B ≤ W'.heap.size := Nat.le_trans h.2.2.1 h3.size
  refine ⟨v', W', h1, ⟨?_, hb, hsz, fun z hz => (List.mem_append.1 hz).elim (h.2.2.2 z) (hs.2.1 z)⟩, fun g cs t ho => ⟨ho.1, (h3.block g (Array.getElem?_eq_some_iff.1 ho.2).1 (ho.ne h.1)).trans ho.2⟩⟩
  rw [List.length_append, hs.1, u8s, List.map_append]
  exact h2
/-- Four bytes in a new block. -/
theorem four_new (W : World) (a b c d : Int) (h : ∀ z ∈ [a, b, c, d], 0 ≤ z ∧ z < 256) : Shows (W.alloc (.cells #[.int .u8 a, .int .u8 b, .int .u8 c, .int .u8 d] 5)) (W.heap.size + 1) (some ⟨W.heap.size, 0, none⟩) 4 [a, b, c, d] :=
  shows_lit W [a, b, c, d] 4 _ rfl h rfl _
end Go.Proofs.Ytnopcnbeklbfoaa
