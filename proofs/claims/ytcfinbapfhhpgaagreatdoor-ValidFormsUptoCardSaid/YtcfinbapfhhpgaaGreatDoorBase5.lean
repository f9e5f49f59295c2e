/-
  Base, part 5.
-/
import Derived.Test.YtcfinbapfhhpgaaGreatDoorBase2
import Derived.Test.YtcfinbapfhhpgaaGreatDoorBase4
import Derived.Test.YtcfinbapfhhpgaaGreatDoorBase1
import Derived.Laws.Bits64
import Derived.Laws.BitsAllLaws
import Derived.Test.YtcfinbapfhhpgaaGreatDoorBase3
import Derived.Lib.Bytes
import Derived.Lib.SmallJoins
import Derived.OwnWalk
import Derived.BigQuiet
namespace Go.Proofs.YtcfinbapfhhpgaaGreatDoor
open Go.RowKit
set_option linter.unusedVariables false
set_option linter.unusedSimpArgs false
set_option maxRecDepth 20000
set_option maxHeartbeats 16000000
def qaj_ : Nd -> List Nat -> Option Nd
 | n, [] => some n
 | n, i :: r => match n.kids[i]? with
  | none => none
  | some k => qaj_ k r
theorem qdl_ {n : Nd} {i : Nat} {r : List Nat} (h : i < n.kids.length) : qaj_ n (i :: r) = qaj_ n.kids[i] r := by
 rw [qaj_, List.getElem?_eq_getElem h]
theorem qa7_ {n x : Nd} {i : Nat} {r : List Nat} (h : qaj_ n (i :: r) = some x) : ∃ hi : i < n.kids.length, qaj_ n.kids[i] r = some x := by
 rw [qaj_] at h
 by_cases hi : i < n.kids.length
 ·rw [List.getElem?_eq_getElem hi] at h
  exact ⟨hi, h⟩
 ·rw [List.getElem?_eq_none (by omega)] at h
  cases h
theorem qdb_ : ∀ (p q : List Nat) (n : Nd), qaj_ n (p ++ q) = match qaj_ n p with | none => none | some x => qaj_ x q
 | [], q, n => by simp [qaj_]
 | i :: p, q, n => by
  by_cases hi : i < n.kids.length
  ·rw [List.cons_append, qdl_ hi, qdl_ hi, qdb_ p q]
  ·rw [List.cons_append, qaj_, qaj_, List.getElem?_eq_none (by omega)]
theorem qcx_ : ∀ (n : Nd) (q p : List Nat), p ∈ qac_ n q ↔ ∃ r, p = q ++ r /\ (qaj_ n r).isSome = true := by
 refine Nd.ind ?_
 intro n ih q p
 have hl : ∀ (l : List Nd) (i : Nat), (∀ k ∈ l, k ∈ n.kids) -> (p ∈ qaf_ l q i ↔ ∃ j, ∃ h : j < l.length, p ∈ qac_ l[j] (q ++ [i + j])) := by
  intro l
  induction l with
  | nil => intro i _; simp [qaf_]
  | cons k l ihl =>
   intro i hk
   rw [qaf_, List.mem_append, ihl (i + 1) (fun x hx => hk x (by simp [hx]))]
   constructor
   ·rintro (h | ⟨j, hj, h⟩)
    ·exact ⟨0, by simp, by simpa using h⟩
    ·exact ⟨j + 1, by simpa using hj, by simpa [show i + (j + 1) = i + 1 + j by omega] using h⟩
   ·rintro ⟨j, hj, h⟩
    rcases j with _ | j
    ·exact .inl (by simpa using h)
    ·exact .inr ⟨j, by simpa using hj, by simpa [show i + (j + 1) = i + 1 + j by omega] using h⟩
 rw [qa5_, List.mem_cons, hl n.kids 0 (fun _ h => h)]
 constructor
 ·rintro (rfl | ⟨j, hj, h⟩)
  ·exact ⟨[], by simp, rfl⟩
  ·obtain ⟨r, rfl, h2⟩ := (ih n.kids[j] (List.getElem_mem hj) _ _).1 h
   exact ⟨j :: r, by simp, by rw [qdl_ hj]; exact h2⟩
 ·rintro ⟨r, rfl, h⟩
  rcases r with _ | ⟨j, r⟩
  ·exact .inl (by simp)
  ·obtain ⟨x, hx⟩ := Option.isSome_iff_exists.1 h
   obtain ⟨hj, hx2⟩ := qa7_ hx
   exact .inr ⟨j, hj, (ih n.kids[j] (List.getElem_mem hj) _ _).2 ⟨r, by simp, by rw [hx2]; rfl⟩⟩
theorem qet_ {n : Nd} {p : List Nat} (h : p ∈ qac_ n []) : ∃ x, qaj_ n p = some x := by
 obtain ⟨r, rfl, h⟩ := (qcx_ n [] p).1 h
 exact Option.isSome_iff_exists.1 h
theorem qci_ {w : World} {B : Nat} : ∀ (p : List Nat) {n x : Nd}, n.In w B -> qaj_ n p = some x -> x.In w B
 | [], n, x, h, e => by rw [qaj_] at e; rw [<- Option.some.inj e]; exact h
 | i :: p, n, x, h, e => by
  obtain ⟨hi, e⟩ := qa7_ e
  exact qci_ p (h.kid (List.getElem_mem hi)) e
theorem qlu_ {d : Int} : ∀ {l : List Nd}, qde_ l d = 0 -> ∀ k ∈ l, qbj_ k d = 0
 | [], _, k, hk => by cases hk
 | x :: r, h, k, hk => by
  unfold qde_ at h
  by_cases hx : qbj_ x d = 0
  ·rw [if_pos hx] at h
   rcases List.mem_cons.1 hk with rfl | hk
   ·exact hx
   ·exact qlu_ h k hk
  ·rw [if_neg hx] at h
   exact absurd h hx
structure Well (n : Nd) (d : Int) : Prop where
 deep : d <= 16
 name : qgg_ n d = true
 twice : (n.kids.map Nd.name).Nodup
 kids : ∀ k ∈ n.kids, qbj_ k (d + 1) = 0
theorem well_of {n : Nd} {d : Int} (h : qbj_ n d = 0) : Well n d := by
 rw [qfj_] at h
 by_cases ha : qey_ n d = 0
 ·rw [if_pos ha] at h
  unfold qey_ at ha
  by_cases h1 : 16 < d
  ·rw [if_pos h1] at ha; omega
  rw [if_neg h1] at ha
  by_cases h2 : qgg_ n d = false
  ·rw [if_pos h2] at ha; omega
  rw [if_neg h2] at ha
  by_cases h3 : n.props.any misP = true
  ·rw [if_pos h3] at ha; omega
  rw [if_neg h3] at ha
  by_cases h4 : qb0_ (n.props.map PV.name) = true
  ·rw [if_pos h4] at ha; omega
  rw [if_neg h4] at ha
  by_cases h5 : qb0_ (n.kids.map Nd.name) = true
  ·rw [if_pos h5] at ha; omega
  exact ⟨by omega, by simpa using h2, by simpa [qb0_] using h5, qlu_ h⟩
 ·rw [if_neg ha] at h
  exact absurd h ha
theorem well_at : ∀ (p : List Nat) {n x : Nd} {d : Int}, qbj_ n d = 0 -> qaj_ n p = some x -> qbj_ x (d + p.length) = 0
 | [], n, x, d, h, e => by rw [qaj_] at e; rw [<- Option.some.inj e]; simpa using h
 | i :: p, n, x, d, h, e => by
  obtain ⟨hi, e⟩ := qa7_ e
  have := well_at p ((well_of h).kids _ (List.getElem_mem hi)) e
  rw [List.length_cons, show d + ((p.length + 1 : Nat) : Int) = d + 1 + (p.length : Int) by omega]
  exact this
theorem qcq_ {n x : Nd} {p : List Nat} (h : qbj_ n 1 = 0) (e : qaj_ n p = some x) : p.length <= 15 := by
 have := (well_of (well_at p h e)).deep
 omega
theorem qdd_ {t : Tr} (h : qb5_ t = 0) : qbj_ t.root 1 = 0 := by
 unfold qb5_ at h
 by_cases h1 : qbj_ t.root 1 = 0
 ·exact h1
 ·rw [if_neg h1] at h; exact absurd h h1
def qbw_ : Nd -> List Nat -> List ByteArray
 | _, [] => []
 | n, i :: r => match n.kids[i]? with
  | none => []
  | some k => k.name :: qbw_ k r
theorem qd7_ {n : Nd} {i : Nat} {r : List Nat} (h : i < n.kids.length) : qbw_ n (i :: r) = n.kids[i].name :: qbw_ n.kids[i] r := by
 rw [qbw_, List.getElem?_eq_getElem h]
theorem qeu_ : ∀ (p : List Nat) {n x : Nd}, qaj_ n p = some x -> (qbw_ n p).length = p.length
 | [], n, x, _ => rfl
 | i :: p, n, x, e => by
  obtain ⟨hi, e⟩ := qa7_ e
  rw [qd7_ hi, List.length_cons, List.length_cons, qeu_ p e]
theorem qg3_ {n x : Nd} {p : List Nat} {i : Nat} (h : qaj_ n p = some x) (hi : i < x.kids.length) : qaj_ n (p ++ [i]) = some x.kids[i] := by
 rw [qdb_, h]
 show qaj_ x [i] = _
 rw [qdl_ hi, qaj_]
def pathB (l : List ByteArray) : List UInt8 := l.flatMap fun s => 47 :: s.data.toList
def qgo_ (n : Nd) (p : List Nat) : ByteArray := ⟨(if p = [] then [47] else pathB (qbw_ n p)).toArray⟩
theorem qft_ (a b : List ByteArray) : pathB (a ++ b) = pathB a ++ pathB b := by unfold pathB; rw [List.flatMap_append]
def numTo (zs : List Int) (a : Nat) : Nat -> Int
 | 0 => 0
 | k + 1 => numTo zs a k * 256 + zs.getD (a + k) 0
theorem qdn_ (zs : List Int) (a : Nat) (hz : ∀ i, 0 <= zs.getD i 0 /\ zs.getD i 0 < 256) : ∀ k, 0 <= numTo zs a k /\ numTo zs a k < 256 ^ k
 | 0 => by simp [numTo]
 | k + 1 => by
  have := qdn_ zs a hz k
  have := hz (a + k)
  simp only [numTo, Int.pow_succ]
  omega
theorem qbq_ (zs : List Int) (a k : Nat) (hz : ∀ i, 0 <= zs.getD i 0 /\ zs.getD i 0 < 256) (hk : k <= 8) : 0 <= numTo zs a k /\ numTo zs a k <= 18446744073709551615 := by
 have h := qdn_ zs a hz k
 have h2 : (256 : Int) ^ k <= 256 ^ 8 := by
  have : k = 0 \/ k = 1 \/ k = 2 \/ k = 3 \/ k = 4 \/ k = 5 \/ k = 6 \/ k = 7 \/ k = 8 := by omega
  rcases this with h | h | h | h | h | h | h | h | h <;> subst h <;> decide
 have h3 : (256 : Int) ^ 8 = 18446744073709551616 := by decide
 omega
theorem or_byte (v z : Int) (h0 : 0 <= v) (h1 : v * 256 + z <= 18446744073709551615) (h2 : 0 <= z) (h3 : z < 256) : bits .or .u64 (v * 256) z = v * 256 + z := by
 obtain ⟨a, rfl⟩ := Int.eq_ofNat_of_zero_le h0
 obtain ⟨b, rfl⟩ := Int.eq_ofNat_of_zero_le h2
 have e : ((a : Int) * 256) = ((a * 256 : Nat) : Int) := by omega
 rw [e, u64_or_nat (a * 256) b (by omega) (by omega), nat_join 8 (a * 256) b (by omega) (by omega)]
 omega
theorem holds_any (A : Option Addr) (n c : Nat) (at_ k : Int) (w : World) (hn : n <= 9223372036854775807) (hk : 0 <= k /\ k <= 16) (ha : -9223372036854775808 <= at_ /\ at_ <= 9223372036854775807) (r : Bool) (hr : r = decide (0 <= at_ /\ k <= n - at_)) :
  Calls Tryz.prog 190 #[.slice A n c, .int .i64 at_, .int .i64 k] w fun e w' => e = .returned (.bool r) /\ w = w' := by
 obtain ⟨a0, a1⟩ := ha
 by_cases h0 : 0 <= at_
 ·by_cases h1 : k <= (n : Int) - at_
  ·obtain rfl : r = true := by rw [hr]; simp; omega
   clear hr
   go_enter Tryz.func190, Tryz.ntmps190
   go_wp2
   go_ret
   exact ⟨rfl, rfl⟩
  ·obtain rfl : r = false := by rw [hr]; simp; omega
   clear hr
   go_enter Tryz.func190, Tryz.ntmps190
   go_wp2
   go_ret
   exact ⟨rfl, rfl⟩
 ·obtain rfl : r = false := by rw [hr]; simp; omega
  clear hr
  go_enter Tryz.func190, Tryz.ntmps190
  go_wp2
  go_ret
  exact ⟨rfl, rfl⟩
theorem numb_yes (A : Option Addr) (n c k a : Nat) (zs : List Int) (w : World) (B : Nat) (hs : Shows w B A n zs) (h : a + k <= n) (hn : n <= 9223372036854775807) (hnc : n <= c) (hc63 : c <= maxLen) (hk0 : 0 < k) (hk : k <= 8) :
  Calls Tryz.prog 170 #[.slice A n c, .int .i64 a, .int .i64 k] w fun e w' => e = .returned (.tuple #[.int .u64 (numTo zs a k), .bool true]) /\ w = w' := by
 have H := holds_any A n c a k w hn (by omega) (by omega) true (by simp; omega)
 have HH := Lib.hid H
 obtain ⟨b, o, rfl, _, hc⟩ := hs.at_ (by omega)
 have hz := hs.byte
 clear hs H
 have HC := Lib.hid hc
 have HZ := Lib.hid hz
 clear hc hz
 unfold maxLen at hc63
 go_enter Tryz.func170, Tryz.ntmps170
 go_wp2_with (go_at_call 190; refine HH.out.mono ?_; rintro e w' ⟨rfl, rfl⟩)
 go_loop [8, 23] (fun v i => ∃ j : Nat, j <= k /\ i = .int .i64 j /\ v = .int .u64 (numTo zs a j)) (fun _ i => k - (intOf i).toNat)
 case atStart => exact ⟨0, by omega, rfl, rfl⟩
 case round =>
  obtain ⟨j, hj, rfl, rfl⟩ := hrel
  by_cases hlt : j < k
  ·have hcell := HC.out (a + j) (by omega)
   rw [<- Nat.add_assoc] at hcell
   have hzb := HZ.out (a + j)
   have hb := qbq_ zs a j HZ.out (by omega)
   have hb2 := qbq_ zs a (j + 1) HZ.out (by omega)
   simp only [numTo] at hb2
   go_wp2
   go_round
   case rel => exact ⟨j + 1, by omega, by go_num, by
    have e : zs[a + j]?.getD 0 = zs.getD (a + j) 0 := by simp [List.getD]
    rw [e, IntWalk.u64_in (zs.getD (a + j) 0) (by omega), or_byte _ _ hb.1 hb2.2 hzb.1 hzb.2]; rfl⟩
   case measure => simp [intOf]; omega
  ·obtain rfl : j = k := by omega
   go_wp2
   go_ret2
   exact ⟨rfl, rfl⟩
theorem get_yes (A : Option Addr) (n c a : Nat) (zs : List Int) (w : World) (B : Nat) (hs : Shows w B A n zs) (h : a + 4 <= n) (hn : n <= 9223372036854775807) (hnc : n <= c) (hc63 : c <= maxLen) :
  Calls Tryz.prog 136 #[.slice A n c, .int .i64 a] w fun e w' => e = .returned (.tuple #[.int .u32 (numTo zs a 4), .bool true]) /\ w = w' := by
 have HH := Lib.hid (numb_yes A n c 4 a zs w B hs h hn hnc hc63 (by omega) (by omega))
 have hb := qdn_ zs a hs.byte 4
 have hb1 : 0 <= numTo zs a 4 := hb.1
 have hb2 : numTo zs a 4 <= 4294967295 := by
                       have := hb.2; have e : (256 : Int) ^ 4 = 4294967296 := by decide
                       omega
 clear hb hs h hnc hc63
 go_enter Tryz.func136, Tryz.ntmps136
 go_wp2_with (go_at_call 170; refine HH.out.mono ?_; rintro e w' ⟨rfl, rfl⟩)
 go_ret2
 exact ⟨rfl, rfl⟩
def within (a s t : Int) : Bool := decide (40 <= a /\ a <= t /\ s <= t - a)
def parts (h1 h2 h3 h4 h8 h9 : Int) : Bool := within h2 h9 h1 && (decide (h2 % 4 = 0) && (within h3 h8 h1 && (within h4 0 h1 && decide (h4 % 8 = 0))))
theorem get_at (A : Option Addr) (n c a : Nat) (q : Int) (hq : q = (a : Int)) (zs : List Int) (w : World) (B : Nat) (hs : Shows w B A n zs) (h : a + 4 <= n) (hn : n <= 9223372036854775807) (hnc : n <= c) (hc63 : c <= maxLen) (x : Int) (hx : numTo zs a 4 = x) :
  Calls Tryz.prog 136 #[.slice A n c, .int .i64 q] w fun e w' => e = .returned (.tuple #[.int .u32 x, .bool true]) /\ w = w' := by
 subst hq hx
 exact get_yes A n c a zs w B hs h hn hnc hc63
def hcell (zs : List Int) (i : Nat) : Int := numTo zs (i * 4) 4
inductive PN where
 | mk (name : ByteArray) (props : List (ByteArray × List Int)) (kids : List PN)
namespace PN
def name : PN -> ByteArray | .mk n _ _ => n
def props : PN -> List (ByteArray × List Int) | .mk _ p _ => p
def kids : PN -> List PN | .mk _ _ k => k
end PN
instance : Inhabited PN := ⟨.mk ⟨#[]⟩ [] []⟩
def qbm_ (S : List Int) (a : Nat) : Option (List Int) := if 0 ∈ S.drop a then some ((S.drop a).takeWhile fun z => decide (z ≠ 0)) else none
theorem qd4_ {S : List Int} {a : Nat} {s : List Int} (h : qbm_ S a = some s) : a + s.length + 1 <= S.length := by
 unfold qbm_ at h
 split at h
 ·rename_i h0
  simp only [Option.some.injEq] at h
  subst h
  have h1 : ((S.drop a).takeWhile fun z => decide (z ≠ 0)).length < (S.drop a).length := by
   have : ∀ l : List Int, 0 ∈ l -> (l.takeWhile fun z => decide (z ≠ 0)).length < l.length := by
    intro l
    induction l with
    | nil => intro h; cases h
    | cons x l ih =>
     intro h
     by_cases hx : x = 0
     ·simp [List.takeWhile_cons, hx]
     ·have h2 : 0 ∈ l := by
       rcases List.mem_cons.1 h with e | e
       ·exact absurd e.symm hx
       ·exact e
      have := ih h2
      simp [List.takeWhile_cons, hx]
      simpa using this
   exact this _ h0
  rw [List.length_drop] at h1
  omega
 ·cases h
theorem qo2_ {w : World} {B n : Nat} {A : Option Addr} {zs : List Int} (h : Shows w B A n zs) (c : Nat) :
  (convert 82 9 (.slice A n c)).run Tryz.prog w = .ok (.string (strOfNums zs)) w := by
 rcases Nat.eq_zero_or_pos n with rfl | h0
 ·obtain rfl : zs = [] := List.eq_nil_of_length_eq_zero h.1
  rcases A with _ | ⟨b, o, s⟩
  ·exact run_convert_bytes_nil w 82 5 Tryz.underlying82 Tryz.underlying5 0 c _ Tryz.underlying9
  ·rw [run_convert_bytes_string w 82 9 5 _ 0 c Tryz.underlying82 Tryz.underlying5 Tryz.underlying9,
    run_bytesToString w _ 0 c [] (by simpa using run_loadCells_list (P := Tryz.prog) w ⟨b, o, s⟩ [] (by simp))]
   rfl
 ·obtain ⟨b, o, rfl, _, hc⟩ := h.at_ h0
  exact run_convert_bytes_arg w 82 5 Tryz.underlying82 Tryz.underlying5 b o n c zs h.1 hc _ Tryz.underlying9
theorem str_eqb (x y : ByteArray) : (x.toList == y.toList) = decide (x = y) := by
 by_cases h : x = y
 ·subst h; simp
 ·rw [qjq_ h, decide_eq_false h]
def HitAt (zs : List Int) (a n i : Nat) : Prop := a <= i /\ i < n /\ zs.getD i 0 = 0 /\ ∀ j, a <= j -> j < i -> zs.getD j 0 ≠ 0
def NoHit (zs : List Int) (a n : Nat) : Prop := ∀ j, a <= j -> j < n -> zs.getD j 0 ≠ 0
theorem qia_ (zs : List Int) (a : Nat) : ∀ k, NoHit zs a (a + k) \/ ∃ i, HitAt zs a (a + k) i
 | 0 => .inl fun j h1 h2 => by omega
 | k + 1 => by
  rcases qia_ zs a k with h | ⟨i, h1, h2, h3, h4⟩
  ·by_cases h0 : zs.getD (a + k) 0 = 0
   ·exact .inr ⟨a + k, by omega, by omega, h0, fun j h1 h2 => h j h1 (by omega)⟩
   ·refine .inl fun j h1 h2 => ?_
    by_cases e : j = a + k
    ·rw [e]; exact h0
    ·exact h j h1 (by omega)
  ·exact .inr ⟨i, h1, by omega, h3, h4⟩
theorem number_no (A : Option Addr) (n c : Nat) (at_ k : Int) (w : World) (h : at_ < 0 \/ n < at_ \/ n - at_ < k) (hn : n <= 9223372036854775807) (hk : k = 4 \/ k = 8) (ha : -9223372036854775808 <= at_ /\ at_ <= 9223372036854775807) :
  Calls Tryz.prog 56 #[.slice A n c, .int .i64 at_, .int .i64 k] w fun e w' => e = .returned (.tuple #[.int .u64 0, .bool false]) /\ w = w' := by
 obtain ⟨a0, a1⟩ := ha
 by_cases h0 : at_ < 0
 ·go_enter Tryz.func56, Tryz.ntmps56
  go_wp2
  go_ret2
  exact ⟨rfl, rfl⟩
 ·by_cases h1 : (n : Int) < at_
  ·go_enter Tryz.func56, Tryz.ntmps56
   go_wp2
   go_ret2
   exact ⟨rfl, rfl⟩
  ·have h2 : n - at_ < k := by omega
   go_enter Tryz.func56, Tryz.ntmps56
   go_wp2
   go_ret2
   exact ⟨rfl, rfl⟩
theorem qn9_ (A : Option Addr) (n c k a : Nat) (zs : List Int) (w : World) (B : Nat) (hs : Shows w B A n zs) (h : a + k <= n) (hn : n <= 140737488351232) (hk0 : 0 < k) (hk : k <= 8) :
  Calls Tryz.prog 56 #[.slice A n c, .int .i64 a, .int .i64 k] w fun e w' => e = .returned (.tuple #[.int .u64 (numTo zs a k), .bool true]) /\ w = w' := by
 obtain ⟨b, o, rfl, _, hc⟩ := hs.at_ (by omega)
 have hz := hs.byte
 have h0 : ¬ ((a : Int) < 0) := by omega
 have h1 : ¬ ((n : Int) < (a : Int)) := by omega
 have h2 : ¬ ((n : Int) - (a : Int) < (k : Int)) := by omega
 clear hs
 have HC := Lib.hid hc
 have HZ := Lib.hid hz
 clear hc hz
 go_enter Tryz.func56, Tryz.ntmps56
 go_wp2
 go_loop [8, 27] (fun v i => ∃ j : Nat, j <= k /\ i = .int .i64 j /\ v = .int .u64 (numTo zs a j)) (fun _ i => k - (intOf i).toNat)
 case atStart => exact ⟨0, by omega, rfl, rfl⟩
 case round =>
  obtain ⟨j, hj, rfl, rfl⟩ := hrel
  by_cases hlt : j < k
  ·have hcell := HC.out (a + j) (by omega)
   have hzb := HZ.out (a + j)
   have hb := qbq_ zs a j HZ.out (by omega)
   have hb2 := qbq_ zs a (j + 1) HZ.out (by omega)
   simp only [numTo] at hb2
   go_wp2
   go_round
   case rel => exact ⟨j + 1, by omega, by go_num, by
    have e : zs[a + j]?.getD 0 = zs.getD (a + j) 0 := by simp [List.getD]
    rw [e, IntWalk.u64_in (zs.getD (a + j) 0) (by omega), IntWalk.u64_in _ hb2]; rfl⟩
   case measure => simp [intOf]; omega
  ·obtain rfl : j = k := by omega
   go_wp2
   go_ret2
   exact ⟨rfl, rfl⟩
theorem ql2_ (n : Nd) (s : ByteArray) (w : World) (hin : n.In w w.heap.size) (r : Int) (hr : r = idxOf (n.props.map PV.name) s) :
  Calls Tryz.prog 28 #[n.val, .string s] w fun e w' => e = .returned (.int .i64 r) /\ Below w.heap.size w w' := by
 obtain ⟨nm, pa, pc, ps, ka, kc, ks⟩ := n
 have HI := Lib.hid hin
 have HR := Lib.hid hr
 obtain ⟨hl, hm⟩ : ps.length <= pc /\ pc <= 9223372036854775807 := hin.plen
 have HM := Lib.hid (show (ps.map PV.name).length = ps.length from List.length_map _)
 clear hin hr
 show Calls _ _ #[.agg #[.string nm, .slice pa ps.length pc, .slice ka ks.length kc], .string s] _ _
 go_enter Tryz.func28, Tryz.ntmps28
 go_wp2_with fail
 go_loop [9] (fun i => ∃ k : Nat, k <= ps.length /\ i = .int .i64 k /\ Missed (ps.map PV.name) s k) (fun i => ps.length - (intOf i).toNat)
 case atStart => exact ⟨0, Nat.zero_le _, rfl, Missed.zero _ _⟩
 case round =>
  obtain ⟨k, hk, rfl, hmiss⟩ := hrel
  have HA := Lib.hid hmiss
  clear hmiss
  by_cases hlt : k < ps.length
  ·have HB := Lib.hid ((Below.refl w.heap.size w).alloc (Nat.le_refl _) (.cells #[Value.string nm, .slice pa ps.length pc, .slice ka ks.length kc] 27))
   obtain ⟨b, o, e, hb, c0, c1⟩ := (HI.out.under HB.out).pcell (i := k) hlt
   obtain rfl : pa = _ := e
   replace c0 : _ = some (Value.string ps[k].name) := c0
   clear c1
   have hxm : Hid ((ps.map PV.name)[k]'(by rw [HM.out]; exact hlt) = ps[k].name) := List.getElem_map _
   obtain ⟨x, hx⟩ : ∃ x, x = ps[k].name := ⟨_, rfl⟩
   rw [<- hx] at c0 hxm
   clear hx
   by_cases hxs : x = s
   ·subst hxs
    obtain rfl : r = k := by rw [HR.out]; exact HA.out.hit _ hxm.out
    go_wp2
    go_ret
    exact ⟨rfl, HB.out⟩
   ·have hne := qjq_ hxs
    have HF := Lib.hid (HA.out.succ (by rw [HM.out]; exact hlt) (by rw [hxm.out]; exact hxs))
    clear hxs
    go_wp2
    go_round
    case rel => exact ⟨k + 1, by omega, by go_num, HF⟩
    case measure => simp [intOf]; omega
  ·obtain rfl : r = -1 := by rw [HR.out]; exact HA.out.all (by rw [HM.out]; exact hlt)
   go_wp2
   go_ret
   exact ⟨rfl, (Below.refl _ _).alloc (Nat.le_refl _) _⟩
theorem qoo_ : (Tryz.prog.info? 22).map (fun i => (i.zero, i.size, i.bytes)) = some (some (.int .u32 0), 1, 4) := by kernel_rfl
theorem info_str : (Tryz.prog.info? 9).map (fun i => (i.zero, i.size, i.bytes)) = some (some (.string ⟨#[]⟩), 1, 16) := by kernel_rfl
theorem app_lit {t e : TypeId} {i0 : TypeInfo} {z : Value} {bytes : Nat} (ht : Tryz.prog.underlying t = some (.slice e)) (hi : Tryz.prog.info? e = some i0) (hz : i0.zero = some z) (hs1 : i0.size = 1) (hby : i0.bytes = bytes) (hzs : z.cells.size = 1)
  {w : World} {B n : Nat} {v : Value} {xs : List Value} (h : w.ownsRow B e 1 v n xs) (x : Value) (hx : x.oneCell' = true) (hbig : (n + 1) * bytes <= 140737488355328) (hlen : n + 1 <= 140737488355328) (hB : B <= w.heap.size) (ty : TypeId) :
  ∃ A' c' w', (Builtin.append_ #[t, t] ty #[v, .slice (some ⟨w.heap.size, 0, none⟩) 1 1]).run Tryz.prog (w.alloc (.cells #[x] e)) = .ok (.slice A' (n + 1) c') w' /\ w'.ownsRow B e 1 (.slice A' (n + 1) c') (n + 1) (xs ++ [x]) /\ Below B w w' := by
 have hl : xs.length = n := by have := h.1; omega
 have h1 : (w.alloc (.cells #[x] e)).ownsRow B e 1 v xs.length xs := by rw [hl]; exact h.alloc _
 have hc : Cel (w.alloc (.cells #[x] e)) (w.heap.size + 1) (some ⟨w.heap.size, 0, none⟩) 1 [x] := ⟨rfl, fun _ => ⟨w.heap.size, 0, rfl, Nat.lt_succ_self _, fun i hi => by
  obtain rfl : i = 0 := by omega
  exact World.cell?_alloc_new _ _ _ _⟩⟩
 obtain ⟨v', w', r, g1, g2, g3⟩ := qlt_ ht hi hz hs1 hby hzs 1 h1 hc (fun u hu => by rw [List.mem_singleton.1 hu]; exact hx) (by rw [hl]; simpa using hbig) (by rw [hl]; simpa using hlen) (by simp; omega) ty
 rw [List.length_append, hl] at g1
 have g1' : w'.ownsRow B e 1 v' (n + 1) (xs ++ [x]) := g1
 obtain ⟨A', c', rfl, _⟩ := qai_ g1'
 exact ⟨A', c', w', r, g1', ((Below.refl B w).alloc hB (.cells #[x] e)).grown g2 (by simp; omega) (fun q hq => (h1.lt q hq).1)⟩
def cellV (zs : List Int) (i : Nat) : Value := .int .u32 (numTo zs (4 * i) 4)
def qjj_ (zs : List Int) (k : Nat) : List Value := (List.range k).map (cellV zs)
theorem qkt_ (zs : List Int) (k : Nat) : qjj_ zs (k + 1) = qjj_ zs k ++ [cellV zs k] := by
 unfold qjj_; rw [List.range_succ, List.map_append]; rfl
def CellsOut (w w' : World) (n : Nat) (zs : List Int) (e : Ending) : Prop :=
 (n % 4 ≠ 0 -> e = .returned (.tuple #[.slice none 0 0, .int .i64 4])) /\ (n % 4 = 0 -> ∃ A c, e = .returned (.tuple #[.slice A (n / 4) c, .int .i64 0]) /\ w'.ownsRow w.heap.size 22 1 (.slice A (n / 4) c) (n / 4) (qjj_ zs (n / 4)))
theorem qcy_ {w : World} {B n : Nat} {A : Option Addr} {zs : List Int} (hs : Shows w B A n zs) (a : Nat) : 0 <= numTo zs a 4 /\ numTo zs a 4 <= 4294967295 := by
 have h := qdn_ zs a hs.byte 4
 have e : (256 : Int) ^ 4 = 4294967296 := by decide
 omega
theorem qjp_ (A : Option Addr) (n c : Nat) (zs : List Int) (w : World) (hs : Shows w w.heap.size A n zs) (hn : n <= 140737488351232) (hnc : n <= c) (hc : c <= 9223372036854775807) :
  Calls Tryz.prog 29 #[.slice A n c] w fun e w' => CellsOut w w' n zs e /\ Below w.heap.size w w' := by
 have HS := Lib.hid hs
 have HC := Lib.hid (And.intro hnc hc)
 clear hs hnc hc
 by_cases h4 : n % 4 = 0
 ·have q1 : (((n : Int) % 4) != 0) = false := by rw [bne_eq_false_iff_eq]; omega
  have H4 := Lib.hid h4
  have info := qaw_ qoo_
  clear h4
  go_enter Tryz.func29, Tryz.ntmps29
  go_wp2_with fail
  go_loopw [4, 5] (fun out i wr => ∃ k a : Nat, Hid (a = 4 * k /\ a <= n) /\ i = .int .i64 a /\ (∃ Ao co, out = .slice Ao k co /\ wr.ownsRow w.heap.size 22 1 (.slice Ao k co) k (qjj_ zs k)) /\ Below w.heap.size w wr) (fun _ i _ => n - (intOf i).toNat)
  case atStart => exact ⟨0, 0, Lib.hid ⟨rfl, Nat.zero_le _⟩, rfl, ⟨none, 0, rfl, World.ownsRow_nil _ _ _ _⟩, Below.refl _ _⟩
  case round =>
   obtain ⟨k, a, HA, rfl, ⟨Ao, co, rfl, hown⟩, hb⟩ := hrel
   have HB := Lib.hid hb
   have HO := Lib.hid hown
   by_cases hlt : a < n
   ·have ha4 : a + 4 <= n := by have := HA.out; have := H4.out; omega
    have CN := Lib.hid (qn9_ A n c 4 a zs wr w.heap.size (HS.out.below hb) ha4 (by omega) (by omega) (by omega))
    have hnum := qcy_ HS.out a
    obtain ⟨x, hx⟩ : ∃ x, numTo zs a 4 = x := ⟨_, rfl⟩
    rw [hx] at CN hnum
    have HX : Hid (cellV zs k = .int .u32 x) := Lib.hid (by rw [<- hx, cellV, <- HA.out.1])
    have hcv : IntKind.u32.wrap x = x := IntWalk.u32_in _ hnum
    obtain ⟨i0, hi, hz, hs1, hby⟩ := info
    obtain ⟨A', c', w', r, g1, g2⟩ := app_lit Tryz.underlying87 hi hz hs1 hby rfl hown (.int .u32 x) rfl (by have := HA.out; omega) (by have := HA.out; omega) hb.size 87
    have HR := Lib.hid (And.intro g1 (hb.trans g2))
    clear hx hi hz hs1 hby g1 g2 hown hb
    go_wp2_with fail
    refine CN.out.mono ?_
    rintro e w2 ⟨rfl, rfl⟩
    go_wp2_with (at_builtin; refine Lib.wpList_append_run_sl _ rfl _ _ _ rfl _ _ rfl rfl r ?_)
    go_roundw
    case rel => exact ⟨k + 1, a + 4, Lib.hid ⟨by have := HA.out; omega, ha4⟩, by go_num, ⟨A', c', rfl, by rw [qkt_, HX.out]; exact HR.out.1⟩, HR.out.2⟩
    case measure => simp [intOf]; omega
   ·have HE : Hid (k = n / 4) := Lib.hid (by have := HA.out; omega)
    clear hown hb
    go_wp2
    go_ret2
    exact ⟨⟨fun h => absurd H4.out h, fun _ => ⟨Ao, co, by rw [<- HE.out]; rfl, by rw [<- HE.out]; exact HO.out⟩⟩, HB.out⟩
 ·have q1 : (((n : Int) % 4) != 0) = true := by rw [bne_iff_ne]; omega
  have H4 := Lib.hid h4
  clear h4
  go_enter Tryz.func29, Tryz.ntmps29
  go_wp2
  go_ret2
  exact ⟨⟨fun _ => rfl, fun h => absurd h H4.out⟩, Below.refl _ _⟩
noncomputable def textV (zs : List Int) : Option (List Int) := match qbm_ zs 0 with
 | none => none
 | some s => if s.length + 1 = zs.length then some s else none
theorem qgq_ (s : List Int) : (strOfNums s).size = s.length := by
 show (strOfNums s).data.toList.length = s.length
 rw [strOfNums_data, List.length_map]
noncomputable def qa8_ (zs : List Int) : Nat -> Nat -> List (List Int)
 | 0, _ => []
 | f + 1, a => if a < zs.length then (match qbm_ zs a with | none => [] | some s => s :: qa8_ zs f (a + s.length + 1)) else []
noncomputable def qmh_ (zs : List Int) : Option (List (List Int)) := if 0 < zs.length /\ zs.getD (zs.length - 1) 0 ≠ 0 then none else some (qa8_ zs zs.length 0)
theorem qij_ {zs : List Int} {a : Nat} (h : zs.getD (zs.length - 1) 0 = 0) (ha : a < zs.length) : ∃ s, qbm_ zs a = some s := by
 rw [qbm_, if_pos]
 ·exact ⟨_, rfl⟩
 ·refine List.mem_of_getElem? (i := zs.length - 1 - a) ?_
  rw [List.getElem?_drop, show a + (zs.length - 1 - a) = zs.length - 1 by omega, List.getElem?_eq_getElem (by omega)]
  simp only [List.getD, List.getElem?_eq_getElem (show zs.length - 1 < zs.length by omega), Option.getD_some] at h
  rw [h]
theorem qjs_ : ∀ (l : List ByteArray) (s : ByteArray), idxOf l s = -1 \/ ∃ k : Nat, ∃ h : k < l.length, idxOf l s = (k : Int) /\ l[k] = s
 | [], s => .inl rfl
 | x :: l, s => by
  by_cases hx : x = s
  ·exact .inr ⟨0, by simp, by rw [idxOf, if_pos hx]; rfl, by simpa using hx⟩
  ·rcases qjs_ l s with h | ⟨k, h1, h2, h3⟩
   ·exact .inl (by rw [idxOf, if_neg hx, h]; rfl)
   ·exact .inr ⟨k + 1, by simpa using h1, by rw [idxOf, if_neg hx, h2, if_neg (by omega)]; omega, by simpa using h3⟩
def oneV (n : Nd) (s : ByteArray) : Int × Bool × Int :=
 match n.props.find? fun p => decide (p.name = s) with
 | none => (0, false, 0)
 | some p => if p.zs.length = 4 then (numTo p.zs 0 4, true, 0) else (0, false, 4)
def qfz_ (o : Int × Bool × Int) : Value := .tuple #[.int .u32 o.1, .bool o.2.1, .int .i64 o.2.2]
theorem qdo_ : ∀ {ps : List PV} {s : ByteArray}, idxOf (ps.map PV.name) s = -1 -> ps.find? (fun p => decide (p.name = s)) = none
 | [], _, _ => rfl
 | p :: r, s, h => by
  rw [List.map_cons, idxOf] at h
  by_cases hp : p.name = s
  ·rw [if_pos hp] at h; omega
  ·rw [if_neg hp] at h
   rw [List.find?_cons_of_neg (by simpa using hp)]
   refine qdo_ ?_
   rcases qjs_ (r.map PV.name) s with h1 | ⟨k, _, h2, _⟩
   ·exact h1
   ·rw [h2, if_neg (by omega)] at h; omega
theorem qg7_ : ∀ {ps : List PV} {s : ByteArray} {k : Nat} (hk : k < ps.length), idxOf (ps.map PV.name) s = (k : Int) -> ps.find? (fun p => decide (p.name = s)) = some ps[k]
 | [], _, _, hk, _ => absurd hk (by simp)
 | p :: r, s, k, hk, h => by
  rw [List.map_cons, idxOf] at h
  by_cases hp : p.name = s
  ·rw [if_pos hp] at h
   obtain rfl : k = 0 := by omega
   rw [List.find?_cons_of_pos (by simpa using hp)]; rfl
  ·rw [if_neg hp] at h
   rw [List.find?_cons_of_neg (by simpa using hp)]
   by_cases h0 : idxOf (r.map PV.name) s < 0
   ·rw [if_pos h0] at h; omega
   ·rw [if_neg h0] at h
    obtain ⟨j, rfl⟩ : ∃ j, k = j + 1 := ⟨k - 1, by omega⟩
    exact qg7_ (by simpa using hk) (by omega)
theorem qc0_ {n : Nd} {k : Nat} (h : k < n.props.length) : n.props[k].zs.length <= heftN n := by
 have e : heftN n = 16 + n.name.size + (n.props.map heftP).sum + heftL n.kids := by cases n; rw [heftN]; rfl
 have h1 := qne_ n.props k h
 have h2 := qpb_ n.props (k + 1)
 have e2 : heftP n.props[k] = 16 + n.props[k].name.size + n.props[k].zs.length := rfl
 omega
theorem qov_ (n : Nd) (s : ByteArray) (w : World) (hin : n.In w w.heap.size) :
  Calls Tryz.prog 16 #[n.val, .string s] w fun e w' => e = .returned (qfz_ (oneV n s)) /\ Below w.heap.size w w' := by
 obtain ⟨r, hr⟩ : ∃ r, r = idxOf (n.props.map PV.name) s := ⟨_, rfl⟩
 have CF := Lib.hid (fun W hW => ql2_ n s W hW r hr)
 have HI := Lib.hid hin
 have HF : Hid ((r < 0 /\ oneV n s = (0, false, 0)) \/ ∃ k : Nat, ∃ h : k < n.props.length, r = (k : Int) /\ oneV n s = if n.props[k].zs.length = 4 then (numTo n.props[k].zs 0 4, true, 0) else (0, false, 4)) := Lib.hid (by
  rcases qjs_ (n.props.map PV.name) s with h | ⟨k, h1, h2, _⟩
  ·exact .inl ⟨by omega, by rw [oneV, qdo_ h]⟩
  ·rw [List.length_map] at h1
   exact .inr ⟨k, h1, hr.trans h2, by rw [oneV, qg7_ h1 h2]⟩)
 have HZ := Lib.hid (fun k (h : k < n.props.length) => (hin.prop (List.getElem_mem h)).1.2)
 obtain ⟨O, hO⟩ : ∃ O, oneV n s = O := ⟨_, rfl⟩
 rw [hO] at HF ⊢
 clear hr hin hO
 obtain ⟨nm, pa, pc, ps, ka, kc, ks⟩ := n
 simp only [Nd.val, Nd.pv, Nd.kv, Nd.name, Nd.pa, Nd.pc, Nd.props, Nd.ka, Nd.kc, Nd.kids] at CF HF HZ ⊢
 have HB := Lib.hid ((Below.refl w.heap.size w).alloc (Nat.le_refl _) (.cells #[Value.string nm, .slice pa ps.length pc, .slice ka ks.length kc] 27))
 go_enter Tryz.func16, Tryz.ntmps16
 go_wp2_with fail
 refine (CF.out _ (Nd.In.more HB.out.size (HI.out.under HB.out))).mono ?_
 rintro e w1 ⟨rfl, hb⟩
 have HB1 := Lib.hid (HB.out.trans (hb.mono HB.out.size))
 have x1 := (hb.cell (p := ⟨w.heap.size, 1, none⟩) (by simp)).trans (World.cell?_alloc_new _ _ _ _)
 replace x1 : _ = some (Value.slice pa ps.length pc) := x1
 clear hb
 rcases HF.out with ⟨hr0, hv⟩ | ⟨k, hk, hrk, hv⟩
 ·subst hv
  clear HF x1
  go_wp2
  go_ret3
  exact ⟨rfl, HB1.out⟩
 ·subst hrk
  obtain ⟨b, o, e, _, _, c1⟩ := (HI.out.under HB1.out).pcell (i := k) hk
  obtain rfl : pa = _ := e
  replace c1 : _ = some (Value.slice ps[k].addr ps[k].zs.length ps[k].cap) := c1
  have hp := (HI.out.under HB1.out).prop (p := ps[k]) (List.getElem_mem hk)
  have hz := HZ.out k hk
  have CC := qjp_ ps[k].addr ps[k].zs.length ps[k].cap ps[k].zs w1 (hp.2.1.more HB1.out.size) (by omega) hp.2.2.1 hp.2.2.2
  obtain ⟨P, hP⟩ : ∃ P, ps[k] = P := ⟨_, rfl⟩
  have hv' : O = if P.zs.length = 4 then (numTo P.zs 0 4, true, 0) else (0, false, 4) := by rw [<- hP]; exact hv
  rw [hP] at c1 CC hz
  obtain ⟨N, hN⟩ : ∃ N, P.zs.length = N := ⟨_, rfl⟩
  rw [hN] at c1 CC hz hv'
  have HV := Lib.hid hv'
  have hpl : ps.length <= pc /\ pc <= 9223372036854775807 := HI.out.plen
  obtain ⟨hpl1, hpl2⟩ := hpl
  have HCC := Lib.hid CC
  clear HF hv hv' hp CC hP hN
  go_wp2_with fail
  refine HCC.out.mono ?_
  rintro e w2 ⟨⟨q1, q2⟩, hb⟩
  have HB2 := Lib.hid (HB1.out.trans (hb.mono HB1.out.size))
  clear hb c1 x1
  by_cases h4 : N % 4 = 0
  ·obtain ⟨A, c, rfl, hrow⟩ := q2 h4
   obtain ⟨A', c', e, hcel, _, _, _⟩ := qai_ hrow
   simp only [Value.slice.injEq, true_and] at e
   obtain ⟨rfl, rfl⟩ := e
   obtain ⟨M, hM⟩ : ∃ M, N / 4 = M := ⟨_, rfl⟩
   rw [hM] at hcel
   rw [hM]
   by_cases h1 : M = 1
   ·subst h1
    obtain ⟨bc, oc, rfl, _, hc0⟩ := hcel.2 (by omega)
    have d0 := hc0 0 (by omega)
    rw [Nat.add_zero] at d0
    replace d0 : w2.cell? ⟨bc, oc, none⟩ = some (Value.int .u32 (numTo P.zs 0 4)) := d0
    obtain ⟨v, hv⟩ : ∃ v, numTo P.zs 0 4 = v := ⟨_, rfl⟩
    have HO : Hid (O = (v, true, 0)) := Lib.hid (by rw [HV.out, if_pos (by omega), hv])
    rw [hv] at d0
    clear q1 q2 hrow hcel hc0 hv hM h4
    go_wp2
    go_ret3
    exact ⟨by rw [HO.out]; rfl, HB2.out⟩
   ·have k1 : ((M : Int) != 1) = true := by rw [bne_iff_ne]; omega
    have HO : Hid (O = (0, false, 4)) := Lib.hid (by rw [HV.out, if_neg (by omega)])
    clear q1 q2 hrow hcel hM h4 h1
    go_wp2
    go_ret3
    exact ⟨by rw [HO.out]; rfl, HB2.out⟩
  ·obtain rfl := q1 h4
   have HO : Hid (O = (0, false, 4)) := Lib.hid (by rw [HV.out, if_neg (by omega)])
   clear q1 q2 h4
   go_wp2
   go_ret3
   exact ⟨by rw [HO.out]; rfl, HB2.out⟩
theorem qnv_ (n : Nd) (s : ByteArray) (w : World) (hin : n.In w w.heap.size) (hz : heftN n <= 1073741824) :
  Calls Tryz.prog 16 #[n.val, .string s] w fun e w' => e = .returned (qfz_ (oneV n s)) /\ Below w.heap.size w w' := qov_ n s w hin
def qas_ : ByteArray := ⟨#[112, 104, 97, 110, 100, 108, 101]⟩
def qau_ (root : Nd) (acc : List (Int × List Nat)) (p : List Nat) : List (Int × List Nat) × Int :=
 match qaj_ root p with
 | none => (acc, 0)
 | some n =>
  if (oneV n qas_).2.2 ≠ 0 then ([], (oneV n qas_).2.2)
  else if (oneV n qas_).2.1 = false then (acc, 0)
  else if (oneV n qas_).1 = 0 \/ (oneV n qas_).1 = 4294967295 then ([], 11)
  else if acc.any (fun x => decide (x.1 = (oneV n qas_).1)) = true then ([], 9)
  else (acc ++ [((oneV n qas_).1, p)], 0)
def qah_ (root : Nd) : List (Int × List Nat) -> List (List Nat) -> List (Int × List Nat) × Int
 | acc, [] => (acc, 0)
 | acc, p :: r => if (qau_ root acc p).2 = 0 then qah_ root (qau_ root acc p).1 r else ([], (qau_ root acc p).2)
def qan_ (root : Nd) : List (Int × List Nat) × Int := qah_ root [] (qac_ root [])
theorem qge_ (root : Nd) : ∀ (l : List (List Nat)) (acc : List (Int × List Nat)), (qah_ root acc l).2 ≠ 0 -> (qah_ root acc l).1 = []
 | [], acc, h => absurd rfl h
 | p :: r, acc, h => by
  rw [qah_] at h ⊢
  by_cases h0 : (qau_ root acc p).2 = 0
  ·rw [if_pos h0] at h ⊢
   exact qge_ root r _ h
  ·rw [if_neg h0]
theorem qja_ {root : Nd} (h : (qan_ root).2 ≠ 0) : (qan_ root).1 = [] := qge_ root _ _ h
theorem qow_ {root : Nd} {acc : List (Int × List Nat)} {p : List Nat} (h : (qau_ root acc p).2 = 0) : (qau_ root acc p).1 = acc \/ ∃ h, (∀ x ∈ acc, x.1 ≠ h) /\ h ≠ 0 /\ h ≠ 4294967295 /\ (qau_ root acc p).1 = acc ++ [(h, p)] := by
 unfold qau_ at h ⊢
 split at h
 ·exact .inl rfl
 ·rename_i n hn
  by_cases h1 : (oneV n qas_).2.2 ≠ 0
  ·rw [if_pos h1] at h; exact absurd h h1
  rw [if_neg h1] at h ⊢
  by_cases h2 : (oneV n qas_).2.1 = false
  ·rw [if_pos h2]; exact .inl rfl
  rw [if_neg h2] at h ⊢
  by_cases h3 : (oneV n qas_).1 = 0 \/ (oneV n qas_).1 = 4294967295
  ·rw [if_pos h3] at h; exact absurd h (by decide)
  rw [if_neg h3] at h ⊢
  by_cases h4 : acc.any (fun x => decide (x.1 = (oneV n qas_).1)) = true
  ·rw [if_pos h4] at h; exact absurd h (by decide)
  rw [if_neg h4]
  refine .inr ⟨_, fun x hx e => h4 (List.any_eq_true.2 ⟨x, hx, decide_eq_true e⟩), fun e => h3 (.inl e), fun e => h3 (.inr e), rfl⟩
theorem qc7_ (root : Nd) : ∀ (l : List (List Nat)) (acc : List (Int × List Nat)), (acc.map Prod.fst).Nodup -> ((qah_ root acc l).1.map Prod.fst).Nodup
 | [], acc, h => h
 | p :: r, acc, h => by
  rw [qah_]
  by_cases h1 : (qau_ root acc p).2 = 0
  ·rw [if_pos h1]
   rcases qow_ h1 with e | ⟨v, hv, _, _, e⟩
   ·rw [e]; exact qc7_ root r acc h
   ·refine qc7_ root r _ ?_
    rw [e, List.map_append, List.nodup_append]
    refine ⟨h, by simp, fun a ha b hb => ?_⟩
    obtain ⟨x, hx, rfl⟩ := List.mem_map.1 ha
    simp only [List.map_cons, List.map_nil, List.mem_singleton] at hb
    rw [hb]
    exact hv x hx
  ·rw [if_neg h1]; exact List.nodup_nil
theorem qjz_ (root : Nd) : ((qan_ root).1.map Prod.fst).Nodup := qc7_ root _ _ List.nodup_nil
def qjv_ (root : Nd) (h : Int) : Option (List Nat) := ((qan_ root).1.find? fun x => decide (x.1 = h)).map Prod.snd
def mostOf (root : Nd) : Int := (qan_ root).1.foldl (fun m x => max m x.1) 0
theorem qa2_ (w : World) (v0 v1 v2 v3 v4 : Value) (W : World) (h : Below (w.heap.size + 1) (w.alloc (.cells #[v0, v1, v2, v3, v4] 29)) W) :
  W.cell? ⟨w.heap.size, 0, none⟩ = some v0 /\ W.cell? ⟨w.heap.size, 1, none⟩ = some v1 /\ W.cell? ⟨w.heap.size, 2, none⟩ = some v2 /\ W.cell? ⟨w.heap.size, 3, none⟩ = some v3 /\ W.cell? ⟨w.heap.size, 4, none⟩ = some v4 :=
 ⟨(h.cell (Nat.lt_succ_self _)).trans (World.cell?_alloc_new _ _ _ _), (h.cell (Nat.lt_succ_self _)).trans (World.cell?_alloc_new _ _ _ _), (h.cell (Nat.lt_succ_self _)).trans (World.cell?_alloc_new _ _ _ _), (h.cell (Nat.lt_succ_self _)).trans (World.cell?_alloc_new _ _ _ _), (h.cell (Nat.lt_succ_self _)).trans (World.cell?_alloc_new _ _ _ _)⟩
def PathOK (S : Tr -> List Nat -> ByteArray) : Prop := ∀ (t : Tr) (p : List Nat) (A : Option Addr) (n c : Nat) (w : World), t.In w w.heap.size -> qb5_ t = 0 -> heftN t.root <= 134217728 -> p ∈ qac_ t.root [] -> p.length = n -> Cel w w.heap.size A n (ints p) -> n <= c -> c <= 9223372036854775807 ->
 Calls Tryz.prog 48 #[t.val, .slice A n c] w fun e w' => e = .returned (.tuple #[.string (S t p), .int .i64 0]) /\ Below w.heap.size w w'
def nodeZ : Nd -> List Int -> Option Nd
 | n, [] => some n
 | n, i :: r => if i < 0 then none else match n.kids[i.toNat]? with
  | none => none
  | some k => nodeZ k r
abbrev intsZ (z : List Int) : List Value := z.map fun k => Value.int .i64 k
theorem qf3_ (p : List Nat) : ints p = intsZ (p.map Int.ofNat) := by simp [ints, intsZ]
theorem qa4_ : ∀ (p : List Nat) (n : Nd), nodeZ n (p.map Int.ofNat) = qaj_ n p
 | [], n => rfl
 | i :: p, n => by
  rw [List.map_cons, nodeZ, qaj_, if_neg (by simp)]
  simp only [Int.ofNat_eq_natCast, Int.toNat_natCast]
  cases n.kids[i]? with
  | none => rfl
  | some k => exact qa4_ p k
theorem qar_ : ∀ (p q : List Int) (n : Nd), nodeZ n (p ++ q) = match nodeZ n p with | none => none | some x => nodeZ x q
 | [], q, n => by simp [nodeZ]
 | i :: p, q, n => by
  rw [List.cons_append, nodeZ, nodeZ]
  by_cases hi : i < 0
  ·rw [if_pos hi, if_pos hi]
  ·rw [if_neg hi, if_neg hi]
   cases n.kids[i.toNat]? with
   | none => rfl
   | some k => exact qar_ p q k
theorem qa9_ {w : World} {B : Nat} : ∀ (p : List Int) {n x : Nd}, n.In w B -> nodeZ n p = some x -> x.In w B
 | [], n, x, h, e => by rw [nodeZ] at e; rw [<- Option.some.inj e]; exact h
 | i :: p, n, x, h, e => by
  rw [nodeZ] at e
  by_cases hi : i < 0
  ·rw [if_pos hi] at e; cases e
  rw [if_neg hi] at e
  cases hk : n.kids[i.toNat]? with
  | none => rw [hk] at e; cases e
  | some k => rw [hk] at e; exact qa9_ p (h.kid (List.mem_of_getElem? hk)) e
def qhg_ : Option Nd -> Value
 | none => .tuple #[.agg #[.string ⟨#[]⟩, .slice none 0 0, .slice none 0 0], .bool false]
 | some x => .tuple #[x.val, .bool true]
theorem qdc_ {g : Nat} {w wr : World} (h : Below g w wr) (m b : Nat) (hb : g <= b) (u0 u1 u2 : Value) : Below g w ((((wr.drewN m).setCell ⟨b, 0, none⟩ u0).setCell ⟨b, 1, none⟩ u1).setCell ⟨b, 2, none⟩ u2) :=
 ((Below.setCell (Below.setCell (Below.setCell (h.trans (c := wr.drewN m) ⟨rfl, rfl, rfl, Nat.le_refl _, fun _ _ => rfl⟩) (p := ⟨b, 0, none⟩) hb u0) (p := ⟨b, 1, none⟩) hb u1) (p := ⟨b, 2, none⟩) hb u2))
theorem heap_sets {wr : World} (m b k : Nat) (hk : k ≠ b) (u0 u1 u2 : Value) : ((((wr.drewN m).setCell ⟨b, 0, none⟩ u0).setCell ⟨b, 1, none⟩ u1).setCell ⟨b, 2, none⟩ u2).heap[k]? = wr.heap[k]? := by
 rw [Below.heap_setCell _ _ _ _ hk, Below.heap_setCell _ _ _ _ hk, Below.heap_setCell _ _ _ _ hk]
 rfl
theorem qln_ {wr : World} (m b : Nat) {v0 v1 v2 : Value} {t : TypeId} {fz : Nat × Nat} (h : wr.heap[b]? = some (.cells #[v0, v1, v2] t fz)) (u0 u1 u2 : Value) : ((((wr.drewN m).setCell ⟨b, 0, none⟩ u0).setCell ⟨b, 1, none⟩ u1).setCell ⟨b, 2, none⟩ u2).heap[b]? = some (.cells #[u0, u1, u2] t fz) := by
 simp [World.setCell, Array.getElem?_modify, h]
theorem qor_ (t : Tr) (z : List Int) (A : Option Addr) (n c : Nat) (w : World) (hin : t.In w w.heap.size) (hp : Cel w w.heap.size A n (intsZ z)) (hnc : n <= c) (hc : c <= 9223372036854775807) :
  Calls Tryz.prog 15 #[t.val, .slice A n c] w fun e w' => e = .returned (qhg_ (nodeZ t.root z)) /\ Below w.heap.size w w' := by
 have HI := Lib.hid hin.root
 have HP := Lib.hid hp
 have HPL : Hid (z.length = n) := Lib.hid (by have := hp.1; rwa [List.length_map] at this)
 clear hin hp
 obtain ⟨boot, ra, rc, rs, ⟨nm, pa, pc, ps, ka, kc, ks⟩⟩ := t
 replace HI : Hid ((Nd.mk nm pa pc ps ka kc ks).In w w.heap.size) := HI
 show Calls _ _ #[.agg #[.int .u32 boot, .slice ra rs.length rc, .string nm, .slice pa ps.length pc, .slice ka ks.length kc], .slice A n c] w (fun e w' => e = .returned (qhg_ (nodeZ (Nd.mk nm pa pc ps ka kc ks) z)) /\ Below w.heap.size w w')
 obtain ⟨R, hR⟩ : ∃ R, Nd.mk nm pa pc ps ka kc ks = R := ⟨_, rfl⟩
 have HRE := Lib.hid hR
 rw [hR] at HI ⊢
 clear hR
 obtain ⟨b0, b1, b2, b3, b4⟩ := qa2_ w (.int .u32 boot) (.slice ra rs.length rc) (.string nm) (.slice pa ps.length pc) (.slice ka ks.length kc) _ (Below.refl _ _)
 go_enter Tryz.func15, Tryz.ntmps15
 go_wp2_with fail
 clear b0 b1 b2 b3 b4
 obtain ⟨g, hg⟩ : ∃ g, g = w.heap.size := ⟨_, rfl⟩
 have HG := Lib.hid hg
 have h1 : (w.alloc (.cells #[.int .u32 boot, .slice ra rs.length rc, .string nm, .slice pa ps.length pc, .slice ka ks.length kc] 29)).heap.size = g + 1 := by simp [hg]
 have h2 : ((w.alloc (.cells #[.int .u32 boot, .slice ra rs.length rc, .string nm, .slice pa ps.length pc, .slice ka ks.length kc] 29)).alloc (.cells #[.string ⟨#[]⟩, .slice none 0 0, .slice none 0 0] 27)).heap.size = g + 1 + 1 := by simp [hg]
 have W0 : Hid ((((w.alloc (.cells #[.int .u32 boot, .slice ra rs.length rc, .string nm, .slice pa ps.length pc, .slice ka ks.length kc] 29)).alloc (.cells #[.string ⟨#[]⟩, .slice none 0 0, .slice none 0 0] 27)).alloc (.cells #[.string nm, .slice pa ps.length pc, .slice ka ks.length kc] 27)).heap[g + 1]? = some (.cells #[.string ⟨#[]⟩, .slice none 0 0, .slice none 0 0] 27 (0, 0)) /\ (((w.alloc (.cells #[.int .u32 boot, .slice ra rs.length rc, .string nm, .slice pa ps.length pc, .slice ka ks.length kc] 29)).alloc (.cells #[.string ⟨#[]⟩, .slice none 0 0, .slice none 0 0] 27)).alloc (.cells #[.string nm, .slice pa ps.length pc, .slice ka ks.length kc] 27)).heap[g + 1 + 1]? = some (.cells #[.string nm, .slice pa ps.length pc, .slice ka ks.length kc] 27 (0, 0)) /\ Below g w (((w.alloc (.cells #[.int .u32 boot, .slice ra rs.length rc, .string nm, .slice pa ps.length pc, .slice ka ks.length kc] 29)).alloc (.cells #[.string ⟨#[]⟩, .slice none 0 0, .slice none 0 0] 27)).alloc (.cells #[.string nm, .slice pa ps.length pc, .slice ka ks.length kc] 27))) := Lib.hid ⟨by
   rw [Below.heap_alloc _ _ _ (by rw [h2]; omega), <- h1]
   exact heap_alloc_new _ _, by
   rw [<- h2]
   exact heap_alloc_new _ _, by
   have hl : g <= w.heap.size := by rw [hg]; exact Nat.le_refl _
   exact (((Below.refl g w).alloc hl (.cells #[.int .u32 boot, .slice ra rs.length rc, .string nm, .slice pa ps.length pc, .slice ka ks.length kc] 29)).alloc (by rw [h1]; omega) (.cells #[.string ⟨#[]⟩, .slice none 0 0, .slice none 0 0] 27)).alloc (by rw [h2]; omega) (.cells #[.string nm, .slice pa ps.length pc, .slice ka ks.length kc] 27)⟩
 rw [<- hg] at HI HP ⊢
 clear h1 h2 hg
 go_loopw [12] (fun i wr => ∃ (k : Nat) (x : Nd), k <= n /\ i = .int .i64 k /\ nodeZ R (z.take k) = some x /\ wr.heap[g + 1]? = some (.cells #[.string ⟨#[]⟩, .slice none 0 0, .slice none 0 0] 27 (0, 0)) /\ wr.heap[g + 1 + 1]? = some (.cells #[.string x.name, x.pv, x.kv] 27 (0, 0)) /\ Below g w wr) (fun i _ => n - (intOf i).toNat)
 case atStart =>
  obtain ⟨a1, a2, a3⟩ := W0.out
  exact ⟨0, R, Nat.zero_le _, rfl, rfl, a1, by rw [<- HRE.out]; exact a2, a3⟩
 case round =>
  obtain ⟨k, x, hk, rfl, hx, hz, hbk, hb⟩ := hrel
  have HX := Lib.hid hx
  have HBK := Lib.hid hbk
  have HZC := Lib.hid hz
  have HB := Lib.hid hb
  have y0 : wr.cell? ⟨g + 1, 0, none⟩ = some (.string ⟨#[]⟩) := by rw [Lib.cell_of_heap hz]; rfl
  have y1 : wr.cell? ⟨g + 1, 1, none⟩ = some (.slice none 0 0) := by rw [Lib.cell_of_heap hz]; rfl
  have y2 : wr.cell? ⟨g + 1, 2, none⟩ = some (.slice none 0 0) := by rw [Lib.cell_of_heap hz]; rfl
  have e0 := Lib.frozen_of_heap hz 0
  have e1 := Lib.frozen_of_heap hz 1
  have e2 := Lib.frozen_of_heap hz 2
  have f0 := Lib.frozen_of_heap hbk 0
  have f1 := Lib.frozen_of_heap hbk 1
  have f2 := Lib.frozen_of_heap hbk 2
  have hxin := (qa9_ _ HI.out hx).under hb
  by_cases hlt : k < n
  ·obtain ⟨pb, po, rfl, _, hcell⟩ := (HP.out.below hb).2 (by omega)
   have ck := hcell k hlt
   have hkp : k < z.length := by rw [HPL.out]; exact hlt
   rw [List.getElem?_map, List.getElem?_eq_getElem hkp] at ck
   have hzt : z.take (k + 1) = z.take k ++ [z[k]] := by rw [List.take_add_one, List.getElem?_eq_getElem hkp]; rfl
   have hzs : nodeZ R z = nodeZ x (z[k] :: z.drop (k + 1)) := by
    have e : z = z.take k ++ (z[k] :: z.drop (k + 1)) := by rw [List.getElem_cons_drop, List.take_append_drop]
    conv => lhs; rw [e, qar_, hx]
   have hzn : nodeZ R (z.take (k + 1)) = nodeZ x [z[k]] := by rw [hzt, qar_, hx]
   replace ck : wr.cell? ⟨pb, po + k, none⟩ = some (.int .i64 z[k]) := ck
   generalize z[k] = q at *
   generalize z.drop (k + 1) = zr at *
   have HZS := Lib.hid hzs
   have HZN := Lib.hid hzn
   have hkm := hxin.klen
   have hkl := hxin.name_le.2.2
   have HKC := Lib.hid (fun i (hi : i < x.kids.length) => hxin.kcell hi)
   clear hzt hzs hzn hcell hkp hb hx hz hxin
   obtain ⟨xn, xpa, xpc, xps, xka, xkc, xks⟩ := x
   replace hkm : xks.length <= xkc /\ xkc <= 9223372036854775807 := hkm
   replace hkl : xks.length * 64 <= 140737488351232 := hkl
   replace hbk : wr.heap[g + 1 + 1]? = some (.cells #[.string xn, .slice xpa xps.length xpc, .slice xka xks.length xkc] 27 (0, 0)) := hbk
   have c0 : wr.cell? ⟨g + 1 + 1, 0, none⟩ = some (.string xn) := by rw [Lib.cell_of_heap hbk]; rfl
   have c1 : wr.cell? ⟨g + 1 + 1, 1, none⟩ = some (.slice xpa xps.length xpc) := by rw [Lib.cell_of_heap hbk]; rfl
   have c2 : wr.cell? ⟨g + 1 + 1, 2, none⟩ = some (.slice xka xks.length xkc) := by rw [Lib.cell_of_heap hbk]; rfl
   clear hbk
   by_cases hq0 : q < 0
   ·have q2 : decide (q < 0) = true := decide_eq_true hq0
    have HN : Hid (nodeZ R z = none) := Lib.hid (by rw [HZS.out, nodeZ, if_pos hq0])
    clear hq0
    go_wp2_with fail
    go_quiet (fail)
    go_wp2
    refine bodyPost_ret (v := qhg_ none) (by simp [results, Tryz.results15, go_sem, qhg_, y0, y1, y2, e0, e1, e2]) rfl ?_
    exact ⟨by rw [HN.out], qdc_ (HG.out ▸ HB.out) _ _ (by have := HG.out; omega) _ _ _⟩
   ·have q1 : decide (q < 0) = false := decide_eq_false hq0
    by_cases hqk : q.toNat < xks.length
    ·obtain ⟨kb, ko, ek, _, d0, d1, d2⟩ := HKC.out _ hqk
     obtain ⟨q, rfl⟩ : ∃ m : Nat, q = (m : Int) := ⟨q.toNat, by omega⟩
     simp only [Int.toNat_natCast] at hqk d0 d1 d2
     obtain rfl : xka = _ := ek
     have q2 : decide ((q : Int) >= (xks.length : Int)) = false := decide_eq_false (by omega)
     have q3 : ¬ ((q : Int) >= (xks.length : Int)) := by omega
     have HNX : Hid (nodeZ R (z.take (k + 1)) = some xks[q]) := Lib.hid (by
      rw [HZN.out, nodeZ, if_neg (by omega)]
      simp only [Int.toNat_natCast, Nd.kids, List.getElem?_eq_getElem hqk]
      rfl)
     replace d0 : wr.cell? ⟨kb, ko + q * 3, none⟩ = some (.string xks[q].name) := d0
     replace d1 : wr.cell? ⟨kb, ko + q * 3 + 1, none⟩ = some xks[q].pv := d1
     replace d2 : wr.cell? ⟨kb, ko + q * 3 + 2, none⟩ = some xks[q].kv := d2
     obtain ⟨y, hy⟩ : ∃ y, xks[q] = y := ⟨_, rfl⟩
     rw [hy] at HNX d0 d1 d2
     clear hy HKC HZS HZN HX
     obtain ⟨yn, ypa, ypc, yps, yka, ykc, yks⟩ := y
     replace d0 : wr.cell? ⟨kb, ko + q * 3, none⟩ = some (.string yn) := d0
     replace d1 : wr.cell? ⟨kb, ko + q * 3 + 1, none⟩ = some (.slice ypa yps.length ypc) := d1
     replace d2 : wr.cell? ⟨kb, ko + q * 3 + 2, none⟩ = some (.slice yka yks.length ykc) := d2
     generalize xks.length = xkl at *
     go_wp2_with fail
     go_quiet (fail)
     go_wp2_with fail
     go_region
     go_wp2
     go_roundw
     case rel => exact ⟨k + 1, Nd.mk yn ypa ypc yps yka ykc yks, by omega, by go_num, HNX.out, (heap_sets _ _ _ (by omega) _ _ _).trans HZC.out, qln_ _ _ HBK.out _ _ _, qdc_ HB.out _ _ (by omega) _ _ _⟩
     case measure => simp [intOf]; omega
    ·have q2 : decide (q >= (xks.length : Int)) = true := decide_eq_true (by omega)
     have HN : Hid (nodeZ R z = none) := Lib.hid (by
      rw [HZS.out, nodeZ, if_neg hq0]
      simp only [Nd.kids, List.getElem?_eq_none (Nat.le_of_not_lt hqk)])
     clear hq0 hqk
     generalize xks.length = xkl at *
     go_wp2_with fail
     go_quiet (fail)
     go_wp2
     refine bodyPost_ret (v := qhg_ none) (by simp [results, Tryz.results15, go_sem, qhg_, y0, y1, y2, e0, e1, e2]) rfl ?_
     exact ⟨by rw [HN.out], qdc_ (HG.out ▸ HB.out) _ _ (by have := HG.out; omega) _ _ _⟩
  ·obtain rfl : k = n := by omega
   have HT : Hid (nodeZ R z = some x) := Lib.hid (by
    have e : z.take k = z := List.take_of_length_le (by rw [HPL.out]; exact Nat.le_refl _)
    rw [<- hx, e])
   clear hxin hx hz hb
   obtain ⟨xn, xpa, xpc, xps, xka, xkc, xks⟩ := x
   replace hbk : wr.heap[g + 1 + 1]? = some (.cells #[.string xn, .slice xpa xps.length xpc, .slice xka xks.length xkc] 27 (0, 0)) := hbk
   have c0 : wr.cell? ⟨g + 1 + 1, 0, none⟩ = some (.string xn) := by rw [Lib.cell_of_heap hbk]; rfl
   have c1 : wr.cell? ⟨g + 1 + 1, 1, none⟩ = some (.slice xpa xps.length xpc) := by rw [Lib.cell_of_heap hbk]; rfl
   have c2 : wr.cell? ⟨g + 1 + 1, 2, none⟩ = some (.slice xka xks.length xkc) := by rw [Lib.cell_of_heap hbk]; rfl
   clear hbk
   go_wp2
   refine bodyPost_ret (v := qhg_ (some (Nd.mk xn xpa xpc xps xka xkc xks))) (by simp [results, Tryz.results15, go_sem, qhg_, y0, y1, y2, e0, e1, e2, Nd.val, Nd.name, Nd.pv, Nd.kv, Nd.pa, Nd.pc, Nd.props, Nd.ka, Nd.kc, Nd.kids]) rfl ?_
   exact ⟨by rw [HT.out], qdc_ (HG.out ▸ HB.out) 0 _ (by have := HG.out; omega) _ _ _⟩
end Go.Proofs.YtcfinbapfhhpgaaGreatDoor
