/-
  Base, part 4: what the proofs of this claim lean on.
-/
import Derived.Test.YtapfcbcojnplaaaBase3
import Derived.Test.YtapfcbcojnplaaaBase2
import Derived.Test.YtapfcbcojnplaaaBase1
import Derived.Lib.Bytes
import Derived.Lib.SmallJoins
import Derived.OwnWalk
import Derived.Deep.DrawnRows

/-! Layer 4: what Decode answers, as a function of the bytes alone. -/
namespace Go.Proofs.Ytapfcbcojnplaaa
open Go.RowKit
set_option linter.unusedVariables false
set_option linter.unusedSimpArgs false

/-- A node without addresses. -/
inductive PN where
  | mk (name : ByteArray) (props : List (ByteArray × List Int)) (kids : List PN)
namespace PN
def name : PN → ByteArray | .mk n _ _ => n
def props : PN → List (ByteArray × List Int) | .mk _ p _ => p
def kids : PN → List PN | .mk _ _ k => k
end PN
instance : Inhabited PN := ⟨.mk ⟨#[]⟩ [] []⟩

def PV.pure (p : PV) : ByteArray × List Int := (p.name, p.zs)
mutual
def pureN : Nd → PN
  | .mk n _ _ ps _ _ ks => .mk n (ps.map PV.pure) (pureL ks)
def pureL : List Nd → List PN
  | [] => []
  | k :: r => pureN k :: pureL r
end
theorem pureL_map : ∀ l : List Nd, pureL l = l.map pureN
  | [] => by simp [pureL]
  | k :: r => by simp [pureL, pureL_map r]
theorem pureN_mk (n : Nd) : pureN n = .mk n.name (n.props.map PV.pure) (n.kids.map pureN) := by
  cases n; simp only [pureN, pureL_map]; rfl

/-- A node that is being read: its name, what is read of it, and which names are taken by nodes below it. -/
structure PF where
  name : ByteArray
  props : List (ByteArray × List Int)
  kids : List PN
  taken : List ByteArray
def PF.done (f : PF) : PN := .mk f.name f.props f.kids
def PF.new (s : ByteArray) : PF := ⟨s, [], [], []⟩

/-- Where the reader stands: the place of the next token, the innermost node, those around it. -/
structure PSt where
  pos : Nat
  top : PF
  below : List PF

theorem padN_mod (n : Nat) : (n + padN n) % 4 = 0 := by unfold padN; omega

def tokAt (S : List Int) (a : Nat) : Option Int := if a + 4 ≤ S.length then some (numTo S a 4) else none
/-- The bytes from a place on up to the next nought. -/
def textFrom (S : List Int) (a : Nat) : Option (List Int) := if 0 ∈ S.drop a then some ((S.drop a).takeWhile fun z => decide (z ≠ 0)) else none
/-- The place behind noughts up to a multiple of 4. -/
def behind (S : List Int) (a : Nat) : Option Nat := if a + padN a ≤ S.length ∧ ∀ x ∈ (S.drop a).take (padN a), x = 0 then some (a + padN a) else none

/-- May a token stand, where there are so many open nodes around the innermost one, which has so many nodes? -/
def standB (b k : Nat) (tok : Int) : Bool :=
  if tok = 1 then (decide (0 < b) || decide (k = 0)) else if tok = 2 then decide (0 < b) else if tok = 3 then (decide (0 < b) && decide (k = 0)) else if tok = 4 then true else if tok = 9 then (decide (b = 0) && decide (k = 1)) else false

/-- Is a name among those? -/
def hasS (l : List ByteArray) (s : ByteArray) : Bool := l.any fun x => decide (x = s)
theorem hasS_iff {l : List ByteArray} {s : ByteArray} : hasS l s = true ↔ s ∈ l := by
  unfold hasS
  rw [List.any_eq_true]
  exact ⟨fun ⟨x, h1, h2⟩ => by rw [← of_decide_eq_true h2]; exact h1, fun h => ⟨s, h, decide_eq_true rfl⟩⟩
theorem hasS_false {l : List ByteArray} {s : ByteArray} : hasS l s = false ↔ s ∉ l := by
  rw [← hasS_iff]; simp

noncomputable def okName (s : ByteArray) (d : Nat) : Bool := if d = 1 then s.toList.isEmpty else nodeB s

noncomputable def beginF (S : List Int) (st : PSt) : Except Int PSt :=
  match textFrom S (st.pos + 4) with
  | none => .error 4
  | some s => match behind S (st.pos + 4 + s.length + 1) with
    | none => .error 4
    | some a =>
      if 16 < st.below.length + 1 then .error 6 else if okName (strOfNums s) (st.below.length + 1) = false then .error 5 else if hasS st.top.taken (strOfNums s) = true then .error 9 else
        .ok ⟨a, PF.new (strOfNums s), { st.top with taken := st.top.taken ++ [strOfNums s] } :: st.below⟩

noncomputable def propF (S T : List Int) (st : PSt) : Except Int PSt :=
  if st.pos + 12 ≤ S.length then
    if ((S.length - (st.pos + 12) : Nat) : Int) < numTo S (st.pos + 4) 4 then .error 4 else
    match behind S (st.pos + 12 + (numTo S (st.pos + 4) 4).toNat) with
    | none => .error 4
    | some a => match textFrom T (numTo S (st.pos + 8) 4).toNat with
      | none => .error 4
      | some s => if propB (strOfNums s) = false then .error 5 else if hasS (st.top.props.map Prod.fst) (strOfNums s) = true then .error 9 else
        .ok ⟨a, { st.top with props := st.top.props ++ [(strOfNums s, (S.drop (st.pos + 12)).take (numTo S (st.pos + 4) 4).toNat)] }, st.below⟩
  else .error 4

def leaveF (st : PSt) : PSt :=
  match st.below with
  | [] => st
  | f :: r => ⟨st.pos, { f with kids := f.kids ++ [st.top.done] }, r⟩
def skipF (st : PSt) : PSt := { st with pos := st.pos + 4 }

noncomputable def readF (S T : List Int) (st : PSt) (tok : Int) : Except Int PSt :=
  if tok = 1 then beginF S st else if tok = 3 then propF S T st else if tok = 2 then .ok (skipF (leaveF st)) else .ok (skipF st)

noncomputable def rootF (S T : List Int) : Nat → PSt → Except Int PN
  | 0, _ => .error 4
  | f + 1, st =>
    match tokAt S st.pos with
    | none => .error 4
    | some k =>
      if standB st.below.length st.top.kids.length k = false then .error 4 else
      match readF S T st k with
      | .error e => .error e
      | .ok st' => if k = 9 then (if st'.pos = S.length then .ok (st'.top.kids.headD default) else .error 4) else rootF S T f st'
def start : PSt := ⟨0, PF.new ⟨#[]⟩, []⟩

/-- The reserves from a place on. -/
def resF (zs : List Int) : Nat → Nat → List (Int × Int) → Except Int (List (Int × Int))
  | 0, _, _ => .error 4
  | f + 1, a, l =>
    if a + 16 ≤ zs.length then
      if numTo zs a 8 = 0 ∧ numTo zs (a + 8) 8 = 0 then (if 64 < l.length then .error 7 else .ok l) else resF zs f (a + 16) (l ++ [(numTo zs a 8, numTo zs (a + 8) 8)])
    else .error 4

def errOf {α : Type} : Except Int α → Int
  | .error e => e
  | .ok _ => 0

/-- The part of the bytes that begins at a place, and is so long. -/
def partL (zs : List Int) (a n : Nat) : List Int := (zs.drop a).take n

/-- What the bytes say, but for how many nodes and properties there may be. -/
noncomputable def readAll (zs : List Int) : Except Int (List (Int × Int) × PN) :=
  match resF zs (zs.length + 1) (hcell zs 4).toNat [] with
  | .error e => .error e
  | .ok rs => match rootF (partL zs (hcell zs 2).toNat (hcell zs 9).toNat) (partL zs (hcell zs 3).toNat (hcell zs 8).toNat) ((hcell zs 9).toNat + 1) start with
    | .error e => .error e
    | .ok n => .ok (rs, n)

/-! ### What holds of it -/
theorem textFrom_len {S : List Int} {a : Nat} {s : List Int} (h : textFrom S a = some s) : a + s.length + 1 ≤ S.length := by
  unfold textFrom at h
  split at h
  · rename_i h0
    simp only [Option.some.injEq] at h
    subst h
    have h1 : ((S.drop a).takeWhile fun z => decide (z ≠ 0)).length < (S.drop a).length := by
      have : ∀ l : List Int, 0 ∈ l → (l.takeWhile fun z => decide (z ≠ 0)).length < l.length := by
        intro l
        induction l with
        | nil => intro h; cases h
        | cons x l ih =>
          intro h
          by_cases hx : x = 0
          · simp [List.takeWhile_cons, hx]
          · have h2 : 0 ∈ l := by
              rcases List.mem_cons.1 h with e | e
              · exact absurd e.symm hx
              · exact e
            have := ih h2
            simp [List.takeWhile_cons, hx]
            simpa using this
      exact this _ h0
    rw [List.length_drop] at h1
    omega
  · cases h
theorem behind_some {S : List Int} {a b : Nat} (h : behind S a = some b) : b = a + padN a ∧ b ≤ S.length := by
  unfold behind at h
  split at h
  · rename_i h0
    simp only [Option.some.injEq] at h
    exact ⟨h.symm, h ▸ h0.1⟩
  · cases h
theorem readF_err_ne {S T : List Int} {st : PSt} {tok E : Int} (h : readF S T st tok = .error E) : E ≠ 0 := by
  unfold readF beginF propF at h
  repeat' split at h
  all_goals first | (cases h; done) | (simp only [Except.error.injEq] at h; omega)
/-- A token takes four bytes at least, and the reader stays within. -/
theorem readF_pos {S T : List Int} {st st' : PSt} {tok : Int} (h0 : st.pos + 4 ≤ S.length) (h : readF S T st tok = .ok st') : st.pos + 4 ≤ st'.pos ∧ st'.pos ≤ S.length := by
  unfold readF at h
  split at h
  · unfold beginF at h
    split at h
    · cases h
    · split at h
      · cases h
      · rename_i s hs a ha
        have h1 := behind_some ha
        repeat' split at h
        all_goals first | (cases h; done) | skip
        simp only [Except.ok.injEq] at h
        subst h
        simp only
        omega
  · split at h
    · unfold propF at h
      split at h
      · split at h
        · cases h
        · split at h
          · cases h
          · rename_i a ha
            have h1 := behind_some ha
            repeat' split at h
            all_goals first | (cases h; done) | skip
            simp only [Except.ok.injEq] at h
            subst h
            simp only
            omega
      · cases h
    · split at h <;> simp only [Except.ok.injEq] at h <;> subst h
      · unfold leaveF skipF
        split <;> simp only <;> omega
      · simp only [skipF]; omega
end Go.Proofs.Ytapfcbcojnplaaa

/-! Texts of bytes that are shown; bytes.Equal. -/
namespace Go.Proofs.Ytapfcbcojnplaaa
open Go.RowKit
set_option linter.unusedVariables false
set_option linter.unusedSimpArgs false

/-- 'string(b)' of bytes that are shown. -/
theorem run_string {w : World} {B n : Nat} {A : Option Addr} {zs : List Int} (h : Shows w B A n zs) (c : Nat) :
    (convert 79 9 (.slice A n c)).run Try.prog w = .ok (.string (strOfNums zs)) w := by
  rcases Nat.eq_zero_or_pos n with rfl | h0
  · obtain rfl : zs = [] := List.eq_nil_of_length_eq_zero h.1
    rcases A with _ | ⟨b, o, s⟩
    · exact run_convert_bytes_nil w 79 5 Try.underlying79 Try.underlying5 0 c _ Try.underlying9
    · rw [run_convert_bytes_string w 79 9 5 _ 0 c Try.underlying79 Try.underlying5 Try.underlying9,
        run_bytesToString w _ 0 c [] (by simpa using run_loadCells_list (P := Try.prog) w ⟨b, o, s⟩ [] (by simp))]
      rfl
  · obtain ⟨b, o, rfl, _, hc⟩ := h.at_ h0
    exact run_convert_bytes_arg w 79 5 Try.underlying79 Try.underlying5 b o n c zs h.1 hc _ Try.underlying9

theorem nums_inj : ∀ {xs ys : List Int}, (∀ z ∈ xs, 0 ≤ z ∧ z < 256) → (∀ z ∈ ys, 0 ≤ z ∧ z < 256) → (xs.map fun n => UInt8.ofNat n.toNat) = (ys.map fun n => UInt8.ofNat n.toNat) → xs = ys
  | [], [], _, _, _ => rfl
  | [], _ :: _, _, _, h => by simp at h
  | _ :: _, [], _, _, h => by simp at h
  | x :: xs, y :: ys, hx, hy, h => by
    simp only [List.map_cons, List.cons.injEq] at h
    have h1 := hx x (List.mem_cons_self ..)
    have h2 := hy y (List.mem_cons_self ..)
    have h3 := congrArg UInt8.toNat h.1
    simp only [UInt8.toNat_ofNat'] at h3
    rw [nums_inj (fun z hz => hx z (List.mem_cons_of_mem _ hz)) (fun z hz => hy z (List.mem_cons_of_mem _ hz)) h.2]
    congr 1
    omega

/-- Texts of bytes are the same just if the bytes are. -/
theorem str_eqz {xs ys : List Int} (hx : ∀ z ∈ xs, 0 ≤ z ∧ z < 256) (hy : ∀ z ∈ ys, 0 ≤ z ∧ z < 256) : ((strOfNums xs).toList == (strOfNums ys).toList) = decide (xs = ys) := by
  rw [Lib.toList_data, Lib.toList_data, strOfNums_data, strOfNums_data, Bool.eq_iff_iff, beq_iff_eq, decide_eq_true_iff]
  exact ⟨nums_inj hx hy, fun h => by rw [h]⟩
theorem str_eqb (x y : ByteArray) : (x.toList == y.toList) = decide (x = y) := by
  by_cases h : x = y
  · subst h; simp
  · rw [str_ne h, decide_eq_false h]

end Go.Proofs.Ytapfcbcojnplaaa

/-! The document's numbers and texts, of bytes of any length. -/
namespace Go.Proofs.Ytapfcbcojnplaaa
open Go.RowKit
set_option linter.unusedVariables false
set_option linter.unusedSimpArgs false

/-- The first nought from a on, below n, is at i. -/
def HitAt (zs : List Int) (a n i : Nat) : Prop := a ≤ i ∧ i < n ∧ zs.getD i 0 = 0 ∧ ∀ j, a ≤ j → j < i → zs.getD j 0 ≠ 0
/-- There is none. -/
def NoHit (zs : List Int) (a n : Nat) : Prop := ∀ j, a ≤ j → j < n → zs.getD j 0 ≠ 0

theorem hit_or_not (zs : List Int) (a : Nat) : ∀ k, NoHit zs a (a + k) ∨ ∃ i, HitAt zs a (a + k) i
  | 0 => .inl fun j h1 h2 => by omega
  | k + 1 => by
    rcases hit_or_not zs a k with h | ⟨i, h1, h2, h3, h4⟩
    · by_cases h0 : zs.getD (a + k) 0 = 0
      · exact .inr ⟨a + k, by omega, by omega, h0, fun j h1 h2 => h j h1 (by omega)⟩
      · refine .inl fun j h1 h2 => ?_
        by_cases e : j = a + k
        · rw [e]; exact h0
        · exact h j h1 (by omega)
    · exact .inr ⟨i, h1, by omega, h3, h4⟩

set_option maxHeartbeats 400000 in
theorem number_no (A : Option Addr) (n c : Nat) (at_ k : Int) (w : World) (h : at_ < 0 ∨ n < at_ ∨ n - at_ < k) (hn : n ≤ 9223372036854775807) (hk : k = 4 ∨ k = 8) (ha : -9223372036854775808 ≤ at_ ∧ at_ ≤ 9223372036854775807) :
    Calls Try.prog 36 #[.slice A n c, .int .i64 at_, .int .i64 k] w fun e w' => e = .returned (.tuple #[.int .u64 0, .bool false]) ∧ w = w' := by
  obtain ⟨a0, a1⟩ := ha
  by_cases h0 : at_ < 0
  · go_enter Try.func36, Try.ntmps36
    go_wp2
    go_ret2
    exact ⟨rfl, rfl⟩
  · by_cases h1 : (n : Int) < at_
    · go_enter Try.func36, Try.ntmps36
      go_wp2
      go_ret2
      exact ⟨rfl, rfl⟩
    · have h2 : n - at_ < k := by omega
      go_enter Try.func36, Try.ntmps36
      go_wp2
      go_ret2
      exact ⟨rfl, rfl⟩

set_option maxHeartbeats 400000 in
theorem number_yes (A : Option Addr) (n c k a : Nat) (zs : List Int) (w : World) (B : Nat) (hs : Shows w B A n zs) (h : a + k ≤ n) (hn : n ≤ 140737488351232) (hk0 : 0 < k) (hk : k ≤ 8) :
    Calls Try.prog 36 #[.slice A n c, .int .i64 a, .int .i64 k] w fun e w' => e = .returned (.tuple #[.int .u64 (numTo zs a k), .bool true]) ∧ w = w' := by
  obtain ⟨b, o, rfl, _, hc⟩ := hs.at_ (by omega)
  have hz := hs.byte
  have h0 : ¬ ((a : Int) < 0) := by omega
  have h1 : ¬ ((n : Int) < (a : Int)) := by omega
  have h2 : ¬ ((n : Int) - (a : Int) < (k : Int)) := by omega
  clear hs
  have HC := Lib.hid hc
  have HZ := Lib.hid hz
  clear hc hz
  go_enter Try.func36, Try.ntmps36
  go_wp2
  go_loop [8, 27] (fun v i => ∃ j : Nat, j ≤ k ∧ i = .int .i64 j ∧ v = .int .u64 (numTo zs a j)) (fun _ i => k - (intOf i).toNat)
  case atStart => exact ⟨0, by omega, rfl, rfl⟩
  case round =>
    obtain ⟨j, hj, rfl, rfl⟩ := hrel
    by_cases hlt : j < k
    · have hcell := HC.out (a + j) (by omega)
      have hzb := HZ.out (a + j)
      have hb := numTo_lt64 zs a j HZ.out (by omega)
      have hb2 := numTo_lt64 zs a (j + 1) HZ.out (by omega)
      simp only [numTo] at hb2
      go_wp2
      go_round
      case rel => exact ⟨j + 1, by omega, by go_num, by
        have e : zs[a + j]?.getD 0 = zs.getD (a + j) 0 := by simp [List.getD]
        rw [e, IntWalk.u64_in (zs.getD (a + j) 0) (by omega), IntWalk.u64_in _ hb2]; rfl⟩
      case measure => simp [intOf]; omega
    · obtain rfl : j = k := by omega
      go_wp2
      go_ret2
      exact ⟨rfl, rfl⟩

theorem take_while_hit {zs : List Int} {a i : Nat} (h : HitAt zs a zs.length i) : (0 : Int) ∈ zs.drop a ∧ ((zs.drop a).takeWhile fun z => decide (z ≠ 0)) = (zs.drop a).take (i - a) := by
  obtain ⟨h1, h2, h3, h4⟩ := h
  have hget : ∀ j, a ≤ j → j < zs.length → (zs.drop a)[j - a]? = some (zs.getD j 0) := fun j hj hl => by
    rw [List.getElem?_drop, show a + (j - a) = j by omega]
    simp [List.getD, List.getElem?_eq_getElem hl]
  refine ⟨List.mem_of_getElem? ((hget i h1 h2).trans (congrArg some h3)), ?_⟩
  have hsplit : zs.drop a = (zs.drop a).take (i - a) ++ (0 :: (zs.drop a).drop (i - a + 1)) := by
    conv => lhs; rw [← List.take_append_drop (i - a) (zs.drop a)]
    congr 1
    rw [List.drop_eq_getElem_cons (by rw [List.length_drop]; omega)]
    congr 1
    have := hget i h1 h2
    rw [List.getElem?_eq_getElem (by rw [List.length_drop]; omega), h3] at this
    exact Option.some.inj this
  conv => lhs; rw [hsplit]
  rw [List.takeWhile_append_of_pos]
  · simp
  · intro z hz
    obtain ⟨j, hj, rfl⟩ := List.getElem_of_mem hz
    rw [List.length_take, List.length_drop] at hj
    have h5 := hget (a + j) (by omega) (by omega)
    rw [show a + j - a = j by omega] at h5
    have h6 : ((zs.drop a).take (i - a))[j]? = some (zs.getD (a + j) 0) := by
      rw [List.getElem?_take_of_lt (by omega)]; exact h5
    rw [List.getElem?_eq_getElem (by rw [List.length_take, List.length_drop]; omega)] at h6
    rw [Option.some.inj h6]
    exact decide_eq_true (h4 (a + j) (by omega) (by omega))
theorem text_hit {zs : List Int} {a i : Nat} (h : HitAt zs a zs.length i) : textFrom zs a = some ((zs.drop a).take (i - a)) := by
  obtain ⟨h1, h2⟩ := take_while_hit h
  rw [textFrom, if_pos h1, h2]
theorem text_nohit {zs : List Int} {a : Nat} (h : NoHit zs a zs.length) : textFrom zs a = none := by
  rw [textFrom, if_neg]
  intro h0
  obtain ⟨j, e⟩ := List.getElem?_of_mem h0
  have hj : j < zs.length - a := by have := (List.getElem?_eq_some_iff.1 e).1; rwa [List.length_drop] at this
  rw [List.getElem?_drop, List.getElem?_eq_getElem (by omega)] at e
  refine h (a + j) (by omega) (by omega) ?_
  simp [List.getD, List.getElem?_eq_getElem (show a + j < zs.length by omega), Option.some.inj e]

/-- What the document's Text answers: the bytes up to the next nought, or that there is none. -/
def TextOut (e : Ending) (o : Option (List Int)) : Prop := e = .returned (.tuple #[.string (match o with | none => ByteArray.empty | some s => strOfNums s), .bool o.isSome])
end Go.Proofs.Ytapfcbcojnplaaa

/-! Layer 3: which property, or which node right below, has a name. -/
namespace Go.Proofs.Ytapfcbcojnplaaa
open Go.RowKit
set_option linter.unusedVariables false
set_option linter.unusedSimpArgs false

set_option maxHeartbeats 1000000 in
theorem reffind_any (n : Nd) (s : ByteArray) (w : World) (hin : n.In w w.heap.size) (r : Int) (hr : r = idxOf (n.props.map PV.name) s) :
    Calls Try.prog 17 #[n.val, .string s] w fun e w' => e = .returned (.int .i64 r) ∧ Below w.heap.size w w' := by
  obtain ⟨nm, pa, pc, ps, ka, kc, ks⟩ := n
  have HI := Lib.hid hin
  have HR := Lib.hid hr
  obtain ⟨hl, hm⟩ : ps.length ≤ pc ∧ pc ≤ 9223372036854775807 := hin.plen
  have HM := Lib.hid (show (ps.map PV.name).length = ps.length from List.length_map _)
  clear hin hr
  show Calls _ _ #[.agg #[.string nm, .slice pa ps.length pc, .slice ka ks.length kc], .string s] _ _
  go_enter Try.func17, Try.ntmps17
  go_wp2_with fail
  go_loop [9] (fun i => ∃ k : Nat, k ≤ ps.length ∧ i = .int .i64 k ∧ Missed (ps.map PV.name) s k) (fun i => ps.length - (intOf i).toNat)
  case atStart => exact ⟨0, Nat.zero_le _, rfl, Missed.zero _ _⟩
  case round =>
    obtain ⟨k, hk, rfl, hmiss⟩ := hrel
    have HA := Lib.hid hmiss
    clear hmiss
    by_cases hlt : k < ps.length
    · have HB := Lib.hid ((Below.refl w.heap.size w).alloc (Nat.le_refl _) (.cells #[Value.string nm, .slice pa ps.length pc, .slice ka ks.length kc] 27))
      obtain ⟨b, o, e, hb, c0, c1⟩ := (HI.out.under HB.out).pcell (i := k) hlt
      obtain rfl : pa = _ := e
      replace c0 : _ = some (Value.string ps[k].name) := c0
      clear c1
      have hxm : Hid ((ps.map PV.name)[k]'(by rw [HM.out]; exact hlt) = ps[k].name) := List.getElem_map _
      obtain ⟨x, hx⟩ : ∃ x, x = ps[k].name := ⟨_, rfl⟩
      rw [← hx] at c0 hxm
      clear hx
      by_cases hxs : x = s
      · subst hxs
        obtain rfl : r = k := by rw [HR.out]; exact HA.out.hit _ hxm.out
        go_wp2
        go_ret
        exact ⟨rfl, HB.out⟩
      · have hne := str_ne hxs
        have HF := Lib.hid (HA.out.succ (by rw [HM.out]; exact hlt) (by rw [hxm.out]; exact hxs))
        clear hxs
        go_wp2
        go_round
        case rel => exact ⟨k + 1, by omega, by go_num, HF⟩
        case measure => simp [intOf]; omega
    · obtain rfl : r = -1 := by rw [HR.out]; exact HA.out.all (by rw [HM.out]; exact hlt)
      go_wp2
      go_ret
      exact ⟨rfl, (Below.refl _ _).alloc (Nat.le_refl _) _⟩
end Go.Proofs.Ytapfcbcojnplaaa

/-! What a value says: cells, a text, texts, the one cell of a property: the document's answers. -/
namespace Go.Proofs.Ytapfcbcojnplaaa
open Go.RowKit
set_option linter.unusedVariables false
set_option linter.unusedSimpArgs false

theorem info_u32 : (Try.prog.info? 22).map (fun i => (i.zero, i.size, i.bytes)) = some (some (.int .u32 0), 1, 4) := by kernel_rfl
theorem info_str : (Try.prog.info? 9).map (fun i => (i.zero, i.size, i.bytes)) = some (some (.string ⟨#[]⟩), 1, 16) := by kernel_rfl

/-- append of one value, laid by the call itself. -/
theorem app_lit {t e : TypeId} {i0 : TypeInfo} {z : Value} {bytes : Nat} (ht : Try.prog.underlying t = some (.slice e)) (hi : Try.prog.info? e = some i0) (hz : i0.zero = some z) (hs1 : i0.size = 1) (hby : i0.bytes = bytes) (hzs : z.cells.size = 1)
    {w : World} {B n : Nat} {v : Value} {xs : List Value} (h : w.ownsRow B e 1 v n xs) (x : Value) (hx : x.oneCell' = true) (hbig : (n + 1) * bytes ≤ 140737488355328) (hlen : n + 1 ≤ 140737488355328) (hB : B ≤ w.heap.size) (ty : TypeId) :
    ∃ A' c' w', (Builtin.append_ #[t, t] ty #[v, .slice (some ⟨w.heap.size, 0, none⟩) 1 1]).run Try.prog (w.alloc (.cells #[x] e)) = .ok (.slice A' (n + 1) c') w' ∧ w'.ownsRow B e 1 (.slice A' (n + 1) c') (n + 1) (xs ++ [x]) ∧ Below B w w' := by
  have hl : xs.length = n := by have := h.1; omega
  have h1 : (w.alloc (.cells #[x] e)).ownsRow B e 1 v xs.length xs := by rw [hl]; exact h.alloc _
  have hc : Cel (w.alloc (.cells #[x] e)) (w.heap.size + 1) (some ⟨w.heap.size, 0, none⟩) 1 [x] := ⟨rfl, fun _ => ⟨w.heap.size, 0, rfl, Nat.lt_succ_self _, fun i hi => by
    obtain rfl : i = 0 := by omega
    exact World.cell?_alloc_new _ _ _ _⟩⟩
  obtain ⟨v', w', r, g1, g2, g3⟩ := app_cel ht hi hz hs1 hby hzs 1 h1 hc (fun u hu => by rw [List.mem_singleton.1 hu]; exact hx) (by rw [hl]; simpa using hbig) (by rw [hl]; simpa using hlen) (by simp; omega) ty
  rw [List.length_append, hl] at g1
  have g1' : w'.ownsRow B e 1 v' (n + 1) (xs ++ [x]) := g1
  obtain ⟨A', c', rfl, _⟩ := owned_cel g1'
  exact ⟨A', c', w', r, g1', ((Below.refl B w).alloc hB (.cells #[x] e)).grown g2 (by simp; omega) (fun q hq => (h1.lt q hq).1)⟩

/-- The cells of a value. -/
def cellV (zs : List Int) (i : Nat) : Value := .int .u32 (numTo zs (4 * i) 4)
def cellRow (zs : List Int) (k : Nat) : List Value := (List.range k).map (cellV zs)
theorem cellRow_next (zs : List Int) (k : Nat) : cellRow zs (k + 1) = cellRow zs k ++ [cellV zs k] := by
  unfold cellRow; rw [List.range_succ, List.map_append]; rfl
def CellsOut (w w' : World) (n : Nat) (zs : List Int) (e : Ending) : Prop :=
  (n % 4 ≠ 0 → e = .returned (.tuple #[.slice none 0 0, .int .i64 4])) ∧ (n % 4 = 0 → ∃ A c, e = .returned (.tuple #[.slice A (n / 4) c, .int .i64 0]) ∧ w'.ownsRow w.heap.size 22 1 (.slice A (n / 4) c) (n / 4) (cellRow zs (n / 4)))

theorem numTo_u32 {w : World} {B n : Nat} {A : Option Addr} {zs : List Int} (hs : Shows w B A n zs) (a : Nat) : 0 ≤ numTo zs a 4 ∧ numTo zs a 4 ≤ 4294967295 := by
  have h := numTo_bound zs a hs.byte 4
  have e : (256 : Int) ^ 4 = 4294967296 := by decide
  omega

set_option maxRecDepth 20000 in
set_option maxHeartbeats 4000000 in
theorem refcells_any (A : Option Addr) (n c : Nat) (zs : List Int) (w : World) (hs : Shows w w.heap.size A n zs) (hn : n ≤ 140737488351232) (hnc : n ≤ c) (hc : c ≤ 9223372036854775807) :
    Calls Try.prog 27 #[.slice A n c] w fun e w' => CellsOut w w' n zs e ∧ Below w.heap.size w w' := by
  have HS := Lib.hid hs
  have HC := Lib.hid (And.intro hnc hc)
  clear hs hnc hc
  by_cases h4 : n % 4 = 0
  · have q1 : (((n : Int) % 4) != 0) = false := by rw [bne_eq_false_iff_eq]; omega
    have H4 := Lib.hid h4
    have info := info_any info_u32
    clear h4
    go_enter Try.func27, Try.ntmps27
    go_wp2_with fail
    go_loopw [4, 5] (fun out i wr => ∃ k a : Nat, Hid (a = 4 * k ∧ a ≤ n) ∧ i = .int .i64 a ∧ (∃ Ao co, out = .slice Ao k co ∧ wr.ownsRow w.heap.size 22 1 (.slice Ao k co) k (cellRow zs k)) ∧ Below w.heap.size w wr) (fun _ i _ => n - (intOf i).toNat)
    case atStart => exact ⟨0, 0, Lib.hid ⟨rfl, Nat.zero_le _⟩, rfl, ⟨none, 0, rfl, World.ownsRow_nil _ _ _ _⟩, Below.refl _ _⟩
    case round =>
      obtain ⟨k, a, HA, rfl, ⟨Ao, co, rfl, hown⟩, hb⟩ := hrel
      have HB := Lib.hid hb
      have HO := Lib.hid hown
      by_cases hlt : a < n
      · have ha4 : a + 4 ≤ n := by have := HA.out; have := H4.out; omega
        have CN := Lib.hid (number_yes A n c 4 a zs wr w.heap.size (HS.out.below hb) ha4 (by omega) (by omega) (by omega))
        have hnum := numTo_u32 HS.out a
        obtain ⟨x, hx⟩ : ∃ x, numTo zs a 4 = x := ⟨_, rfl⟩
        rw [hx] at CN hnum
        have HX : Hid (cellV zs k = .int .u32 x) := Lib.hid (by rw [← hx, cellV, ← HA.out.1])
        have hcv : IntKind.u32.wrap x = x := IntWalk.u32_in _ hnum
        obtain ⟨i0, hi, hz, hs1, hby⟩ := info
        obtain ⟨A', c', w', r, g1, g2⟩ := app_lit Try.underlying76 hi hz hs1 hby rfl hown (.int .u32 x) rfl (by have := HA.out; omega) (by have := HA.out; omega) hb.size 76
        have HR := Lib.hid (And.intro g1 (hb.trans g2))
        clear hx hi hz hs1 hby g1 g2 hown hb
        go_wp2_with fail
        refine CN.out.mono ?_
        rintro e w2 ⟨rfl, rfl⟩
        go_wp2_with (at_builtin; refine Lib.wpList_append_run_sl _ rfl _ _ _ rfl _ _ rfl rfl r ?_)
        go_roundw
        case rel => exact ⟨k + 1, a + 4, Lib.hid ⟨by have := HA.out; omega, ha4⟩, by go_num, ⟨A', c', rfl, by rw [cellRow_next, HX.out]; exact HR.out.1⟩, HR.out.2⟩
        case measure => simp [intOf]; omega
      · have HE : Hid (k = n / 4) := Lib.hid (by have := HA.out; omega)
        clear hown hb
        go_wp2
        go_ret2
        exact ⟨⟨fun h => absurd H4.out h, fun _ => ⟨Ao, co, by rw [← HE.out]; rfl, by rw [← HE.out]; exact HO.out⟩⟩, HB.out⟩
  · have q1 : (((n : Int) % 4) != 0) = true := by rw [bne_iff_ne]; omega
    have H4 := Lib.hid h4
    clear h4
    go_enter Try.func27, Try.ntmps27
    go_wp2
    go_ret2
    exact ⟨⟨fun _ => rfl, fun h => absurd h H4.out⟩, Below.refl _ _⟩

/-- The text that a value is. -/
noncomputable def textV (zs : List Int) : Option (List Int) := match textFrom zs 0 with
  | none => none
  | some s => if s.length + 1 = zs.length then some s else none
def TextVOut (e : Ending) (o : Option (List Int)) : Prop := e = .returned (.tuple (match o with | none => #[.string ⟨#[]⟩, .int .i64 4] | some s => #[.string (strOfNums s), .int .i64 0]))
theorem strOf_size6 (s : List Int) : (strOfNums s).size = s.length := by
  show (strOfNums s).data.toList.length = s.length
  rw [strOfNums_data, List.length_map]

/-! ### Texts -/
noncomputable def textsGo (zs : List Int) : Nat → Nat → List (List Int)
  | 0, _ => []
  | f + 1, a => if a < zs.length then (match textFrom zs a with | none => [] | some s => s :: textsGo zs f (a + s.length + 1)) else []
/-- The texts that a value is. -/
noncomputable def textsV (zs : List Int) : Option (List (List Int)) := if 0 < zs.length ∧ zs.getD (zs.length - 1) 0 ≠ 0 then none else some (textsGo zs zs.length 0)
abbrev strRow (l : List (List Int)) : List Value := l.map fun s => Value.string (strOfNums s)
def TextsOut (w w' : World) (zs : List Int) (e : Ending) : Prop :=
  (textsV zs = none → e = .returned (.tuple #[.slice none 0 0, .int .i64 4])) ∧ (∀ l, textsV zs = some l → ∃ A c, e = .returned (.tuple #[.slice A l.length c, .int .i64 0]) ∧ w'.ownsRow w.heap.size 9 1 (.slice A l.length c) l.length (strRow l))
theorem text_there {zs : List Int} {a : Nat} (h : zs.getD (zs.length - 1) 0 = 0) (ha : a < zs.length) : ∃ s, textFrom zs a = some s := by
  rw [textFrom, if_pos]
  · exact ⟨_, rfl⟩
  · refine List.mem_of_getElem? (i := zs.length - 1 - a) ?_
    rw [List.getElem?_drop, show a + (zs.length - 1 - a) = zs.length - 1 by omega, List.getElem?_eq_getElem (by omega)]
    simp only [List.getD, List.getElem?_eq_getElem (show zs.length - 1 < zs.length by omega), Option.getD_some] at h
    rw [h]

end Go.Proofs.Ytapfcbcojnplaaa

/-! The one cell of a node's property: the document's answer. -/
namespace Go.Proofs.Ytapfcbcojnplaaa
open Go.RowKit
set_option linter.unusedVariables false
set_option linter.unusedSimpArgs false

theorem idx_or : ∀ (l : List ByteArray) (s : ByteArray), idxOf l s = -1 ∨ ∃ k : Nat, ∃ h : k < l.length, idxOf l s = (k : Int) ∧ l[k] = s
  | [], s => .inl rfl
  | x :: l, s => by
    by_cases hx : x = s
    · exact .inr ⟨0, by simp, by rw [idxOf, if_pos hx]; rfl, by simpa using hx⟩
    · rcases idx_or l s with h | ⟨k, h1, h2, h3⟩
      · exact .inl (by rw [idxOf, if_neg hx, h]; rfl)
      · exact .inr ⟨k + 1, by simpa using h1, by rw [idxOf, if_neg hx, h2, if_neg (by omega)]; omega, by simpa using h3⟩

/-- The one cell of a node's property: the cell, whether it is there, the error. -/
def oneV (n : Nd) (s : ByteArray) : Int × Bool × Int :=
  match n.props.find? fun p => decide (p.name = s) with
  | none => (0, false, 0)
  | some p => if p.zs.length = 4 then (numTo p.zs 0 4, true, 0) else (0, false, 4)
def oneVal (o : Int × Bool × Int) : Value := .tuple #[.int .u32 o.1, .bool o.2.1, .int .i64 o.2.2]
theorem find_none : ∀ {ps : List PV} {s : ByteArray}, idxOf (ps.map PV.name) s = -1 → ps.find? (fun p => decide (p.name = s)) = none
  | [], _, _ => rfl
  | p :: r, s, h => by
    rw [List.map_cons, idxOf] at h
    by_cases hp : p.name = s
    · rw [if_pos hp] at h; omega
    · rw [if_neg hp] at h
      rw [List.find?_cons_of_neg (by simpa using hp)]
      refine find_none ?_
      rcases idx_or (r.map PV.name) s with h1 | ⟨k, _, h2, _⟩
      · exact h1
      · rw [h2, if_neg (by omega)] at h; omega
theorem find_at : ∀ {ps : List PV} {s : ByteArray} {k : Nat} (hk : k < ps.length), idxOf (ps.map PV.name) s = (k : Int) → ps.find? (fun p => decide (p.name = s)) = some ps[k]
  | [], _, _, hk, _ => absurd hk (by simp)
  | p :: r, s, k, hk, h => by
    rw [List.map_cons, idxOf] at h
    by_cases hp : p.name = s
    · rw [if_pos hp] at h
      obtain rfl : k = 0 := by omega
      rw [List.find?_cons_of_pos (by simpa using hp)]; rfl
    · rw [if_neg hp] at h
      rw [List.find?_cons_of_neg (by simpa using hp)]
      by_cases h0 : idxOf (r.map PV.name) s < 0
      · rw [if_pos h0] at h; omega
      · rw [if_neg h0] at h
        obtain ⟨j, rfl⟩ : ∃ j, k = j + 1 := ⟨k - 1, by omega⟩
        exact find_at (by simpa using hk) (by omega)
theorem prop_heft {n : Nd} {k : Nat} (h : k < n.props.length) : n.props[k].zs.length ≤ heftN n := by
  have e : heftN n = 16 + n.name.size + (n.props.map heftP).sum + heftL n.kids := by cases n; rw [heftN]; rfl
  have h1 := heftP_next n.props k h
  have h2 := heftP_take n.props (k + 1)
  have e2 : heftP n.props[k] = 16 + n.props[k].name.size + n.props[k].zs.length := rfl
  omega

set_option maxRecDepth 20000 in
set_option maxHeartbeats 4000000 in
theorem refone_all (n : Nd) (s : ByteArray) (w : World) (hin : n.In w w.heap.size) :
    Calls Try.prog 16 #[n.val, .string s] w fun e w' => e = .returned (oneVal (oneV n s)) ∧ Below w.heap.size w w' := by
  obtain ⟨r, hr⟩ : ∃ r, r = idxOf (n.props.map PV.name) s := ⟨_, rfl⟩
  have CF := Lib.hid (fun W hW => reffind_any n s W hW r hr)
  have HI := Lib.hid hin
  have HF : Hid ((r < 0 ∧ oneV n s = (0, false, 0)) ∨ ∃ k : Nat, ∃ h : k < n.props.length, r = (k : Int) ∧ oneV n s = if n.props[k].zs.length = 4 then (numTo n.props[k].zs 0 4, true, 0) else (0, false, 4)) := Lib.hid (by
    rcases idx_or (n.props.map PV.name) s with h | ⟨k, h1, h2, _⟩
    · exact .inl ⟨by omega, by rw [oneV, find_none h]⟩
    · rw [List.length_map] at h1
      exact .inr ⟨k, h1, hr.trans h2, by rw [oneV, find_at h1 h2]⟩)
  have HZ := Lib.hid (fun k (h : k < n.props.length) => (hin.prop (List.getElem_mem h)).1.2)
  obtain ⟨O, hO⟩ : ∃ O, oneV n s = O := ⟨_, rfl⟩
  rw [hO] at HF ⊢
  clear hr hin hO
  obtain ⟨nm, pa, pc, ps, ka, kc, ks⟩ := n
  simp only [Nd.val, Nd.pv, Nd.kv, Nd.name, Nd.pa, Nd.pc, Nd.props, Nd.ka, Nd.kc, Nd.kids] at CF HF HZ ⊢
  have HB := Lib.hid ((Below.refl w.heap.size w).alloc (Nat.le_refl _) (.cells #[Value.string nm, .slice pa ps.length pc, .slice ka ks.length kc] 27))
  go_enter Try.func16, Try.ntmps16
  go_wp2_with fail
  refine (CF.out _ (Nd.In.more HB.out.size (HI.out.under HB.out))).mono ?_
  rintro e w1 ⟨rfl, hb⟩
  have HB1 := Lib.hid (HB.out.trans (hb.mono HB.out.size))
  have x1 := (hb.cell (p := ⟨w.heap.size, 1, none⟩) (by simp)).trans (World.cell?_alloc_new _ _ _ _)
  replace x1 : _ = some (Value.slice pa ps.length pc) := x1
  clear hb
  rcases HF.out with ⟨hr0, hv⟩ | ⟨k, hk, hrk, hv⟩
  · subst hv
    clear HF x1
    go_wp2
    go_ret3
    exact ⟨rfl, HB1.out⟩
  · subst hrk
    obtain ⟨b, o, e, _, _, c1⟩ := (HI.out.under HB1.out).pcell (i := k) hk
    obtain rfl : pa = _ := e
    replace c1 : _ = some (Value.slice ps[k].addr ps[k].zs.length ps[k].cap) := c1
    have hp := (HI.out.under HB1.out).prop (p := ps[k]) (List.getElem_mem hk)
    have hz := HZ.out k hk
    have CC := refcells_any ps[k].addr ps[k].zs.length ps[k].cap ps[k].zs w1 (hp.2.1.more HB1.out.size) (by omega) hp.2.2.1 hp.2.2.2
    obtain ⟨P, hP⟩ : ∃ P, ps[k] = P := ⟨_, rfl⟩
    have hv' : O = if P.zs.length = 4 then (numTo P.zs 0 4, true, 0) else (0, false, 4) := by rw [← hP]; exact hv
    rw [hP] at c1 CC hz
    obtain ⟨N, hN⟩ : ∃ N, P.zs.length = N := ⟨_, rfl⟩
    rw [hN] at c1 CC hz hv'
    have HV := Lib.hid hv'
    have hpl : ps.length ≤ pc ∧ pc ≤ 9223372036854775807 := HI.out.plen
    obtain ⟨hpl1, hpl2⟩ := hpl
    have HCC := Lib.hid CC
    clear HF hv hv' hp CC hP hN
    go_wp2_with fail
    refine HCC.out.mono ?_
    rintro e w2 ⟨⟨q1, q2⟩, hb⟩
    have HB2 := Lib.hid (HB1.out.trans (hb.mono HB1.out.size))
    clear hb c1 x1
    by_cases h4 : N % 4 = 0
    · obtain ⟨A, c, rfl, hrow⟩ := q2 h4
      obtain ⟨A', c', e, hcel, _, _, _⟩ := owned_cel hrow
      simp only [Value.slice.injEq, true_and] at e
      obtain ⟨rfl, rfl⟩ := e
      obtain ⟨M, hM⟩ : ∃ M, N / 4 = M := ⟨_, rfl⟩
      rw [hM] at hcel
      rw [hM]
      by_cases h1 : M = 1
      · subst h1
        obtain ⟨bc, oc, rfl, _, hc0⟩ := hcel.2 (by omega)
        have d0 := hc0 0 (by omega)
        rw [Nat.add_zero] at d0
        replace d0 : w2.cell? ⟨bc, oc, none⟩ = some (Value.int .u32 (numTo P.zs 0 4)) := d0
        obtain ⟨v, hv⟩ : ∃ v, numTo P.zs 0 4 = v := ⟨_, rfl⟩
        have HO : Hid (O = (v, true, 0)) := Lib.hid (by rw [HV.out, if_pos (by omega), hv])
        rw [hv] at d0
        clear q1 q2 hrow hcel hc0 hv hM h4
        go_wp2
        go_ret3
        exact ⟨by rw [HO.out]; rfl, HB2.out⟩
      · have k1 : ((M : Int) != 1) = true := by rw [bne_iff_ne]; omega
        have HO : Hid (O = (0, false, 4)) := Lib.hid (by rw [HV.out, if_neg (by omega)])
        clear q1 q2 hrow hcel hM h4 h1
        go_wp2
        go_ret3
        exact ⟨by rw [HO.out]; rfl, HB2.out⟩
    · obtain rfl := q1 h4
      have HO : Hid (O = (0, false, 4)) := Lib.hid (by rw [HV.out, if_neg (by omega)])
      clear q1 q2 h4
      go_wp2
      go_ret3
      exact ⟨by rw [HO.out]; rfl, HB2.out⟩
theorem refone_any (n : Nd) (s : ByteArray) (w : World) (hin : n.In w w.heap.size) (hz : heftN n ≤ 1073741824) :
    Calls Try.prog 16 #[n.val, .string s] w fun e w' => e = .returned (oneVal (oneV n s)) ∧ Below w.heap.size w w' := refone_all n s w hin
end Go.Proofs.Ytapfcbcojnplaaa

/-! Layer 14, IrqSelf: out of what the program's Through answers. -/
namespace Go.Proofs.Ytapfcbcojnplaaa
open Go.RowKit
set_option linter.unusedVariables false
set_option linter.unusedSimpArgs false

def icName : ByteArray := ⟨#[105, 110, 116, 101, 114, 114, 117, 112, 116, 45, 99, 111, 110, 116, 114, 111, 108, 108, 101, 114]⟩
def icellsName : ByteArray := ⟨#[35, 105, 110, 116, 101, 114, 114, 117, 112, 116, 45, 99, 101, 108, 108, 115]⟩
/-- Is a node a controller? -/
def ctrlB (x : Nd) : Bool := decide (0 ≤ idxOf (x.props.map PV.name) icName) && (oneV x icellsName).2.1 && decide ((oneV x icellsName).2.2 = 0) && decide ((oneV x icellsName).1 = 1)
def Awake14 : Prop := ∀ w : World, Calls Try.prog 4 #[] w fun e w' => e = .returned (.bool true) ∧ Below w.heap.size w w'
/-- What the program's Through answers, of a formed tree and a place of 40 at most. -/
def ThroughOK : Prop := ∀ (t : Tr) (z : List Int) (A : Option Addr) (n c : Nat) (ln : Int) (w : World), t.In w w.heap.size → Cel w w.heap.size A n (intsZ z) → n ≤ c → c ≤ 9223372036854775807 → heftN t.root ≤ 134217728 → 0 ≤ ln ∧ ln ≤ 4294967295 → n ≤ 1073741824 → checkE t = 0 → Calls Try.prog 6 #[t.val, .agg #[.slice A n c, .int .u32 ln]] w fun e w' =>
  (∃ (z' : List Int) (A' : Option Addr) (m c' : Nat) (ln' er : Int), e = .returned (.tuple #[.agg #[.slice A' m c', .int .u32 ln'], .int .i64 er]) ∧ (er = 0 → (Cel w' w'.heap.size A' m (intsZ z') ∧ m ≤ c' ∧ c' ≤ 9223372036854775807 ∧ m ≤ 1073741824 ∧ 0 ≤ ln' ∧ ln' ≤ 4294967295) ∧ ∃ x, nodeZ t.root z' = some x ∧ ctrlB x = true) ∧ (∀ x, nodeZ t.root z = some x → ctrlB x = true → er = 0 ∧ z' = z ∧ ln' = ln)) ∧ Below w.heap.size w w'

set_option maxHeartbeats 2000000 in
/-- The document's Controller. -/
theorem refctrl_any (n : Nd) (w : World) (hin : n.In w w.heap.size) (hh : heftN n ≤ 1073741824) : Calls Try.prog 8 #[n.val] w fun e w' => e = .returned (.bool (ctrlB n)) ∧ Below w.heap.size w w' := by
  obtain ⟨r, hr⟩ : ∃ r, idxOf (n.props.map PV.name) icName = r := ⟨_, rfl⟩
  obtain ⟨O, hO⟩ : ∃ O, oneV n icellsName = O := ⟨_, rfl⟩
  have C1 := Lib.hid (fun W (hW : Below w.heap.size w W) => refone_any n icellsName W ((hin.under hW).more hW.size) hh)
  have C2 := Lib.hid (fun W (hW : Below w.heap.size w W) => reffind_any n icName W ((hin.under hW).more hW.size) r hr.symm)
  obtain ⟨B, hB⟩ : ∃ B, ctrlB n = B := ⟨_, rfl⟩
  rw [hB]
  have HBV : Hid (B = (decide (0 ≤ r) && O.2.1 && decide (O.2.2 = 0) && decide (O.1 = 1))) := Lib.hid (by rw [← hB, ctrlB, hr, hO])
  rw [hO] at C1
  obtain ⟨v, ok, er⟩ := O
  simp only [oneVal] at C1 HBV
  clear hr hO hB hin hh
  obtain ⟨nm, pa, pc, ps, ka, kc, ks⟩ := n
  simp only [Nd.val, Nd.pv, Nd.kv, Nd.name, Nd.pa, Nd.pc, Nd.props, Nd.ka, Nd.kc, Nd.kids, icName, icellsName] at C1 C2 ⊢
  obtain ⟨V, hV⟩ : ∃ V, w.alloc (.cells #[.string nm, .slice pa ps.length pc, .slice ka ks.length kc] 27) = V := ⟨_, rfl⟩
  have bV : Below w.heap.size w V := by rw [← hV]; exact (Below.refl _ _).alloc (Nat.le_refl _) _
  have HX := Lib.hid (fun (W : World) (h : Below V.heap.size V W) => And.intro ((h.cell (p := ⟨w.heap.size, 0, none⟩) (by rw [← hV]; simp)).trans (show V.cell? ⟨w.heap.size, 0, none⟩ = some (.string nm) by rw [← hV]; exact World.cell?_alloc_new _ _ _ _)) (And.intro ((h.cell (p := ⟨w.heap.size, 1, none⟩) (by rw [← hV]; simp)).trans (show V.cell? ⟨w.heap.size, 1, none⟩ = some (.slice pa ps.length pc) by rw [← hV]; exact World.cell?_alloc_new _ _ _ _)) ((h.cell (p := ⟨w.heap.size, 2, none⟩) (by rw [← hV]; simp)).trans (show V.cell? ⟨w.heap.size, 2, none⟩ = some (.slice ka ks.length kc) by rw [← hV]; exact World.cell?_alloc_new _ _ _ _))))
  have HBV0 := Lib.hid bV
  obtain ⟨x0, x1, x2⟩ := HX.out V (Below.refl _ _)
  clear bV
  go_enter Try.func8, Try.ntmps8
  go_wp2_with fail
  refine (C1.out _ HBV0.out).mono ?_
  rintro e w1 ⟨rfl, hb⟩
  have HB1 := Lib.hid (HBV0.out.trans (hb.mono HBV0.out.size))
  clear hV x0 x1 x2
  obtain ⟨x0, x1, x2⟩ := HX.out w1 hb
  clear hb
  go_wp2_with fail
  refine (C2.out _ HB1.out).mono ?_
  rintro e w2 ⟨rfl, hb⟩
  have HB2 := Lib.hid (HB1.out.trans (hb.mono HB1.out.size))
  clear hb x0 x1 x2 HX C1 C2
  by_cases h0 : 0 ≤ r
  rotate_left
  · have q0 : decide ((0 : Int) ≤ r) = false := decide_eq_false h0
    have q0' : decide (r ≥ (0 : Int)) = false := decide_eq_false h0
    obtain rfl : B = false := by rw [HBV.out, q0]; rfl
    clear h0
    go_wp2
    go_ret
    exact ⟨rfl, HB2.out⟩
  have q0 : decide ((0 : Int) ≤ r) = true := decide_eq_true h0
  have q0' : decide (r ≥ (0 : Int)) = true := decide_eq_true h0
  cases ok
  · obtain rfl : B = false := by rw [HBV.out, q0]; rfl
    clear h0
    go_wp2
    go_ret
    exact ⟨rfl, HB2.out⟩
  by_cases he : er = 0
  rotate_left
  · have q1 : (er == 0) = false := by rw [beq_eq_false_iff_ne]; exact he
    obtain rfl : B = false := by rw [HBV.out, q0, decide_eq_false he]; rfl
    clear h0 he
    go_wp2
    go_ret
    exact ⟨rfl, HB2.out⟩
  subst he
  by_cases hv : v = 1
  · subst hv
    obtain rfl : B = true := by rw [HBV.out, q0]; rfl
    clear h0
    go_wp2
    go_ret
    exact ⟨rfl, HB2.out⟩
  · have q1 : (v == 1) = false := by rw [beq_eq_false_iff_ne]; exact hv
    obtain rfl : B = false := by rw [HBV.out, q0, decide_eq_false hv]; rfl
    clear h0 hv
    go_wp2
    go_ret
    exact ⟨rfl, HB2.out⟩

theorem nodeZ_nats : ∀ (z : List Int) {n x : Nd}, nodeZ n z = some x → ∃ p : List Nat, z = p.map Int.ofNat
  | [], _, _, _ => ⟨[], rfl⟩
  | i :: r, n, x, h => by
    rw [nodeZ] at h
    by_cases hi : i < 0
    · rw [if_pos hi] at h; cases h
    rw [if_neg hi] at h
    cases hk : n.kids[i.toNat]? with
    | none => rw [hk] at h; cases h
    | some k =>
      rw [hk] at h
      obtain ⟨p, rfl⟩ := nodeZ_nats r h
      exact ⟨i.toNat :: p, by simp; omega⟩

/-- What few answers. -/
def FewOut (n : Nat) (E : Int) (e : Ending) : Prop := ∃ r : Bool, e = .returned (.bool r) ∧ (r = true → n ≤ 40 ∧ E = 0)
theorem nodeZ_heftI : ∀ (p : List Int) {n x : Nd}, nodeZ n p = some x → heftN x ≤ heftN n
  | [], n, x, h => by rw [nodeZ] at h; rw [Option.some.inj h]; exact Nat.le_refl _
  | i :: p, n, x, h => by
    rw [nodeZ] at h
    by_cases hi : i < 0
    · rw [if_pos hi] at h; cases h
    rw [if_neg hi] at h
    cases hk : n.kids[i.toNat]? with
    | none => rw [hk] at h; cases h
    | some k =>
      rw [hk] at h
      obtain ⟨hlt, rfl⟩ := List.getElem?_eq_some_iff.1 hk
      have h1 := nodeZ_heftI p h
      have h2 := heftL_next n.kids _ hlt
      have h3 := heftL_take n.kids (i.toNat + 1)
      have h4 : heftN n = 16 + n.name.size + (n.props.map heftP).sum + heftL n.kids := by cases n; rw [heftN]; rfl
      omega
set_option maxHeartbeats 2000000 in
theorem few14_any (t : Tr) (A : Option Addr) (n c : Nat) (w : World) (hin : t.In w w.heap.size) : Calls Try.prog 5 #[t.val, .slice A n c] w fun e w' => FewOut n (checkE t) e ∧ Below w.heap.size w w' := by
  have C0 := Lib.hid (fun W (hW : Below w.heap.size w W) => few_any t W (hin.on hW))
  obtain ⟨E, hE⟩ : ∃ E, checkE t = E := ⟨_, rfl⟩
  have CK := Lib.hid (fun W (hW : Below w.heap.size w W) => refcheck_any t W (hin.on hW) E hE)
  rw [hE]
  clear hin hE
  obtain ⟨boot, ra, rc, rs, ⟨nm, pa, pc, ps, ka, kc, ks⟩⟩ := t
  simp only [Tr.val, Tr.rv, Nd.val, Nd.pv, Nd.kv, Nd.name, Nd.pa, Nd.pc, Nd.props, Nd.ka, Nd.kc, Nd.kids] at C0 CK ⊢
  have HB := Lib.hid ((Below.refl w.heap.size w).alloc (Nat.le_refl _) (.cells #[.int .u32 boot, .slice ra rs.length rc, .string nm, .slice pa ps.length pc, .slice ka ks.length kc] 29))
  have BX := Lib.hid (box6_cells w (.int .u32 boot) (.slice ra rs.length rc) (.string nm) (.slice pa ps.length pc) (.slice ka ks.length kc))
  obtain ⟨b0, b1, b2, b3, b4⟩ := BX.out _ (Below.refl _ _)
  go_enter Try.func5, Try.ntmps5
  go_wp2_with fail
  refine (C0.out _ HB.out).mono ?_
  rintro e w1 ⟨⟨r, rfl⟩, hb⟩
  have HB1 := Lib.hid (HB.out.trans (hb.mono HB.out.size))
  have HX1 := Lib.hid (hb.mono (B' := w.heap.size + 1) (by simp))
  clear hb b0 b1 b2 b3 b4
  obtain ⟨b0, b1, b2, b3, b4⟩ := BX.out _ HX1.out
  cases r
  · clear b0 b1 b2 b3 b4
    go_wp2
    go_ret
    exact ⟨⟨false, rfl, fun h => by (cases h)⟩, HB1.out⟩
  by_cases h40 : n ≤ 40
  rotate_left
  · have q : decide ((n : Int) ≤ 40) = false := decide_eq_false (by omega)
    clear b0 b1 b2 b3 b4 h40
    go_wp2
    go_ret
    exact ⟨⟨false, rfl, fun h => by (cases h)⟩, HB1.out⟩
  have q : decide ((n : Int) ≤ 40) = true := decide_eq_true (by omega)
  go_wp2_with fail
  refine (CK.out _ HB1.out).mono ?_
  rintro e w2 ⟨rfl, hb⟩
  have HB2 := Lib.hid (HB1.out.trans (hb.mono HB1.out.size))
  have H40 := Lib.hid h40
  clear hb b0 b1 b2 b3 b4 h40
  by_cases hE : E = 0
  · subst hE
    go_wp2
    go_ret
    exact ⟨⟨true, rfl, fun _ => ⟨H40.out, rfl⟩⟩, HB2.out⟩
  · have q2 : (E == 0) = false := by rw [beq_eq_false_iff_ne]; exact hE
    clear hE
    go_wp2
    go_ret
    exact ⟨⟨false, rfl, fun h => by (cases h)⟩, HB2.out⟩

set_option maxRecDepth 20000 in
set_option maxHeartbeats 8000000 in
theorem irqSelf_true (hK : Awake14) (hT : ThroughOK) (t : Tr) (z : List Int) (A : Option Addr) (n c : Nat) (ln : Int) (w : World) (hin : t.In w w.heap.size) (hp : Cel w w.heap.size A n (intsZ z)) (hnc : n ≤ c) (hc : c ≤ 9223372036854775807) (hh : heftN t.root ≤ 134217728) (hln : 0 ≤ ln ∧ ln ≤ 4294967295) :
    Calls Try.prog 3 #[t.val, .agg #[.slice A n c, .int .u32 ln]] w fun e w' => e = .returned (.bool true) ∧ Below w.heap.size w w' := by
  have HK := Lib.hid hK
  have CF := Lib.hid (fun W (hW : Below w.heap.size w W) => few14_any t A n c W (hin.on hW))
  have CT := Lib.hid (fun (h40 : n ≤ 40) (hE : checkE t = 0) W (hW : Below w.heap.size w W) => hT t z A n c ln W (hin.on hW) (hp.on hW) hnc hc hh hln (by omega) hE)
  have CT2 := Lib.hid (fun (hE : checkE t = 0) (z' : List Int) (A' : Option Addr) (m c' : Nat) (l' : Int) W (hW : Below w.heap.size w W) (h1 : Cel W W.heap.size A' m (intsZ z')) (h2 : m ≤ c') (h3 : c' ≤ 9223372036854775807) (h4 : m ≤ 1073741824) (h5 : 0 ≤ l' ∧ l' ≤ 4294967295) => hT t z' A' m c' l' W (hin.on hW) h1 h2 h3 hh h5 h4 hE)
  have CG := Lib.hid (fun (z' : List Int) (A' : Option Addr) (m c' : Nat) W (hW : Below w.heap.size w W) (h1 : Cel W W.heap.size A' m (intsZ z')) (h2 : m ≤ c') (h3 : c' ≤ 9223372036854775807) => refget_any t z' A' m c' W (hin.on hW) h1 h2 h3)
  have hroot := hin.root
  obtain ⟨R, hR⟩ : ∃ R, t.root = R := ⟨_, rfl⟩
  rw [hR] at CT CT2 CG hroot hh
  have HRI := Lib.hid hroot
  have HH := Lib.hid hh
  clear hK hT hin hp hR hroot hh hln
  obtain ⟨E, hE⟩ : ∃ E, checkE t = E := ⟨_, rfl⟩
  rw [hE] at CF CT CT2
  clear hE
  obtain ⟨boot, ra, rc, rs, ⟨nm, pa, pc, ps, ka, kc, ks⟩⟩ := t
  simp only [Tr.val, Tr.rv, Nd.val, Nd.pv, Nd.kv, Nd.name, Nd.pa, Nd.pc, Nd.props, Nd.ka, Nd.kc, Nd.kids] at CF CT CT2 CG ⊢
  obtain ⟨V, hV⟩ : ∃ V, (w.alloc (.cells #[.int .u32 boot, .slice ra rs.length rc, .string nm, .slice pa ps.length pc, .slice ka ks.length kc] 29)).alloc (.cells #[.slice A n c, .int .u32 ln] 32) = V := ⟨_, rfl⟩
  have HB : Hid (Below w.heap.size w V) := Lib.hid (by rw [← hV]; exact ((Below.refl w.heap.size w).alloc (Nat.le_refl _) _).alloc (by simp) _)
  have HX : Hid (∀ W, Below (w.heap.size + 2) V W → (W.cell? ⟨w.heap.size, 0, none⟩ = some (.int .u32 boot) ∧ W.cell? ⟨w.heap.size, 1, none⟩ = some (.slice ra rs.length rc) ∧ W.cell? ⟨w.heap.size, 2, none⟩ = some (.string nm) ∧ W.cell? ⟨w.heap.size, 3, none⟩ = some (.slice pa ps.length pc) ∧ W.cell? ⟨w.heap.size, 4, none⟩ = some (.slice ka ks.length kc)) ∧ W.cell? ⟨w.heap.size + 1, 0, none⟩ = some (.slice A n c) ∧ W.cell? ⟨w.heap.size + 1, 1, none⟩ = some (.int .u32 ln)) := Lib.hid (fun W h => by
    obtain ⟨y0, y1, y2, y3, y4⟩ := box6_cells w (.int .u32 boot) (.slice ra rs.length rc) (.string nm) (.slice pa ps.length pc) (.slice ka ks.length kc) V (by rw [← hV]; exact (Below.refl _ _).alloc (by simp) _)
    have z : ∀ k, V.cell? ⟨w.heap.size + 1, k, none⟩ = #[Value.slice A n c, .int .u32 ln][k]? := fun k => by
      rw [← hV]
      have e1 : (w.alloc (.cells #[.int .u32 boot, .slice ra rs.length rc, .string nm, .slice pa ps.length pc, .slice ka ks.length kc] 29)).heap.size = w.heap.size + 1 := by simp
      rw [← e1]
      exact World.cell?_alloc_new _ _ _ _
    have k : ∀ (b i : Nat) {v : Value}, b < w.heap.size + 2 → V.cell? ⟨b, i, none⟩ = some v → W.cell? ⟨b, i, none⟩ = some v := fun b i v hb hv => (h.cell (p := ⟨b, i, none⟩) hb).trans hv
    exact ⟨⟨k _ _ (by omega) y0, k _ _ (by omega) y1, k _ _ (by omega) y2, k _ _ (by omega) y3, k _ _ (by omega) y4⟩, k _ _ (by omega) (z 0), k _ _ (by omega) (z 1)⟩)
  have HVS : Hid (V.heap.size = w.heap.size + 2) := Lib.hid (by rw [← hV]; simp)
  go_enter Try.func3, Try.ntmps3
  go_wp2_with fail
  clear hV
  refine (HK.out _).mono ?_
  rintro e w1 ⟨rfl, hb⟩
  have HB1 := Lib.hid (HB.out.trans (hb.mono HB.out.size))
  have HX1 := Lib.hid (hb.mono (B' := w.heap.size + 2) (by rw [HVS.out]; exact Nat.le_refl _))
  clear hb
  obtain ⟨⟨b0, b1, b2, b3, b4⟩, l0, l1⟩ := HX.out _ HX1.out
  go_wp2_with fail
  refine (CF.out _ HB1.out).mono ?_
  rintro e w2 ⟨⟨r, rfl, hr⟩, hb⟩
  have HB2 := Lib.hid (HB1.out.trans (hb.mono HB1.out.size))
  have HX2 := Lib.hid (HX1.out.trans (hb.mono (by have h1 := HX1.out.size; have h2 := HVS.out; omega)))
  clear hb b0 b1 b2 b3 b4 l0 l1
  cases r
  · clear hr
    go_wp2_with fail
    refine (HK.out _).mono ?_
    rintro e w3 ⟨rfl, hb⟩
    have HB3 := Lib.hid (HB2.out.trans (hb.mono HB2.out.size))
    clear hb
    go_wp2
    go_ret
    exact ⟨rfl, HB3.out⟩
  obtain ⟨h40, rfl⟩ := hr rfl
  obtain ⟨⟨b0, b1, b2, b3, b4⟩, l0, l1⟩ := HX.out _ HX2.out
  go_wp2_with fail
  refine (CT.out h40 (by first | rfl | trivial) _ HB2.out).mono ?_
  rintro e w3 ⟨⟨z1, A1, m1, c1, ln1, er1, rfl, h1, _⟩, hb⟩
  have HB3 := Lib.hid (HB2.out.trans (hb.mono HB2.out.size))
  have HX3 := Lib.hid (HX2.out.trans (hb.mono (by have h1 := HX2.out.size; have h2 := HVS.out; omega)))
  clear hb b0 b1 b2 b3 b4 l0 l1 h40
  by_cases her : er1 = 0
  rotate_left
  · have k1 : (er1 != 0) = true := by rw [bne_iff_ne]; exact her
    have HB4 := Lib.hid (HB3.out.alloc HB3.out.size (.cells #[.slice A1 m1 c1, .int .u32 ln1] 32))
    clear h1 her
    go_wp2
    go_ret
    exact ⟨rfl, HB4.out⟩
  subst her
  obtain ⟨⟨hcel, hm1, hc1, hm40, hl0, hl1⟩, x, hx, hxc⟩ := h1 rfl
  obtain ⟨V3, hV3⟩ : ∃ V3, w3.alloc (.cells #[.slice A1 m1 c1, .int .u32 ln1] 32) = V3 := ⟨_, rfl⟩
  have bV3 : Below w3.heap.size w3 V3 := by rw [← hV3]; exact (Below.refl _ _).alloc (Nat.le_refl _) _
  have HB4 := Lib.hid (HB3.out.trans (bV3.mono HB3.out.size))
  have HX4 := Lib.hid (HX3.out.trans (bV3.mono (by have h1 := HX3.out.size; have h2 := HVS.out; omega)))
  have H4 : Hid (Below w.heap.size w V3 ∧ w.heap.size + 2 ≤ w3.heap.size ∧ V3.heap.size = w3.heap.size + 1) := Lib.hid ⟨HB4.out, by (have h1 := HX3.out.size; have h2 := HVS.out; omega), by rw [← hV3]; simp⟩
  have HY : Hid (∀ W, Below V3.heap.size V3 W → W.cell? ⟨w3.heap.size, 0, none⟩ = some (.slice A1 m1 c1) ∧ W.cell? ⟨w3.heap.size, 1, none⟩ = some (.int .u32 ln1)) := Lib.hid (fun W h => ⟨(h.cell (p := ⟨w3.heap.size, 0, none⟩) (by rw [← hV3]; simp)).trans (by rw [← hV3]; exact World.cell?_alloc_new _ _ _ _), (h.cell (p := ⟨w3.heap.size, 1, none⟩) (by rw [← hV3]; simp)).trans (by rw [← hV3]; exact World.cell?_alloc_new _ _ _ _)⟩)
  have HCEL := Lib.hid (hcel.on bV3)
  have HXX := Lib.hid (And.intro hx hxc)
  have HMC := Lib.hid (And.intro (And.intro hm1 hc1) (And.intro hm40 (And.intro hl0 hl1)))
  obtain ⟨p, rfl⟩ := nodeZ_nats z1 hx
  clear h1 hcel hx hxc bV3 hl0 hl1 hm1 hc1 hm40
  obtain ⟨⟨b0, b1, b2, b3, b4⟩, _, _⟩ := HX.out _ HX4.out
  obtain ⟨l0, l1⟩ := HY.out _ (Below.refl _ _)
  go_wp2_with fail
  clear hV3
  refine (CT2.out (by first | rfl | trivial) (p.map Int.ofNat) A1 m1 c1 ln1 _ HB4.out HCEL.out HMC.out.1.1 HMC.out.1.2 HMC.out.2.1 HMC.out.2.2).mono ?_
  rintro e w5 ⟨⟨z2, A2, m2, c2, ln2, er2, rfl, g1, g2⟩, hb⟩
  obtain ⟨rfl, rfl, rfl⟩ := g2 x HXX.out.1 HXX.out.2
  obtain ⟨⟨hcel, hm2, hc2, _, _, _⟩, _⟩ := g1 rfl
  have HB5 := Lib.hid (HB4.out.trans (hb.mono HB4.out.size))
  have HX5 := Lib.hid (HX4.out.trans (hb.mono (by have h1 := HX4.out.size; have h2 := HVS.out; omega)))
  have H35 := Lib.hid hb
  have HMC2 := Lib.hid (And.intro hm2 hc2)
  clear b0 b1 b2 b3 b4 l0 l1 g1 g2 hm2 hc2 hb
  obtain ⟨V5, hV5⟩ : ∃ V5, w5.alloc (.cells #[.slice A2 m2 c2, .int .u32 ln2] 32) = V5 := ⟨_, rfl⟩
  have bV5 : Below w5.heap.size w5 V5 := by rw [← hV5]; exact (Below.refl _ _).alloc (Nat.le_refl _) _
  have HB6 := Lib.hid (HB5.out.trans (bV5.mono HB5.out.size))
  have HX6 := Lib.hid (HX5.out.trans (bV5.mono (by have h1 := HX5.out.size; have h2 := HVS.out; omega)))
  have H36 := Lib.hid (H35.out.trans (bV5.mono H35.out.size))
  have HY2 : Hid (∀ W, Below V5.heap.size V5 W → W.cell? ⟨w5.heap.size, 0, none⟩ = some (.slice A2 m2 c2) ∧ W.cell? ⟨w5.heap.size, 1, none⟩ = some (.int .u32 ln2)) := Lib.hid (fun W h => ⟨(h.cell (p := ⟨w5.heap.size, 0, none⟩) (by rw [← hV5]; simp)).trans (by rw [← hV5]; exact World.cell?_alloc_new _ _ _ _), (h.cell (p := ⟨w5.heap.size, 1, none⟩) (by rw [← hV5]; simp)).trans (by rw [← hV5]; exact World.cell?_alloc_new _ _ _ _)⟩)
  have HCEL2 := Lib.hid (hcel.on bV5)
  clear bV5 hcel
  obtain ⟨⟨b0, b1, b2, b3, b4⟩, _, _⟩ := HX.out _ HX6.out
  obtain ⟨l0, l1⟩ := HY.out _ H36.out
  have HG0 := CG.out (p.map Int.ofNat) A1 m1 c1 V5 HB6.out (HCEL.out.on H36.out) HMC.out.1.1 HMC.out.1.2
  rw [HXX.out.1] at HG0
  have HCT := Lib.hid (fun W (hW : Below w.heap.size w W) => refctrl_any x W (((nodeZ_in _ HRI.out HXX.out.1).under hW).more hW.size) (Nat.le_trans (nodeZ_heftI _ HXX.out.1) (by have := HH.out; omega)))
  rw [HXX.out.2] at HCT
  have HEQ := Lib.hid (fun W (hW : Below V5.heap.size V5 W) (hW3 : Below V3.heap.size V3 W) => equalI_any A1 A2 m1 m2 c1 c2 W.heap.size W.heap.size p p W (by rw [ints_eq]; exact HCEL.out.on hW3) (by rw [ints_eq]; exact HCEL2.out.on hW) (Nat.le_refl _) (Nat.le_refl _) HMC.out.1.1 HMC.out.1.2 HMC2.out.1 HMC2.out.2 true (by simp))
  obtain ⟨xn, xpa, xpc, xps, xka, xkc, xks⟩ := x
  simp only [getVal, Nd.val, Nd.pv, Nd.kv, Nd.name, Nd.pa, Nd.pc, Nd.props, Nd.ka, Nd.kc, Nd.kids] at HG0 HCT
  have HGG := Lib.hid HG0
  clear HG0 CT CT2 CG CF HXX
  go_wp2_with fail
  clear hV5
  refine HGG.out.mono ?_
  rintro e w7 ⟨rfl, hb⟩
  clear HGG b0 b1 b2 b3 b4 l0 l1
  have H57 := Lib.hid hb
  have HB7 := Lib.hid (HB6.out.trans (hb.mono HB6.out.size))
  clear hb
  obtain ⟨V7, hV7⟩ : ∃ V7, w7.alloc (.cells #[.string xn, .slice xpa xps.length xpc, .slice xka xks.length xkc] 27) = V7 := ⟨_, rfl⟩
  have bV7 : Below w7.heap.size w7 V7 := by rw [← hV7]; exact (Below.refl _ _).alloc (Nat.le_refl _) _
  have HB8 := Lib.hid (HB7.out.trans (bV7.mono HB7.out.size))
  have H58 := Lib.hid (H57.out.trans (bV7.mono H57.out.size))
  have H38 := Lib.hid (H36.out.trans (H58.out.mono H36.out.size))
  have n0 : V7.cell? ⟨w7.heap.size, 0, none⟩ = some (.string xn) := by rw [← hV7]; exact World.cell?_alloc_new _ _ _ _
  have n1 : V7.cell? ⟨w7.heap.size, 1, none⟩ = some (.slice xpa xps.length xpc) := by rw [← hV7]; exact World.cell?_alloc_new _ _ _ _
  have n2 : V7.cell? ⟨w7.heap.size, 2, none⟩ = some (.slice xka xks.length xkc) := by rw [← hV7]; exact World.cell?_alloc_new _ _ _ _
  clear bV7
  go_wp2_with fail
  clear hV7
  refine (HCT.out _ HB8.out).mono ?_
  rintro e w9 ⟨rfl, hb⟩
  have HB9 := Lib.hid (HB8.out.trans (hb.mono HB8.out.size))
  have H59 := Lib.hid (H58.out.trans (hb.mono H58.out.size))
  have H39 := Lib.hid (H38.out.trans (hb.mono H38.out.size))
  clear hb n0 n1 n2 HCT
  obtain ⟨l0, l1⟩ := HY.out _ H39.out
  obtain ⟨k0, k1⟩ := HY2.out _ H59.out
  have q2 : (ln2 == ln2) = true := by simp
  go_wp2_with fail
  refine (HEQ.out _ H59.out H39.out).mono ?_
  rintro e w10 ⟨rfl, hb⟩
  have HB10 := Lib.hid (HB9.out.trans (hb.mono HB9.out.size))
  clear hb l0 l1 k0 k1
  go_wp2
  go_ret
  exact ⟨rfl, HB10.out⟩
end Go.Proofs.Ytapfcbcojnplaaa

/-! Handles: which node has which, in the order of all; what is wrong with them: pure. -/
namespace Go.Proofs.Ytapfcbcojnplaaa
open Go.RowKit
set_option linter.unusedVariables false
set_option linter.unusedSimpArgs false

/-- The name of the property. -/
def phName : ByteArray := ⟨#[112, 104, 97, 110, 100, 108, 101]⟩
/-- One more node: the handles so far, or what is wrong. -/
def refStep (root : Nd) (acc : List (Int × List Nat)) (p : List Nat) : List (Int × List Nat) × Int :=
  match nodeAt root p with
  | none => (acc, 0)
  | some n =>
    if (oneV n phName).2.2 ≠ 0 then ([], (oneV n phName).2.2)
    else if (oneV n phName).2.1 = false then (acc, 0)
    else if (oneV n phName).1 = 0 ∨ (oneV n phName).1 = 4294967295 then ([], 11)
    else if acc.any (fun x => decide (x.1 = (oneV n phName).1)) = true then ([], 9)
    else (acc ++ [((oneV n phName).1, p)], 0)
/-- All handles of the nodes at these places, behind those so far. -/
def refsFrom (root : Nd) : List (Int × List Nat) → List (List Nat) → List (Int × List Nat) × Int
  | acc, [] => (acc, 0)
  | acc, p :: r => if (refStep root acc p).2 = 0 then refsFrom root (refStep root acc p).1 r else ([], (refStep root acc p).2)
/-- All handles of a tree. -/
def refsOf (root : Nd) : List (Int × List Nat) × Int := refsFrom root [] (placesN root [])
theorem refsFrom_err (root : Nd) : ∀ (l : List (List Nat)) (acc : List (Int × List Nat)), (refsFrom root acc l).2 ≠ 0 → (refsFrom root acc l).1 = []
  | [], acc, h => absurd rfl h
  | p :: r, acc, h => by
    rw [refsFrom] at h ⊢
    by_cases h0 : (refStep root acc p).2 = 0
    · rw [if_pos h0] at h ⊢
      exact refsFrom_err root r _ h
    · rw [if_neg h0]
theorem refsOf_err {root : Nd} (h : (refsOf root).2 ≠ 0) : (refsOf root).1 = [] := refsFrom_err root _ _ h
/-- What a good step does. -/
theorem refStep_ok {root : Nd} {acc : List (Int × List Nat)} {p : List Nat} (h : (refStep root acc p).2 = 0) : (refStep root acc p).1 = acc ∨ ∃ h, (∀ x ∈ acc, x.1 ≠ h) ∧ h ≠ 0 ∧ h ≠ 4294967295 ∧ (refStep root acc p).1 = acc ++ [(h, p)] := by
  unfold refStep at h ⊢
  split at h
  · exact .inl rfl
  · rename_i n hn
    by_cases h1 : (oneV n phName).2.2 ≠ 0
    · rw [if_pos h1] at h; exact absurd h h1
    rw [if_neg h1] at h ⊢
    by_cases h2 : (oneV n phName).2.1 = false
    · rw [if_pos h2]; exact .inl rfl
    rw [if_neg h2] at h ⊢
    by_cases h3 : (oneV n phName).1 = 0 ∨ (oneV n phName).1 = 4294967295
    · rw [if_pos h3] at h; exact absurd h (by decide)
    rw [if_neg h3] at h ⊢
    by_cases h4 : acc.any (fun x => decide (x.1 = (oneV n phName).1)) = true
    · rw [if_pos h4] at h; exact absurd h (by decide)
    rw [if_neg h4]
    refine .inr ⟨_, fun x hx e => h4 (List.any_eq_true.2 ⟨x, hx, decide_eq_true e⟩), fun e => h3 (.inl e), fun e => h3 (.inr e), rfl⟩
/-- No handle is there twice. -/
theorem refsFrom_good (root : Nd) : ∀ (l : List (List Nat)) (acc : List (Int × List Nat)), (acc.map Prod.fst).Nodup → ((refsFrom root acc l).1.map Prod.fst).Nodup
  | [], acc, h => h
  | p :: r, acc, h => by
    rw [refsFrom]
    by_cases h1 : (refStep root acc p).2 = 0
    · rw [if_pos h1]
      rcases refStep_ok h1 with e | ⟨v, hv, _, _, e⟩
      · rw [e]; exact refsFrom_good root r acc h
      · refine refsFrom_good root r _ ?_
        rw [e, List.map_append, List.nodup_append]
        refine ⟨h, by simp, fun a ha b hb => ?_⟩
        obtain ⟨x, hx, rfl⟩ := List.mem_map.1 ha
        simp only [List.map_cons, List.map_nil, List.mem_singleton] at hb
        rw [hb]
        exact hv x hx
    · rw [if_neg h1]; exact List.nodup_nil
theorem refsOf_nodup (root : Nd) : ((refsOf root).1.map Prod.fst).Nodup := refsFrom_good root _ _ List.nodup_nil
theorem refsFrom_length (root : Nd) : ∀ (l : List (List Nat)) (acc : List (Int × List Nat)), (refsFrom root acc l).1.length ≤ acc.length + l.length
  | [], acc => by simp [refsFrom]
  | p :: r, acc => by
    rw [refsFrom]
    by_cases h1 : (refStep root acc p).2 = 0
    · rw [if_pos h1]
      have ih := refsFrom_length root r (refStep root acc p).1
      rcases refStep_ok h1 with e | ⟨v, _, _, _, e⟩
      · rw [e] at ih ⊢; simp only [List.length_cons]; omega
      · rw [e] at ih ⊢; simp only [List.length_append, List.length_cons, List.length_nil] at ih ⊢; omega
    · rw [if_neg h1]; simp
/-- Where the node of a handle is. -/
def handleOf (root : Nd) (h : Int) : Option (List Nat) := ((refsOf root).1.find? fun x => decide (x.1 = h)).map Prod.snd
/-- The greatest one. -/
def mostOf (root : Nd) : Int := (refsOf root).1.foldl (fun m x => max m x.1) 0
end Go.Proofs.Ytapfcbcojnplaaa

/-! Rows of two cells an element: what a call has made shows them; append of one literal. -/
namespace Go.Proofs.Ytapfcbcojnplaaa
open Go.RowKit
set_option linter.unusedVariables false
set_option linter.unusedSimpArgs false

/-- A slice shows these pairs of values, two cells each, in a block below B. -/
def Cel2 (w : World) (B : Nat) (A : Option Addr) (n : Nat) (xs : List (Value × Value)) : Prop :=
  xs.length = n ∧ (0 < n → ∃ b o, A = some ⟨b, o, none⟩ ∧ b < B ∧ ∀ i (h : i < xs.length), w.cell? ⟨b, o + i * 2, none⟩ = some xs[i].1 ∧ w.cell? ⟨b, o + i * 2 + 1, none⟩ = some xs[i].2)
section
variable {w w' : World} {B B' n : Nat} {A : Option Addr} {xs : List (Value × Value)}
theorem Cel2.nil (w : World) (B : Nat) (A : Option Addr) : Cel2 w B A 0 [] := ⟨rfl, fun h => absurd h (Nat.lt_irrefl 0)⟩
theorem Cel2.keep (h : Cel2 w B A n xs) (hk : ∀ p : Addr, p.block < B → w'.cell? p = w.cell? p) : Cel2 w' B A n xs :=
  ⟨h.1, fun hn => by
    obtain ⟨b, o, e, hb, hc⟩ := h.2 hn
    exact ⟨b, o, e, hb, fun i hi => ⟨(hk _ hb).trans (hc i hi).1, (hk _ hb).trans (hc i hi).2⟩⟩⟩
theorem Cel2.below (h : Cel2 w B A n xs) (hb : Below B w w') : Cel2 w' B A n xs := h.keep fun _ hp => hb.cell hp
theorem Cel2.more (h : Cel2 w B A n xs) (hB : B ≤ B') : Cel2 w B' A n xs :=
  ⟨h.1, fun hn => by
    obtain ⟨b, o, e, hb, hc⟩ := h.2 hn
    exact ⟨b, o, e, by omega, hc⟩⟩
theorem Cel2.on (h : Cel2 w w.heap.size A n xs) (hb : Below w.heap.size w w') : Cel2 w' w'.heap.size A n xs := (h.below hb).more hb.size
end
/-- Pairs, cell by cell. -/
def flat2 (xs : List (Value × Value)) : List Value := xs.flatMap fun x => [x.1, x.2]
theorem flat2_length (xs : List (Value × Value)) : (flat2 xs).length = xs.length * 2 := by
  induction xs with
  | nil => rfl
  | cons x r ih =>
    have e : flat2 (x :: r) = [x.1, x.2] ++ flat2 r := by simp [flat2]
    rw [e, List.length_append, ih]; simp; omega
theorem flat2_app (xs : List (Value × Value)) (x : Value × Value) : flat2 (xs ++ [x]) = flat2 xs ++ [x.1, x.2] := by simp [flat2]
theorem flat2_at : ∀ (xs : List (Value × Value)) (i : Nat) (h : i < xs.length), (flat2 xs)[i * 2]? = some xs[i].1 ∧ (flat2 xs)[i * 2 + 1]? = some xs[i].2
  | x :: r, 0, _ => by simp [flat2]
  | x :: r, i + 1, h => by
    have e : flat2 (x :: r) = x.1 :: x.2 :: flat2 r := by simp [flat2]
    have ih := flat2_at r i (by simpa using h)
    rw [e, show (i + 1) * 2 = i * 2 + 1 + 1 by omega]
    simpa using ih
/-- What a call has made shows its pairs. -/
theorem owned_cel2 {w : World} {base n : Nat} {e : TypeId} {v : Value} {xs : List (Value × Value)} (h : w.ownsRow base e 2 v n (flat2 xs)) : ∃ A c, v = .slice A n c ∧ Cel2 w w.heap.size A n xs ∧ n ≤ c ∧ c ≤ 9223372036854775807 ∧ (∀ b, v.ownBlock = some b → base ≤ b ∧ b < w.heap.size) := by
  obtain ⟨hl, ⟨rfl, rfl⟩ | ⟨g, cap, cur, rfl, hb, hg, hnc, hcm, hsz, htk⟩⟩ := h
  · rw [flat2_length] at hl
    obtain rfl : xs = [] := List.eq_nil_of_length_eq_zero (by omega)
    exact ⟨none, 0, rfl, Cel2.nil _ _ _, Nat.le_refl _, by omega, fun b h => by simp [Value.ownBlock] at h⟩
  · rw [flat2_length] at hl
    have hlz : xs.length = n := by omega
    have hlt := (Array.getElem?_eq_some_iff.1 hg).1
    have hcell : ∀ k, k < n * 2 → w.cell? ⟨g, k, none⟩ = (flat2 xs)[k]? := fun k hk => by
      have h1 : (flat2 xs)[k]? = cur[k]? := by
        rw [← htk, List.getElem?_take_of_lt hk, Array.getElem?_toList]
      rw [h1]
      simp [World.cell?, hg]
    refine ⟨_, cap, rfl, ⟨hlz, fun hn => ⟨g, 0, rfl, hlt, fun i hi => ?_⟩⟩, hnc, hcm, fun b h => ?_⟩
    · obtain ⟨a1, a2⟩ := flat2_at xs i hi
      rw [Nat.zero_add, hcell _ (by omega), hcell _ (by omega)]
      exact ⟨a1, a2⟩
    · simp [Value.ownBlock] at h
      omega
/-- append of one pair, laid by the call itself. -/
theorem app_pair {t e : TypeId} {i0 : TypeInfo} {z : Value} {bytes : Nat} (ht : Try.prog.underlying t = some (.slice e)) (hi : Try.prog.info? e = some i0) (hz : i0.zero = some z) (hs1 : i0.size = 2) (hby : i0.bytes = bytes) (hzs : z.cells.size = 2)
    {w : World} {B n : Nat} {v : Value} {xs : List (Value × Value)} (h : w.ownsRow B e 2 v n (flat2 xs)) (x : Value × Value) (hx : x.1.oneCell' = true) (hx2 : x.2.oneCell' = true) (hbig : (n + 1) * bytes ≤ 140737488355328) (hlen : n + 1 ≤ 140737488355328) (hB : B ≤ w.heap.size) (ty : TypeId) :
    ∃ A' c' w', (Builtin.append_ #[t, t] ty #[v, .slice (some ⟨w.heap.size, 0, none⟩) 1 1]).run Try.prog (w.alloc (.cells #[x.1, x.2] e)) = .ok (.slice A' (n + 1) c') w' ∧ w'.ownsRow B e 2 (.slice A' (n + 1) c') (n + 1) (flat2 (xs ++ [x])) ∧ Below B w w' ∧ w.grownBy w' v.ownBlock ∧ ((Value.slice A' (n + 1) c').ownBlock = v.ownBlock ∨ (Value.slice A' (n + 1) c').ownBlock = some (w.heap.size + 1)) := by
  have h1 : (w.alloc (.cells #[x.1, x.2] e)).ownsRow B e 2 v n (flat2 xs) := h.alloc _
  have hb1 := (Below.refl B w).alloc hB (.cells #[x.1, x.2] e)
  obtain ⟨v', w', r1, r2, r3, _, r5⟩ := run_append_own_at (P := Try.prog) (w.alloc (.cells #[x.1, x.2] e)) B t ty e i0 z 2 bytes ht hi hz hs1 hby hzs (by omega) v _ (flat2 xs) h1 ⟨w.heap.size, 0, none⟩ 1 1 [x.1, x.2] rfl
    (fun j u hu => by
      rw [addr_add, Nat.zero_add, World.cell?_alloc_new]
      rcases j with _ | _ | j
      · simpa using hu
      · simpa using hu
      · simp at hu)
    (fun u hu => by
      rcases List.mem_cons.1 hu with rfl | hu
      · exact hx
      · rw [List.mem_singleton.1 hu]; exact hx2) (by unfold maxLen; omega) hbig (by simp; omega)
  have r2' : w'.ownsRow B e 2 v' (n + 1) (flat2 (xs ++ [x])) := by rw [flat2_app]; exact r2
  obtain ⟨A', c', rfl, _⟩ := owned_cel2 r2'
  refine ⟨A', c', w', r1, r2', hb1.grown r3 (by simp; omega) (fun q hq => (h1.lt q hq).1), ?_, by simpa using r5⟩
  have hg0 := World.grownBy_alloc w (.cells #[x.1, x.2] e) v.ownBlock
  exact ⟨r3.os.trans hg0.os, r3.tape.trans hg0.tape, r3.output.trans hg0.output, Nat.le_trans hg0.size r3.size, fun k hk hne => (r3.block k (Nat.lt_of_lt_of_le hk hg0.size) hne).trans (hg0.block k hk hne)⟩
end Go.Proofs.Ytapfcbcojnplaaa

/-! All handles of a tree: the document's answer. -/
namespace Go.Proofs.Ytapfcbcojnplaaa
open Go.RowKit
set_option linter.unusedVariables false
set_option linter.unusedSimpArgs false

/-- A pair of values shows a handle, and a place below block B. -/
def RefV (w : World) (B : Nat) (x : Value × Value) (r : Int × List Nat) : Prop :=
  x.1 = .int .u32 r.1 ∧ ∃ A c, x.2 = .slice A r.2.length c ∧ Cel w B A r.2.length (ints r.2) ∧ r.2.length ≤ c ∧ c ≤ 9223372036854775807
theorem RefV.below {w w' : World} {B : Nat} {x : Value × Value} {r : Int × List Nat} (h : RefV w B x r) (hb : Below B w w') : RefV w' B x r := by
  obtain ⟨e, A, c, e2, h1, h2⟩ := h
  exact ⟨e, A, c, e2, h1.below hb, h2⟩
theorem RefV.more {w : World} {B B' : Nat} {x : Value × Value} {r : Int × List Nat} (h : RefV w B x r) (hB : B ≤ B') : RefV w B' x r := by
  obtain ⟨e, A, c, e2, h1, h2⟩ := h
  exact ⟨e, A, c, e2, h1.more hB, h2⟩
/-- A slice shows these handles. -/
def RefShow (w : World) (B : Nat) (A : Option Addr) (n : Nat) (rs : List (Int × List Nat)) : Prop :=
  ∃ vs, Cel2 w B A n vs ∧ Two (RefV w B) vs rs
theorem RefShow.on {w w' : World} {A : Option Addr} {n : Nat} {rs : List (Int × List Nat)} (h : RefShow w w.heap.size A n rs) (hb : Below w.heap.size w w') : RefShow w' w'.heap.size A n rs := by
  obtain ⟨vs, h1, h2⟩ := h
  exact ⟨vs, h1.on hb, h2.mono fun v p hv => (hv.below hb).more hb.size⟩
theorem RefShow.len {w : World} {B : Nat} {A : Option Addr} {n : Nat} {rs : List (Int × List Nat)} (h : RefShow w B A n rs) : rs.length = n := by
  obtain ⟨vs, h1, h2⟩ := h
  rw [← h2.len, h1.1]
theorem RefShow.nil (w : World) (B : Nat) (A : Option Addr) : RefShow w B A 0 [] := ⟨[], Cel2.nil _ _ _, .nil⟩
/-- One of them. -/
theorem RefShow.at_ {w : World} {B : Nat} {A : Option Addr} {n : Nat} {rs : List (Int × List Nat)} (h : RefShow w B A n rs) {i : Nat} (hi : i < rs.length) : ∃ b o A2 c2, A = some ⟨b, o, none⟩ ∧ b < B ∧ w.cell? ⟨b, o + i * 2, none⟩ = some (.int .u32 rs[i].1) ∧ w.cell? ⟨b, o + i * 2 + 1, none⟩ = some (.slice A2 rs[i].2.length c2) ∧ Cel w B A2 rs[i].2.length (ints rs[i].2) ∧ rs[i].2.length ≤ c2 ∧ c2 ≤ 9223372036854775807 := by
  obtain ⟨vs, h1, h2⟩ := h
  have hl := h2.len
  obtain ⟨b, o, e, hb, hc⟩ := h1.2 (by rw [← h1.1]; omega)
  have hv : i < vs.length := by omega
  obtain ⟨d1, d2⟩ := hc i hv
  obtain ⟨e1, A2, c2, e2, h3, h4, h5⟩ := h2.get i hv hi
  exact ⟨b, o, A2, c2, e, hb, by rw [d1, e1], by rw [d2, e2], h3, h4, h5⟩

theorem nodeAt_heft : ∀ (p : List Nat) {n x : Nd}, nodeAt n p = some x → heftN x ≤ heftN n
  | [], n, x, h => by rw [nodeAt] at h; rw [Option.some.inj h]; exact Nat.le_refl _
  | i :: p, n, x, h => by
    obtain ⟨hi, e⟩ := nodeAt_some h
    have h1 := nodeAt_heft p e
    have h2 := heftL_next n.kids i hi
    have h3 := heftL_take n.kids (i + 1)
    have h4 : heftN n = 16 + n.name.size + (n.props.map heftP).sum + heftL n.kids := by cases n; rw [heftN]; rfl
    omega
theorem oneV_range {w : World} {B : Nat} {n : Nd} (hin : n.In w B) (s : ByteArray) : 0 ≤ (oneV n s).1 ∧ (oneV n s).1 ≤ 4294967295 := by
  unfold oneV
  split
  · exact ⟨by decide, by decide⟩
  · rename_i p hp
    split
    · exact numTo_u32 (hin.prop (List.mem_of_find?_eq_some hp)).2.1 0
    · exact ⟨by decide, by decide⟩


theorem refsFrom_range {w : World} {B : Nat} {root : Nd} (hin : root.In w B) : ∀ (l : List (List Nat)) (acc : List (Int × List Nat)), (∀ x ∈ acc, 0 ≤ x.1 ∧ x.1 ≤ 4294967295) → ∀ x ∈ (refsFrom root acc l).1, 0 ≤ x.1 ∧ x.1 ≤ 4294967295
  | [], acc, h => h
  | p :: r, acc, h => by
    rw [refsFrom]
    by_cases h1 : (refStep root acc p).2 = 0
    · rw [if_pos h1]
      refine refsFrom_range hin r _ ?_
      unfold refStep at h1 ⊢
      split at h1
      · exact h
      · rename_i n hn
        have hr := oneV_range (nodeAt_in p hin hn) phName
        by_cases g1 : (oneV n phName).2.2 ≠ 0
        · rw [if_pos g1] at h1; exact absurd h1 g1
        rw [if_neg g1] at h1 ⊢
        by_cases g2 : (oneV n phName).2.1 = false
        · rw [if_pos g2]; exact h
        rw [if_neg g2] at h1 ⊢
        by_cases g3 : (oneV n phName).1 = 0 ∨ (oneV n phName).1 = 4294967295
        · rw [if_pos g3] at h1; exact absurd h1 (by decide)
        rw [if_neg g3] at h1 ⊢
        by_cases g4 : acc.any (fun x => decide (x.1 = (oneV n phName).1)) = true
        · rw [if_pos g4] at h1; exact absurd h1 (by decide)
        rw [if_neg g4]
        intro x hx
        rcases List.mem_append.1 hx with hx | hx
        · exact h x hx
        · rw [List.mem_singleton.1 hx]; exact hr
    · rw [if_neg h1]; intro x hx; cases hx
theorem refsOf_range {w : World} {B : Nat} {root : Nd} (hin : root.In w B) : ∀ x ∈ (refsOf root).1, 0 ≤ x.1 ∧ x.1 ≤ 4294967295 := refsFrom_range hin _ _ (fun x hx => by cases hx)

end Go.Proofs.Ytapfcbcojnplaaa

/-! Layer 7, PropReads, PropOne, PropWide: out of what the program's functions answer. -/
namespace Go.Proofs.Ytapfcbcojnplaaa
open Go.RowKit
set_option linter.unusedVariables false
set_option linter.unusedSimpArgs false

/-- What Cells, Text and Texts answer: what they read, and the error. -/
def cellsL (zs : List Int) : List Int := if zs.length % 4 = 0 then (List.range (zs.length / 4)).map fun i => numTo zs (4 * i) 4 else []
def cellsE (zs : List Int) : Int := if zs.length % 4 = 0 then 0 else 4
noncomputable def textS (zs : List Int) : ByteArray := match textV zs with | none => ⟨#[]⟩ | some s => strOfNums s
noncomputable def textE (zs : List Int) : Int := match textV zs with | none => 4 | some _ => 0
noncomputable def txtsL (zs : List Int) : List ByteArray := match textsV zs with | none => [] | some l => l.map strOfNums
noncomputable def txtsE (zs : List Int) : Int := match textsV zs with | none => 4 | some _ => 0
abbrev u32s (l : List Int) : List Value := l.map (Value.int .u32)
abbrev strs6 (l : List ByteArray) : List Value := l.map Value.string
/-- A row of values, and an error. -/
def RowOut (w' : World) (R : List Value) (E : Int) (e : Ending) : Prop := ∃ A c, e = .returned (.tuple #[.slice A R.length c, .int .i64 E]) ∧ Cel w' w'.heap.size A R.length R ∧ R.length ≤ c ∧ c ≤ 9223372036854775807

theorem rowOut_of {w w' : World} {e : Ending} {t : TypeId} {R : List Value} {A : Option Addr} {m c : Nat} (hm : m = R.length) (he : e = .returned (.tuple #[.slice A m c, .int .i64 0])) (h : w'.ownsRow w.heap.size t 1 (.slice A m c) m R) : RowOut w' R 0 e := by
  subst hm
  obtain ⟨A', c', e', h1, h2, h3, _⟩ := owned_cel h
  simp only [Value.slice.injEq, true_and] at e'
  obtain ⟨rfl, rfl⟩ := e'
  exact ⟨A, c, he, h1, h2, h3⟩
theorem rowOut_nil {w' : World} {e : Ending} {E : Int} (he : e = .returned (.tuple #[.slice none 0 0, .int .i64 E])) : RowOut w' [] E e := ⟨none, 0, he, Cel.nil _ _ _, Nat.le_refl _, by omega⟩

theorem refcellsR (A : Option Addr) (n c : Nat) (zs : List Int) (w : World) (hs : Shows w w.heap.size A n zs) (hn : n ≤ 140737488351232) (hnc : n ≤ c) (hc : c ≤ 9223372036854775807) :
    Calls Try.prog 27 #[.slice A n c] w fun e w' => RowOut w' (u32s (cellsL zs)) (cellsE zs) e ∧ Below w.heap.size w w' := by
  obtain rfl := hs.1
  refine (refcells_any A _ c zs w hs hn hnc hc).mono fun e w' h => ⟨?_, h.2⟩
  obtain ⟨⟨h1, h2⟩, _⟩ := h
  by_cases h4 : zs.length % 4 = 0
  · obtain ⟨A', c', he, ho⟩ := h2 h4
    have e1 : cellRow zs (zs.length / 4) = u32s (cellsL zs) := by
      rw [cellsL, if_pos h4]; exact (List.map_map (l := List.range (zs.length / 4))).symm
    rw [cellsE, if_pos h4]
    rw [e1] at ho
    exact rowOut_of (by rw [List.length_map, cellsL, if_pos h4, List.length_map, List.length_range]) he ho
  · rw [cellsE, if_neg h4, cellsL, if_neg h4]
    exact rowOut_nil (h1 h4)
/-! ### What the program's functions answer -/
def CellsOK : Prop := ∀ (A : Option Addr) (n c : Nat) (zs : List Int) (w : World), Shows w w.heap.size A n zs → n ≤ 5000 → n ≤ c → c ≤ 9223372036854775807 → Calls Try.prog 34 #[.slice A n c] w fun e w' => RowOut w' (u32s (cellsL zs)) (cellsE zs) e ∧ Below w.heap.size w w'
def OneOK : Prop := ∀ (n : Nd) (s : ByteArray) (w : World), n.In w w.heap.size → s.size ≤ 140737488351232 → Calls Try.prog 28 #[n.val, .string s] w fun e w' => e = .returned (oneVal (oneV n s)) ∧ Below w.heap.size w w'

theorem u32_cell {w : World} {B n : Nat} {A : Option Addr} {l : List Int} (h : Cel w B A n (u32s l)) (hn : l.length = n) (k : Nat) (hk : k < n) : ∃ b o, A = some ⟨b, o, none⟩ ∧ b < B ∧ w.cell? ⟨b, o + k, none⟩ = some (.int .u32 (l.getD k 0)) := by
  obtain ⟨b, o, e, hb, hc⟩ := h.2 (by omega)
  refine ⟨b, o, e, hb, ?_⟩
  rw [hc k hk, List.getElem?_map, List.getElem?_eq_getElem (by omega)]
  simp [List.getD, List.getElem?_eq_getElem (show k < l.length by omega)]
theorem str_cell {w : World} {B n : Nat} {A : Option Addr} {l : List ByteArray} (h : Cel w B A n (strs6 l)) (hn : l.length = n) (k : Nat) (hk : k < n) : ∃ b o, A = some ⟨b, o, none⟩ ∧ b < B ∧ w.cell? ⟨b, o + k, none⟩ = some (.string (l.getD k ⟨#[]⟩)) := by
  obtain ⟨b, o, e, hb, hc⟩ := h.2 (by omega)
  refine ⟨b, o, e, hb, ?_⟩
  rw [hc k hk, List.getElem?_map, List.getElem?_eq_getElem (by omega)]
  simp [List.getD, List.getElem?_eq_getElem (show k < l.length by omega)]

end Go.Proofs.Ytapfcbcojnplaaa

/-! Layer 7: rows that a call has made, of values of one cell; the program's Cells. -/
namespace Go.Proofs.Ytapfcbcojnplaaa
open Go.RowKit
set_option linter.unusedVariables false
set_option linter.unusedSimpArgs false

/-- Block g holds just these values, one cell each. -/
def VRow (w : World) (g : Nat) (t : TypeId) (vs : List Value) : Prop := w.heap[g]? = some (.cells vs.toArray t (0, 0))
section
variable {w w' : World} {g : Nat} {t : TypeId} {vs : List Value}
theorem VRow.lt (h : VRow w g t vs) : g < w.heap.size := (Array.getElem?_eq_some_iff.1 h).1
theorem VRow.cell (h : VRow w g t vs) (i : Nat) (hi : i < vs.length) : w.cell? ⟨g, i, none⟩ = some vs[i] := by
  rw [cell_of_row w g i _ _ (0, 0) h]
  simp [List.getElem?_eq_getElem hi]
theorem VRow.at_ (h : VRow w g t vs) {i : Nat} {z : Value} (hi : vs[i]? = some z) : w.cell? ⟨g, i, none⟩ = some z := by
  obtain ⟨h1, h2⟩ := List.getElem?_eq_some_iff.1 hi
  rw [h.cell i h1, h2]
theorem VRow.free (h : VRow w g t vs) (i : Nat) : w.frozen? ⟨g, i, none⟩ = false := by
  unfold VRow at h
  simp [World.frozen?, h]
theorem VRow.set (h : VRow w g t vs) (i : Nat) (v : Value) : VRow (w.setCell ⟨g, i, none⟩ v) g t (vs.set i v) := by
  unfold VRow at h ⊢
  simp [World.setCell, Array.getElem?_modify, h]
theorem VRow.on (h : VRow w g t vs) (hb : Below w.heap.size w w') : VRow w' g t vs := (hb.block g h.lt).trans h
theorem VRow.cel {n : Nat} (h : VRow w g t vs) (hn : vs.length = n) : Cel w w.heap.size (some ⟨g, 0, none⟩) n vs :=
  ⟨hn, fun _ => ⟨g, 0, rfl, h.lt, fun i hi => by rw [Nat.zero_add, h.cell i (by omega), List.getElem?_eq_getElem (by omega)]⟩⟩
end
theorem made_vrow (w : World) (z : Value) (k : Nat) (t : TypeId) : VRow (w.alloc (.cells (madeCells #[z] k) t)) w.heap.size t (List.replicate k z) := by
  unfold VRow
  rw [heap_alloc_new]
  congr 2
  apply Array.toList_inj.1
  rw [toList_madeCells_one]
/-- k of m values are laid. -/
def partV (l : List Value) (z : Value) (m k : Nat) : List Value := l.take k ++ List.replicate (m - k) z
theorem partV_length (l : List Value) (z : Value) (m k : Nat) (hk : k ≤ m) (hm : l.length = m) : (partV l z m k).length = m := by
  simp only [partV, List.length_append, List.length_take, List.length_replicate]; omega
theorem partV_set (l : List Value) (z : Value) (m k : Nat) (hk : k < m) (hm : l.length = m) (x : Value) (hx : l[k]? = some x) : (partV l z m k).set k x = partV l z m (k + 1) := by
  unfold partV
  have e : l.take (k + 1) = l.take k ++ [x] := by rw [List.take_add_one, hx]; rfl
  have hl : (l.take k).length = k := by rw [List.length_take]; omega
  rw [List.set_append, if_neg (by omega), hl, Nat.sub_self, e, List.append_assoc]
  congr 1
  obtain ⟨j, hj⟩ : ∃ j, m - k = j + 1 := ⟨m - k - 1, by omega⟩
  rw [hj, show m - (k + 1) = j by omega, List.replicate_succ]
  rfl
theorem partV_none (l : List Value) (z : Value) (m : Nat) : partV l z m 0 = List.replicate m z := by simp [partV]
theorem partV_all (l : List Value) (z : Value) (m : Nat) (hm : l.length = m) : partV l z m m = l := by simp [partV, ← hm]
theorem partV_at (l : List Value) (z : Value) (m k : Nat) (hk : k < m) (hm : l.length = m) : (partV l z m k)[k]? = some z := by
  unfold partV
  have hl : (l.take k).length = k := by rw [List.length_take]; omega
  rw [List.getElem?_append_right (by omega), hl, Nat.sub_self, List.getElem?_replicate]
  simp; omega

theorem rowOut_vrow {w : World} {g m c : Nat} {t : TypeId} {R : List Value} {e : Ending} (h : VRow w g t R) (hm : R.length = m) (hc : m ≤ c) (hc2 : c ≤ 9223372036854775807) (he : e = .returned (.tuple #[.slice (some ⟨g, 0, none⟩) m c, .int .i64 0])) : RowOut w R 0 e := by
  subst hm
  exact ⟨_, c, he, h.cel rfl, hc, hc2⟩

theorem make_u32 (k : Nat) (hk : k ≤ 70368744177664) (w : World) :
    (Instr.makeSlice 76 (.int .i64 (k : Int)) (.int .i64 (k : Int))).run Try.prog w = .ok (.slice (some ⟨w.heap.size, 0, none⟩) k k) (w.alloc (.cells (madeCells #[.int .u32 0] k) 22)) :=
  run_make_row' (P := Try.prog) 76 22 (.int .u32 0) 4 Try.underlying76 info_u32 rfl .i64 .i64 k (by omega) (by omega) w

theorem u32s_cells {zs : List Int} {m : Nat} (h4 : zs.length % 4 = 0) (hm : zs.length / 4 = m) : (u32s (cellsL zs)).length = m ∧ ∀ k, k < m → (u32s (cellsL zs))[k]? = some (.int .u32 (numTo zs (4 * k) 4)) := by
  rw [cellsL, if_pos h4, hm]
  refine ⟨by simp, fun k hk => ?_⟩
  simp [List.getElem?_range hk]

set_option maxRecDepth 20000 in
set_option maxHeartbeats 4000000 in
theorem cells_any (A : Option Addr) (n c : Nat) (zs : List Int) (w : World) (hs : Shows w w.heap.size A n zs) (hn : n ≤ 140737488351232) (hnc : n ≤ c) (hc : c ≤ 9223372036854775807) :
    Calls Try.prog 34 #[.slice A n c] w fun e w' => RowOut w' (u32s (cellsL zs)) (cellsE zs) e ∧ Below w.heap.size w w' := by
  have HS := Lib.hid hs
  have HC := Lib.hid (And.intro hnc hc)
  have HL := Lib.hid hs.1
  clear hs hnc hc
  by_cases h4 : n % 4 = 0
  · have q1 : (((n : Int) % 4) != 0) = false := by rw [bne_eq_false_iff_eq]; omega
    obtain ⟨m, hm⟩ : ∃ m, n / 4 = m := ⟨_, rfl⟩
    have q2 : (n : Int) / 4 = (m : Int) := by omega
    have hm4 : n = 4 * m := by omega
    have HU := Lib.hid (u32s_cells (zs := zs) (m := m) (by rw [HL.out]; exact h4) (by rw [HL.out]; exact hm))
    have HE : Hid (cellsE zs = 0) := Lib.hid (by rw [cellsE, if_pos (by rw [HL.out]; exact h4)])
    have HM := make_u32 m (by omega)
    have HN := Lib.hid (And.intro hm4 hn)
    have hm9 : m ≤ 35184372087808 := by omega
    clear h4 hm hm4 hn
    generalize hU : u32s (cellsL zs) = U at HU
    have HUU := Lib.hid hU
    clear hU
    go_enter Try.func34, Try.ntmps34
    go_wp2_with fail
    go_loopw [16] (fun i wr => ∃ k : Nat, k ≤ m ∧ i = .int .i64 k ∧ VRow wr w.heap.size 22 (partV U (.int .u32 0) m k) ∧ Below w.heap.size w wr) (fun i _ => m - (intOf i).toNat)
    case atStart => exact ⟨0, Nat.zero_le _, rfl, by rw [partV_none]; exact made_vrow _ _ _ _, (Below.refl _ _).alloc (Nat.le_refl _) _⟩
    case round =>
      obtain ⟨k, hk, rfl, hrow, hb⟩ := hrel
      have HB := Lib.hid hb
      have HR := Lib.hid hrow
      by_cases hlt : k < m
      · have hnum := numTo_u32 HS.out (4 * k)
        have CG := fun q hq => get_at A n c (4 * k) q hq zs wr w.heap.size (HS.out.below hb) (by have := HN.out.1; omega) (by have := HN.out.2; omega) HC.out.1 (by unfold maxLen; exact HC.out.2) _ rfl
        obtain ⟨x, hx⟩ : ∃ x, numTo zs (4 * k) 4 = x := ⟨_, rfl⟩
        have hat := HU.out.2 k hlt
        rw [hx] at CG hnum hat
        have HSET : Hid ((partV U (.int .u32 0) m k).set k (.int .u32 x) = partV U (.int .u32 0) m (k + 1)) := Lib.hid (partV_set U _ m k hlt HU.out.1 _ hat)
        have hcell := hrow.at_ (partV_at U (.int .u32 0) m k hlt HU.out.1)
        have hfree := hrow.free k
        have HR2 := Lib.hid (hrow.set k (.int .u32 x))
        have HB2 := Lib.hid (hb.setCell (p := ⟨w.heap.size, k, none⟩) (Nat.le_refl _) (.int .u32 x))
        have HCG := Lib.hid CG
        have hb4 := HN.out
        have hbd : 4 * (k : Int) ≤ 140737488351232 := by omega
        clear hx hat hrow hb CG hb4
        go_wp2_with fail
        refine (HCG.out _ (by omega)).mono ?_
        rintro e w1 ⟨rfl, rfl⟩
        go_wp2
        go_roundw
        case rel => exact ⟨k + 1, by omega, by go_num, by rw [← HSET.out]; exact HR2.out, HB2.out⟩
        case measure => simp [intOf]; omega
      · obtain rfl : k = m := by omega
        have HV : Hid (VRow wr w.heap.size 22 U) := Lib.hid (by have := HR.out; rw [partV_all _ _ _ HU.out.1] at this; exact this)
        clear hrow hb
        go_wp2
        go_ret2
        refine ⟨?_, HB.out⟩
        rw [HE.out]
        exact rowOut_vrow HV.out HU.out.1 (Nat.le_refl _) (by omega) rfl
  · have q1 : (((n : Int) % 4) != 0) = true := by rw [bne_iff_ne]; omega
    have H4 := Lib.hid (show ¬ zs.length % 4 = 0 by rw [HL.out]; exact h4)
    clear h4
    go_enter Try.func34, Try.ntmps34
    go_wp2
    go_ret2
    refine ⟨?_, Below.refl _ _⟩
    rw [cellsE, if_neg H4.out, cellsL, if_neg H4.out]
    exact rowOut_nil rfl
theorem cellsOK : CellsOK := fun A n c zs w hs hn hnc hc => cells_any A n c zs w hs (by omega) hnc hc
end Go.Proofs.Ytapfcbcojnplaaa
