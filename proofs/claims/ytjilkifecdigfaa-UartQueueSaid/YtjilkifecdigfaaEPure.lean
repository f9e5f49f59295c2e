/-
  Layer 4: what Decode answers, as a function of the bytes alone.
-/
import Derived.Test.YtjilkifecdigfaaDGet
import Derived.Test.YtjilkifecdigfaaTName
import Derived.Test.YtjilkifecdigfaaDHead
import Derived.Test.YtjilkifecdigfaaDCell
namespace Go.Proofs.Ytjilkifecdigfaa
open Go.RowKit
set_option linter.unusedVariables false
set_option linter.unusedSimpArgs false

/-- A node without addresses. -/
inductive PN where
  | mk (name : ByteArray) (props : List (ByteArray × List Int)) (kids : List PN)
namespace PN
def name : PN → ByteArray | .mk n _ _ => n
def props : PN → List (ByteArray × List Int) | .mk _ p _ => p
def kids : PN → List PN | .mk _ _ k => k
end PN
instance : Inhabited PN := ⟨.mk ⟨#[]⟩ [] []⟩

def PV.pure (p : PV) : ByteArray × List Int := (p.name, p.zs)
mutual
def pureN : Nd → PN
  | .mk n _ _ ps _ _ ks => .mk n (ps.map PV.pure) (pureL ks)
def pureL : List Nd → List PN
  | [] => []
  | k :: r => pureN k :: pureL r
end
theorem pureL_map : ∀ l : List Nd, pureL l = l.map pureN
  | [] => by simp [pureL]
  | k :: r => by simp [pureL, pureL_map r]
theorem pureN_mk (n : Nd) : pureN n = .mk n.name (n.props.map PV.pure) (n.kids.map pureN) := by
  cases n; simp only [pureN, pureL_map]; rfl

/-- A node that is being read: its name, what is read of it, and which names are taken by nodes below it. -/
structure PF where
  name : ByteArray
  props : List (ByteArray × List Int)
  kids : List PN
  taken : List ByteArray
def PF.done (f : PF) : PN := .mk f.name f.props f.kids
def PF.new (s : ByteArray) : PF := ⟨s, [], [], []⟩

/-- Where the reader stands: the place of the next token, the innermost node, those around it. -/
structure PSt where
  pos : Nat
  top : PF
  below : List PF

theorem padN_mod (n : Nat) : (n + padN n) % 4 = 0 := by unfold padN; omega

def tokAt (S : List Int) (a : Nat) : Option Int := if a + 4 ≤ S.length then some (numTo S a 4) else none
/-- The bytes from a place on up to the next nought. -/
def textFrom (S : List Int) (a : Nat) : Option (List Int) := if 0 ∈ S.drop a then some ((S.drop a).takeWhile fun z => decide (z ≠ 0)) else none
/-- The place behind noughts up to a multiple of 4. -/
def behind (S : List Int) (a : Nat) : Option Nat := if a + padN a ≤ S.length ∧ ∀ x ∈ (S.drop a).take (padN a), x = 0 then some (a + padN a) else none

/-- May a token stand, where there are so many open nodes around the innermost one, which has so many nodes? -/
def standB (b k : Nat) (tok : Int) : Bool :=
  if tok = 1 then (decide (0 < b) || decide (k = 0)) else if tok = 2 then decide (0 < b) else if tok = 3 then (decide (0 < b) && decide (k = 0)) else if tok = 4 then true else if tok = 9 then (decide (b = 0) && decide (k = 1)) else false

/-- Is a name among those? -/
def hasS (l : List ByteArray) (s : ByteArray) : Bool := l.any fun x => decide (x = s)
theorem hasS_iff {l : List ByteArray} {s : ByteArray} : hasS l s = true ↔ s ∈ l := by
  unfold hasS
  rw [List.any_eq_true]
  exact ⟨fun ⟨x, h1, h2⟩ => by rw [← of_decide_eq_true h2]; exact h1, fun h => ⟨s, h, decide_eq_true rfl⟩⟩
theorem hasS_false {l : List ByteArray} {s : ByteArray} : hasS l s = false ↔ s ∉ l := by
  rw [← hasS_iff]; simp

noncomputable def okName (s : ByteArray) (d : Nat) : Bool := if d = 1 then s.toList.isEmpty else nodeB s

noncomputable def beginF (S : List Int) (st : PSt) : Except Int PSt :=
  match textFrom S (st.pos + 4) with
  | none => .error 4
  | some s => match behind S (st.pos + 4 + s.length + 1) with
    | none => .error 4
    | some a =>
      if 16 < st.below.length + 1 then .error 6 else if okName (strOfNums s) (st.below.length + 1) = false then .error 5 else if hasS st.top.taken (strOfNums s) = true then .error 9 else
        .ok ⟨a, PF.new (strOfNums s), { st.top with taken := st.top.taken ++ [strOfNums s] } :: st.below⟩

noncomputable def propF (S T : List Int) (st : PSt) : Except Int PSt :=
  if st.pos + 12 ≤ S.length then
    if ((S.length - (st.pos + 12) : Nat) : Int) < numTo S (st.pos + 4) 4 then .error 4 else
    match behind S (st.pos + 12 + (numTo S (st.pos + 4) 4).toNat) with
    | none => .error 4
    | some a => match textFrom T (numTo S (st.pos + 8) 4).toNat with
      | none => .error 4
      | some s => if propB (strOfNums s) = false then .error 5 else if hasS (st.top.props.map Prod.fst) (strOfNums s) = true then .error 9 else
        .ok ⟨a, { st.top with props := st.top.props ++ [(strOfNums s, (S.drop (st.pos + 12)).take (numTo S (st.pos + 4) 4).toNat)] }, st.below⟩
  else .error 4

def leaveF (st : PSt) : PSt :=
  match st.below with
  | [] => st
  | f :: r => ⟨st.pos, { f with kids := f.kids ++ [st.top.done] }, r⟩
def skipF (st : PSt) : PSt := { st with pos := st.pos + 4 }

noncomputable def readF (S T : List Int) (st : PSt) (tok : Int) : Except Int PSt :=
  if tok = 1 then beginF S st else if tok = 3 then propF S T st else if tok = 2 then .ok (skipF (leaveF st)) else .ok (skipF st)

noncomputable def rootF (S T : List Int) : Nat → PSt → Except Int PN
  | 0, _ => .error 4
  | f + 1, st =>
    match tokAt S st.pos with
    | none => .error 4
    | some k =>
      if standB st.below.length st.top.kids.length k = false then .error 4 else
      match readF S T st k with
      | .error e => .error e
      | .ok st' => if k = 9 then (if st'.pos = S.length then .ok (st'.top.kids.headD default) else .error 4) else rootF S T f st'
def start : PSt := ⟨0, PF.new ⟨#[]⟩, []⟩

/-- The reserves from a place on. -/
def resF (zs : List Int) : Nat → Nat → List (Int × Int) → Except Int (List (Int × Int))
  | 0, _, _ => .error 4
  | f + 1, a, l =>
    if a + 16 ≤ zs.length then
      if numTo zs a 8 = 0 ∧ numTo zs (a + 8) 8 = 0 then (if 64 < l.length then .error 7 else .ok l) else resF zs f (a + 16) (l ++ [(numTo zs a 8, numTo zs (a + 8) 8)])
    else .error 4

def errOf {α : Type} : Except Int α → Int
  | .error e => e
  | .ok _ => 0

/-- The part of the bytes that begins at a place, and is so long. -/
def partL (zs : List Int) (a n : Nat) : List Int := (zs.drop a).take n

/-- What the bytes say, but for how many nodes and properties there may be. -/
noncomputable def readAll (zs : List Int) : Except Int (List (Int × Int) × PN) :=
  match resF zs (zs.length + 1) (hcell zs 4).toNat [] with
  | .error e => .error e
  | .ok rs => match rootF (partL zs (hcell zs 2).toNat (hcell zs 9).toNat) (partL zs (hcell zs 3).toNat (hcell zs 8).toNat) ((hcell zs 9).toNat + 1) start with
    | .error e => .error e
    | .ok n => .ok (rs, n)

/-! ### What holds of it -/
theorem textFrom_len {S : List Int} {a : Nat} {s : List Int} (h : textFrom S a = some s) : a + s.length + 1 ≤ S.length := by
  unfold textFrom at h
  split at h
  · rename_i h0
    simp only [Option.some.injEq] at h
    subst h
    have h1 : ((S.drop a).takeWhile fun z => decide (z ≠ 0)).length < (S.drop a).length := by
      have : ∀ l : List Int, 0 ∈ l → (l.takeWhile fun z => decide (z ≠ 0)).length < l.length := by
        intro l
        induction l with
        | nil => intro h; cases h
        | cons x l ih =>
          intro h
          by_cases hx : x = 0
          · simp [List.takeWhile_cons, hx]
          · have h2 : 0 ∈ l := by
              rcases List.mem_cons.1 h with e | e
              · exact absurd e.symm hx
              · exact e
            have := ih h2
            simp [List.takeWhile_cons, hx]
            simpa using this
      exact this _ h0
    rw [List.length_drop] at h1
    omega
  · cases h
theorem behind_some {S : List Int} {a b : Nat} (h : behind S a = some b) : b = a + padN a ∧ b ≤ S.length := by
  unfold behind at h
  split at h
  · rename_i h0
    simp only [Option.some.injEq] at h
    exact ⟨h.symm, h ▸ h0.1⟩
  · cases h
theorem readF_err_ne {S T : List Int} {st : PSt} {tok E : Int} (h : readF S T st tok = .error E) : E ≠ 0 := by
  unfold readF beginF propF at h
  repeat' split at h
  all_goals first | (cases h; done) | (simp only [Except.error.injEq] at h; omega)
/-- A token takes four bytes at least, and the reader stays within. -/
theorem readF_pos {S T : List Int} {st st' : PSt} {tok : Int} (h0 : st.pos + 4 ≤ S.length) (h : readF S T st tok = .ok st') : st.pos + 4 ≤ st'.pos ∧ st'.pos ≤ S.length := by
  unfold readF at h
  split at h
  · unfold beginF at h
    split at h
    · cases h
    · split at h
      · cases h
      · rename_i s hs a ha
        have h1 := behind_some ha
        repeat' split at h
        all_goals first | (cases h; done) | skip
        simp only [Except.ok.injEq] at h
        subst h
        simp only
        omega
  · split at h
    · unfold propF at h
      split at h
      · split at h
        · cases h
        · split at h
          · cases h
          · rename_i a ha
            have h1 := behind_some ha
            repeat' split at h
            all_goals first | (cases h; done) | skip
            simp only [Except.ok.injEq] at h
            subst h
            simp only
            omega
      · cases h
    · split at h <;> simp only [Except.ok.injEq] at h <;> subst h
      · unfold leaveF skipF
        split <;> simp only <;> omega
      · simp only [skipF]; omega
end Go.Proofs.Ytjilkifecdigfaa
