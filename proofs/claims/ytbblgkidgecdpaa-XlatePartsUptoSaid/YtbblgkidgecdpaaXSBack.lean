/-
  Layer 13: slices.Backward over steps: the iterator has its contract.
-/
import Derived.Test.YtbblgkidgecdpaaBase5
import Derived.Test.YtbblgkidgecdpaaBase6
import Derived.Test.YtbblgkidgecdpaaRInH
import Derived.Laws.EntriesVeiled
namespace Go.Proofs.Ytbblgkidgecdpaa
open Go.RowKit
set_option linter.unusedVariables false
set_option linter.unusedSimpArgs false
attribute [local go_sem] Oper.semAt_some

/-- A step, as it lies: where its ranges lie, its error, and which ranges these are. -/
structure StepR where
  ra : Option Addr
  rn : Nat
  rc : Nat
  e : Int
  L : List (Int × Int × Int)
def StepR.sv (x : StepR) : Value := .slice x.ra x.rn x.rc
def StepR.val (x : StepR) : Value := .agg #[x.sv, .int .i64 x.e]
def StepR.two (x : StepR) : Value × Value := (x.sv, .int .i64 x.e)
/-- The cells of a row of steps. -/
def SRow (w : World) (B : Nat) (A : Option Addr) (l : List StepR) : Prop := 0 < l.length → ∃ b o, A = some ⟨b, o, none⟩ ∧ b < B ∧ ∀ i (h : i < l.length), w.cell? ⟨b, o + i * 2, none⟩ = some l[i].sv ∧ w.cell? ⟨b, o + i * 2 + 1, none⟩ = some (.int .i64 l[i].e)
theorem SRow.keep {w w' : World} {B : Nat} {A : Option Addr} {l : List StepR} (h : SRow w B A l) (hk : ∀ a : Addr, a.block < B → w'.cell? a = w.cell? a) : SRow w' B A l := fun h0 => by
  obtain ⟨b, o, e, hb, hc⟩ := h h0
  exact ⟨b, o, e, hb, fun i hi => ⟨(hk _ hb).trans (hc i hi).1, (hk _ hb).trans (hc i hi).2⟩⟩
theorem rev_stepS {α : Type} (l : List α) (m : Nat) (h : m < l.length) : l.reverse.take (l.length - (m + 1)) ++ [l[m]] = l.reverse.take (l.length - m) ∧ l.reverse.take (l.length - (m + 1)) ++ [l[m]] <+: l.reverse := by
  have e1 : l.length - m = (l.length - (m + 1)) + 1 := by omega
  have e2 : l.reverse.take (l.length - (m + 1)) ++ [l[m]] = l.reverse.take (l.length - m) := by
    rw [e1, List.take_add_one, List.getElem?_reverse (by omega)]
    rw [show l.length - 1 - (l.length - (m + 1)) = m by omega, List.getElem?_eq_getElem h]
    rfl
  exact ⟨e2, by rw [e2]; exact List.take_prefix _ _⟩
/-- What comes. -/
def EncBS (W : World) (p : StepR) (args : Array Value) : Prop := ∃ i : Int, args = #[.int .i64 i, p.val]
set_option maxRecDepth 20000 in
set_option maxHeartbeats 2000000 in
theorem backS_any (A : Option Addr) (n c : Nat) (w : World) : Calls Try.prog 46 #[.slice A n c] w fun e w' => e = .returned (.func (.func 54) #[] #[.pointer (some ⟨w.heap.size, 0, none⟩)]) ∧ w' = w.alloc (.cells #[.slice A n c] 90) := by
  refine (callsIn_wide (n := 0)).1 ?_
  refine callsIn_of_wp Try.func46 rfl trivial ?_ rfl
  simp only [Try.ntmps46, List.size_toArray, List.length_cons, List.length_nil, Nat.reduceAdd, Nat.reduceSub, Array.replicate_succ, Array.replicate_zero, List.push_toArray, List.append_toArray, List.nil_append, List.cons_append]
  gi_wp2
  go_ret
  exact ⟨rfl, rfl⟩
set_option maxRecDepth 20000 in
set_option maxHeartbeats 4000000 in
theorem backS_walks (A : Option Addr) (c : Nat) (l : List StepR) (n k : Nat) (w : World) (hrow : SRow w n A l) (hn : n ≤ w.heap.size) (hk : k < w.heap.size) (hl : l.length ≤ c ∧ c ≤ 9223372036854775807 ∧ l.length ≤ 140737488351232) :
    WalksX (fun W => W.heap[k]? = some (.cells #[.slice A l.length c] 90 (0, 0))) Try.prog 54 #[.pointer (some ⟨k, 0, none⟩)] n EncBS l.reverse w := by
  intro ld J Jx W hW hJ hJx hJX hY h0
  have hnW : n ≤ W.heap.size := Nat.le_trans hn hW.size
  have HROW := Lib.hid (fun (wr : World) (hb : Below n W wr) => (hrow.keep (w' := wr) (fun a ha => (hb.cell ha).trans (hW.cell (Nat.lt_of_lt_of_le ha hn)))))
  have HKW : Hid (∀ (T : Nat → Prop) (s : List StepR) (wr : World), J T s wr → wr.cell? ⟨k, 0, none⟩ = some (.slice A l.length c)) := Lib.hid (fun T s wr h => by rw [Lib.cell_of_heap (hJX T s wr h)]; rfl)
  have d0 := HKW.out _ _ _ h0
  have HY := Lib.hid hY
  have HJ := Lib.hid hJ
  have HNW := Lib.hid hnW
  have HJ0 := Lib.hid h0
  obtain ⟨L, hL⟩ : ∃ L, l.length = L := ⟨_, rfl⟩
  have HL := Lib.hid hL
  have HST : Hid (∀ m (h : m < l.length), l.reverse.take (L - (m + 1)) ++ [l[m]] = l.reverse.take (L - m) ∧ l.reverse.take (L - (m + 1)) ++ [l[m]] <+: l.reverse) := Lib.hid (by rw [← hL]; exact rev_stepS l)
  rw [hL] at d0 hl HKW
  obtain ⟨hl1, hl2, hl3⟩ := hl
  clear hrow hn hk hW hnW hY hJ hJx h0 hL hJX
  refine (callsIn_wide (n := 0)).1 ?_
  refine callsIn_of_wp Try.func54 rfl trivial ?_ rfl
  simp only [Try.ntmps54, List.size_toArray, List.length_cons, List.length_nil, Nat.reduceAdd, Nat.reduceSub, Array.replicate_succ, Array.replicate_zero, List.push_toArray, List.append_toArray, List.nil_append, List.cons_append]
  gi_wp2_with fail
  clear d0
  gi_loopw [3] (fun i wr => ∃ m : Nat, m ≤ L ∧ i = .int .i64 ((m : Int) - 1) ∧ J (fun _ => False) (l.reverse.take (L - m)) wr ∧ W.heap.size ≤ wr.heap.size ∧ Below n W wr) (fun i _ => (intOf i + 1).toNat)
  case atStart => exact ⟨L, Nat.le_refl _, rfl, by rw [Nat.sub_self]; exact HJ0.out, Nat.le_refl _, Below.refl _ _⟩
  case round =>
    obtain ⟨m, hm, rfl, hjj, hsz, hbw⟩ := hrel
    have d0 := HKW.out _ _ _ hjj
    rcases m with _ | m
    · have HJE := Lib.hid (show J (fun _ => False) l.reverse wr by
        rw [Nat.sub_zero, List.take_of_length_le (by rw [List.length_reverse, HL.out]; exact Nat.le_refl _)] at hjj
        exact hjj)
      have HSZ := Lib.hid hsz
      have e0 : (((0 : Nat) : Int) - 1) = -1 := rfl
      rw [e0]
      clear hjj hbw hsz
      gi_wp2
      go_end0
      exact ⟨⟨_, rfl⟩, fun _ => False, fun _ h => h.elim, HSZ.out, .inl HJE.out⟩
    · have hml : m < l.length := by rw [HL.out]; omega
      obtain ⟨b, o, ea, hb, hcell⟩ := HROW.out wr hbw (by omega)
      obtain⟨z0,z1⟩:=hcell m hml
      obtain rfl : A = _ := ea
      obtain ⟨q1, q2⟩ := HST.out m hml
      obtain ⟨fn, tmps, asg, bd, hyr, hR⟩ := HY.out (fun _ => False) (l.reverse.take (L - (m + 1))) l[m] #[.int .i64 m, l[m].val] wr hjj (fun _ h => h.elim) hsz hbw ⟨m, rfl⟩ q2
      rw [q1] at hR
      have HR := Lib.hid hR
      have HSZ := Lib.hid hsz
      have HBW := Lib.hid hbw
      have HQ2 : Hid (l.reverse.take (L - m) <+: l.reverse) := Lib.hid (List.take_prefix _ _)
      have e0 : (((m + 1 : Nat) : Int) - 1) = (m : Int) := by omega
      rw [e0]
      have e2 : IntKind.i64.wrap ((m : Int) - 1) = (m : Int) - 1 := IntWalk.i64_in _ (by omega)
      have hmL : m < L := by omega
      clear hjj hbw hsz q1 q2 hcell hb hR e0
      generalize l[m] = x at *
      clear hml
      simp only [StepR.val,StepR.sv] at hyr z0 z1
      gi_wp2_with (refine ⟨rfl, RoundIn.mono HR.out ?_⟩; clear HR hyr; rintro e W4 ⟨hk4, (⟨rfl, hj4⟩ | ⟨rfl, hx4⟩)⟩)
      · go_roundw
        case rel => exact ⟨m, by omega, by go_num, hj4, Nat.le_trans HSZ.out hk4.below.size, HBW.out.trans hk4.below⟩
        case measure => simp [intOf]
      · gi_wp2
        refine bodyPost_ret (v := .tuple #[]) (by simp [results, Try.results54, go_sem]) rfl ?_
        exact ⟨⟨_, rfl⟩, fun _ => False, fun _ h => h.elim, Nat.le_trans HSZ.out hk4.below.size, .inr ⟨_, HQ2.out, hx4⟩⟩
end Go.Proofs.Ytbblgkidgecdpaa
