/-
  Layer 3: how many nodes and properties there are; how much a node has.
-/
import Derived.Test.YtmgokplpkmndoaaGreatTTree
import Derived.Below
import Derived.BigQuiet
namespace Go.Proofs.YtmgokplpkmndoaaGreat
open Go.RowKit
set_option linter.unusedVariables false
set_option linter.unusedSimpArgs false

mutual
def nodesN : Nd → Nat
  | .mk _ _ _ _ _ _ ks => 1 + nodesL ks
def nodesL : List Nd → Nat
  | [] => 0
  | k :: l => nodesN k + nodesL l
end
mutual
def propsN : Nd → Nat
  | .mk _ _ _ ps _ _ ks => ps.length + propsL ks
def propsL : List Nd → Nat
  | [] => 0
  | k :: l => propsN k + propsL l
end
theorem nodesL_append : ∀ a b : List Nd, nodesL (a ++ b) = nodesL a + nodesL b
  | [], b => by simp [nodesL]
  | x :: a, b => by simp only [List.cons_append, nodesL, nodesL_append a b]; omega
theorem propsL_append : ∀ a b : List Nd, propsL (a ++ b) = propsL a + propsL b
  | [], b => by simp [propsL]
  | x :: a, b => by simp only [List.cons_append, propsL, propsL_append a b]; omega
theorem take_next {α : Type} (l : List α) (j : Nat) (h : j < l.length) : l.take (j + 1) = l.take j ++ [l[j]] := by
  rw [List.take_add_one, List.getElem?_eq_getElem h]; rfl
theorem nodesL_next (l : List Nd) (j : Nat) (h : j < l.length) : nodesL (l.take (j + 1)) = nodesL (l.take j) + nodesN l[j] := by
  rw [take_next l j h, nodesL_append]; simp [nodesL]
theorem propsL_next (l : List Nd) (j : Nat) (h : j < l.length) : propsL (l.take (j + 1)) = propsL (l.take j) + propsN l[j] := by
  rw [take_next l j h, propsL_append]; simp [propsL]

theorem wrap_add (a b : Int) : wrap64 (wrap64 a + wrap64 b) = wrap64 (a + b) := by simp only [wrap64]; omega
theorem wrap_add_of {a b c d : Int} (h1 : a = wrap64 c) (h2 : b = wrap64 d) : wrap64 (a + b) = wrap64 (c + d) := by rw [h1, h2, wrap_add]
theorem wrap_small {a : Int} (h0 : -9223372036854775808 ≤ a) (h1 : a ≤ 9223372036854775807) : wrap64 a = a := by simp only [wrap64]; omega

/-- What both functions that count answer of a node. -/
def Counted (e : Ending) (n : Nd) : Prop := e = .returned (.tuple #[.int .i64 (wrap64 (nodesN n)), .int .i64 (wrap64 (propsN n))])

set_option maxHeartbeats 1000000 in
theorem count_any : ∀ (n : Nd) (w : World), n.In w w.heap.size → Calls Tryz.prog 32 #[n.val] w fun e w' => Counted e n ∧ Below w.heap.size w w' := by
  refine Nd.ind ?_
  intro n ih w hin
  obtain ⟨nm, pa, pc, ps, ka, kc, ks⟩ := n
  have HI := Lib.hid hin
  have IH := Lib.hid ih
  obtain ⟨hl, hm⟩ : ks.length ≤ kc ∧ kc ≤ 9223372036854775807 := hin.klen
  obtain ⟨hl2, hm2⟩ : ps.length ≤ pc ∧ pc ≤ 9223372036854775807 := hin.plen
  clear hin ih
  show Calls _ _ #[.agg #[.string nm, .slice pa ps.length pc, .slice ka ks.length kc]] _ _
  go_enter Tryz.func32, Tryz.ntmps32
  go_wp2_with fail
  go_region
  go_wp2_with fail
  go_loopw [4, 5, 16] (fun x y i wr => ∃ k : Nat, k ≤ ks.length ∧ i = .int .i64 k ∧ (∃ a b : Int, x = .int .i64 a ∧ y = .int .i64 b ∧ Hid (a = wrap64 (1 + nodesL (ks.take k)) ∧ b = wrap64 (ps.length + propsL (ks.take k)))) ∧ Below w.heap.size w wr) (fun _ _ i _ => ks.length - (intOf i).toNat)
  case atStart => exact ⟨0, Nat.zero_le _, rfl, ⟨1, ps.length, rfl, rfl, by simp only [List.take_zero, nodesL]; exact (wrap_small (by omega) (by omega)).symm, by simp only [List.take_zero, propsL]; exact (wrap_small (by omega) (by omega)).symm⟩, ((Below.refl _ _).alloc (Nat.le_refl _) _).drew⟩
  case round =>
    obtain ⟨k, hk, rfl, ⟨a, c, rfl, rfl, hac⟩, hb⟩ := hrel
    have HB := Lib.hid hb
    clear hb
    by_cases hlt : k < ks.length
    · obtain ⟨b, o, e, hb, c0, c1, c2⟩ := (HI.out.under HB.out).kcell (i := k) hlt
      obtain rfl : ka = _ := e
      replace c0 : _ = some (Value.string ks[k].name) := c0
      replace c1 : _ = some (Value.slice ks[k].pa ks[k].props.length ks[k].pc) := c1
      replace c2 : _ = some (Value.slice ks[k].ka ks[k].kids.length ks[k].kc) := c2
      have HB2 := Lib.hid (HB.out.alloc HB.out.size (.cells #[Value.string ks[k].name, .slice ks[k].pa ks[k].props.length ks[k].pc, .slice ks[k].ka ks[k].kids.length ks[k].kc] 33))
      go_wp2_with fail
      refine (IH.out ks[k] (List.getElem_mem hlt) _ (((HI.out.kid (List.getElem_mem hlt)).under HB2.out).more HB2.out.size)).mono ?_
      rintro e w' ⟨he, hb'⟩
      obtain rfl := he
      have HB3 := Lib.hid (HB2.out.trans (hb'.mono HB2.out.size))
      clear hb'
      go_wp2
      go_roundw
      case rel => exact ⟨k + 1, by omega, by go_num, ⟨_, _, rfl, rfl, by rw [nodesL_next _ _ hlt, wrap_add_of hac.1 rfl]; congr 1; omega, by rw [propsL_next _ _ hlt, wrap_add_of hac.2 rfl]; congr 1; omega⟩, HB3.out⟩
      case measure => simp [intOf]; omega
    · have he : k = ks.length := by omega
      have HE := Lib.hid he
      clear he
      go_wp2
      go_ret2
      refine ⟨?_, HB.out⟩
      have h1 := hac.1
      have h2 := hac.2
      rw [HE.out, List.take_length] at h1 h2
      rw [Counted, h1, h2, nodesN, propsN]
      congr 5

end Go.Proofs.YtmgokplpkmndoaaGreat
