/-
  Layer 3: how many nodes and properties there are; how much a node has.
-/
import Derived.Test.YtgogkcmdcfcikaaTTree
import Derived.Below
import Derived.BigQuiet
namespace Go.Proofs.Ytgogkcmdcfcikaa
open Go.RowKit
set_option linter.unusedVariables false
set_option linter.unusedSimpArgs false

mutual
def nodesN : Nd → Nat
  | .mk _ _ _ _ _ _ ks => 1 + nodesL ks
def nodesL : List Nd → Nat
  | [] => 0
  | k :: l => nodesN k + nodesL l
end
mutual
def propsN : Nd → Nat
  | .mk _ _ _ ps _ _ ks => ps.length + propsL ks
def propsL : List Nd → Nat
  | [] => 0
  | k :: l => propsN k + propsL l
end
theorem nodesL_append : ∀ a b : List Nd, nodesL (a ++ b) = nodesL a + nodesL b
  | [], b => by simp [nodesL]
  | x :: a, b => by simp only [List.cons_append, nodesL, nodesL_append a b]; omega
theorem propsL_append : ∀ a b : List Nd, propsL (a ++ b) = propsL a + propsL b
  | [], b => by simp [propsL]
  | x :: a, b => by simp only [List.cons_append, propsL, propsL_append a b]; omega
theorem take_next {α : Type} (l : List α) (j : Nat) (h : j < l.length) : l.take (j + 1) = l.take j ++ [l[j]] := by
  rw [List.take_add_one, List.getElem?_eq_getElem h]; rfl
theorem nodesL_next (l : List Nd) (j : Nat) (h : j < l.length) : nodesL (l.take (j + 1)) = nodesL (l.take j) + nodesN l[j] := by
  rw [take_next l j h, nodesL_append]; simp [nodesL]
theorem propsL_next (l : List Nd) (j : Nat) (h : j < l.length) : propsL (l.take (j + 1)) = propsL (l.take j) + propsN l[j] := by
  rw [take_next l j h, propsL_append]; simp [propsL]

theorem wrap_add (a b : Int) : wrap64 (wrap64 a + wrap64 b) = wrap64 (a + b) := by simp only [wrap64]; omega
theorem wrap_add_of {a b c d : Int} (h1 : a = wrap64 c) (h2 : b = wrap64 d) : wrap64 (a + b) = wrap64 (c + d) := by rw [h1, h2, wrap_add]
theorem wrap_small {a : Int} (h0 : -9223372036854775808 ≤ a) (h1 : a ≤ 9223372036854775807) : wrap64 a = a := by simp only [wrap64]; omega

/-- What both functions that count answer of a node. -/
def Counted (e : Ending) (n : Nd) : Prop := e = .returned (.tuple #[.int .i64 (wrap64 (nodesN n)), .int .i64 (wrap64 (propsN n))])

set_option maxHeartbeats 2000000 in
theorem size_any : ∀ (n : Nd) (d : Int) (w : World), n.In w w.heap.size → 0 ≤ d → d ≤ 21 → Calls Try.prog 28 #[n.val, .int .i64 d] w fun e w' => (∃ x : Int, e = .returned (.int .i64 x)) ∧ Below w.heap.size w w' := by
  refine Nd.ind ?_
  intro n ih d w hin hd0 hd1
  obtain ⟨nm, pa, pc, ps, ka, kc, ks⟩ := n
  have HI := Lib.hid hin
  have IH := Lib.hid ih
  obtain ⟨hl, hm⟩ : ks.length ≤ kc ∧ kc ≤ 9223372036854775807 := hin.klen
  obtain ⟨hl2, hm2⟩ : ps.length ≤ pc ∧ pc ≤ 9223372036854775807 := hin.plen
  obtain ⟨hn, _⟩ : nm.size ≤ 140737488351232 ∧ _ := hin.name_le
  clear hin ih
  show Calls _ _ #[.agg #[.string nm, .slice pa ps.length pc, .slice ka ks.length kc], .int .i64 d] _ _
  go_enter Try.func28, Try.ntmps28
  go_wp2_with fail
  go_loopw [5, 15] (fun x i wr => ∃ k : Nat, k ≤ ps.length ∧ i = .int .i64 k ∧ (∃ a : Int, x = .int .i64 a) ∧ Below (w.heap.size + 1) (w.alloc (.cells #[Value.string nm, .slice pa ps.length pc, .slice ka ks.length kc] 25)) wr) (fun _ i _ => ps.length - (intOf i).toNat)
  case atStart => exact ⟨0, Nat.zero_le _, rfl, ⟨_, rfl⟩, Below.refl _ _⟩
  case round =>
    obtain ⟨k, hk, rfl, ⟨a, rfl⟩, hb⟩ := hrel
    have HB0 := Lib.hid hb
    have HB := Lib.hid (((Below.refl w.heap.size w).alloc (Nat.le_refl _) _).trans (hb.mono (Nat.le_succ _)))
    clear hb
    by_cases hlt : k < ps.length
    · obtain ⟨b, o, e, hb, c0, c1⟩ := (HI.out.under HB.out).pcell (i := k) hlt
      obtain rfl : pa = _ := e
      replace c0 : _ = some (Value.string ps[k].name) := c0
      replace c1 : _ = some (Value.slice ps[k].addr ps[k].zs.length ps[k].cap) := c1
      have hbox : wr.cell? ⟨w.heap.size, 1, none⟩ = some (.slice (some ⟨b, o, none⟩) ps.length pc) := (HB0.out.cell (Nat.lt_succ_self _)).trans (World.cell?_alloc_new _ _ _ _)
      go_wp2_with fail
      go_region
      go_wp2
      go_roundw
      case rel => exact ⟨k + 1, by omega, by go_num, ⟨_, rfl⟩, HB0.out.drew⟩
      case measure => simp [intOf]; omega
    · have hbox : wr.cell? ⟨w.heap.size, 2, none⟩ = some (.slice ka ks.length kc) := (HB0.out.cell (Nat.lt_succ_self _)).trans (World.cell?_alloc_new _ _ _ _)
      go_wp2_with fail
      clear hbox
      go_loopw [5, 40] (fun x i wr => ∃ k : Nat, k ≤ ks.length ∧ i = .int .i64 k ∧ (∃ a : Int, x = .int .i64 a) ∧ Below (w.heap.size + 1) (w.alloc (.cells #[Value.string nm, .slice pa ps.length pc, .slice ka ks.length kc] 25)) wr) (fun _ i _ => ks.length - (intOf i).toNat)
      case atStart => exact ⟨0, Nat.zero_le _, rfl, ⟨_, rfl⟩, HB0.out⟩
      case round =>
        clear HB HB0
        obtain ⟨k, hk, rfl, ⟨a, rfl⟩, hb⟩ := hrel
        have HB0 := Lib.hid hb
        have HB := Lib.hid (((Below.refl w.heap.size w).alloc (Nat.le_refl _) _).trans (hb.mono (Nat.le_succ _)))
        clear hb
        by_cases hlt' : k < ks.length
        · obtain ⟨b, o, e, hb, c0, c1, c2⟩ := (HI.out.under HB.out).kcell (i := k) hlt'
          obtain rfl : ka = _ := e
          replace c0 : _ = some (Value.string ks[k].name) := c0
          replace c1 : _ = some (Value.slice ks[k].pa ks[k].props.length ks[k].pc) := c1
          replace c2 : _ = some (Value.slice ks[k].ka ks[k].kids.length ks[k].kc) := c2
          have hbox : wr.cell? ⟨w.heap.size, 2, none⟩ = some (.slice (some ⟨b, o, none⟩) ks.length kc) := (HB0.out.cell (Nat.lt_succ_self _)).trans (World.cell?_alloc_new _ _ _ _)
          by_cases hd : 20 < d
          · go_wp2
            go_ret
            exact ⟨⟨_, rfl⟩, HB.out⟩
          · by_cases ha : 100000 < a
            · go_wp2
              go_ret
              exact ⟨⟨_, rfl⟩, HB.out⟩
            · go_wp2_with fail
              refine (IH.out ks[k] (List.getElem_mem hlt') _ _ (((HI.out.kid (List.getElem_mem hlt')).under HB.out).more HB.out.size) (by omega) (by omega)).mono ?_
              rintro e w' ⟨⟨x, rfl⟩, hb'⟩
              have HB3 := Lib.hid (HB0.out.trans (hb'.mono (by have := HB0.out.size; simpa using this)))
              clear hb'
              go_wp2
              go_roundw
              case rel => exact ⟨k + 1, by omega, by go_num, ⟨_, rfl⟩, HB3.out⟩
              case measure => simp [intOf]; omega
        · go_wp2
          go_ret
          exact ⟨⟨_, rfl⟩, HB.out⟩
end Go.Proofs.Ytgogkcmdcfcikaa
