/-
  Base, part 2: what the proofs of this claim lean on.
-/
import Derived.Test.YtnopcnbeklbfoaaBase1
import Derived.Below
import Derived.BigQuiet
import Derived.Deep.QuietTactic
import Derived.Deep.RegionHeld3
import Derived.Maps.Own
import Derived.Maps.OwnSet
import Derived.Maps.OwnOps
import Derived.Maps.Views
import Derived.Lib.AppendStr

/-! Layer 3: how many nodes and properties there are; how much a node has. -/
namespace Go.Proofs.Ytnopcnbeklbfoaa
open Go.RowKit
set_option linter.unusedVariables false
set_option linter.unusedSimpArgs false

mutual
def nodesN : Nd → Nat
  | .mk _ _ _ _ _ _ ks => 1 + nodesL ks
def nodesL : List Nd → Nat
  | [] => 0
  | k :: l => nodesN k + nodesL l
end
mutual
def propsN : Nd → Nat
  | .mk _ _ _ ps _ _ ks => ps.length + propsL ks
def propsL : List Nd → Nat
  | [] => 0
  | k :: l => propsN k + propsL l
end
theorem nodesL_append : ∀ a b : List Nd, nodesL (a ++ b) = nodesL a + nodesL b
  | [], b => by simp [nodesL]
  | x :: a, b => by simp only [List.cons_append, nodesL, nodesL_append a b]; omega
theorem propsL_append : ∀ a b : List Nd, propsL (a ++ b) = propsL a + propsL b
  | [], b => by simp [propsL]
  | x :: a, b => by simp only [List.cons_append, propsL, propsL_append a b]; omega
theorem take_next {α : Type} (l : List α) (j : Nat) (h : j < l.length) : l.take (j + 1) = l.take j ++ [l[j]] := by
  rw [List.take_add_one, List.getElem?_eq_getElem h]; rfl
theorem nodesL_next (l : List Nd) (j : Nat) (h : j < l.length) : nodesL (l.take (j + 1)) = nodesL (l.take j) + nodesN l[j] := by
  rw [take_next l j h, nodesL_append]; simp [nodesL]
theorem propsL_next (l : List Nd) (j : Nat) (h : j < l.length) : propsL (l.take (j + 1)) = propsL (l.take j) + propsN l[j] := by
  rw [take_next l j h, propsL_append]; simp [propsL]

theorem wrap_add (a b : Int) : wrap64 (wrap64 a + wrap64 b) = wrap64 (a + b) := by simp only [wrap64]; omega
theorem wrap_add_of {a b c d : Int} (h1 : a = wrap64 c) (h2 : b = wrap64 d) : wrap64 (a + b) = wrap64 (c + d) := by rw [h1, h2, wrap_add]
theorem wrap_small {a : Int} (h0 : -9223372036854775808 ≤ a) (h1 : a ≤ 9223372036854775807) : wrap64 a = a := by simp only [wrap64]; omega

/-- What both functions that count answer of a node. -/
def Counted (e : Ending) (n : Nd) : Prop := e = .returned (.tuple #[.int .i64 (wrap64 (nodesN n)), .int .i64 (wrap64 (propsN n))])

set_option maxHeartbeats 1000000 in
theorem count_any : ∀ (n : Nd) (w : World), n.In w w.heap.size → Calls Try.prog 64 #[n.val] w fun e w' => Counted e n ∧ Below w.heap.size w w' := by
  refine Nd.ind ?_
  intro n ih w hin
  obtain ⟨nm, pa, pc, ps, ka, kc, ks⟩ := n
  have HI := Lib.hid hin
  have IH := Lib.hid ih
  obtain ⟨hl, hm⟩ : ks.length ≤ kc ∧ kc ≤ 9223372036854775807 := hin.klen
  obtain ⟨hl2, hm2⟩ : ps.length ≤ pc ∧ pc ≤ 9223372036854775807 := hin.plen
  clear hin ih
  show Calls _ _ #[.agg #[.string nm, .slice pa ps.length pc, .slice ka ks.length kc]] _ _
  go_enter Try.func64, Try.ntmps64
  go_wp2_with fail
  go_region
  go_wp2_with fail
  go_loopw [4, 5, 16] (fun x y i wr => ∃ k : Nat, k ≤ ks.length ∧ i = .int .i64 k ∧ (∃ a b : Int, x = .int .i64 a ∧ y = .int .i64 b ∧ Hid (a = wrap64 (1 + nodesL (ks.take k)) ∧ b = wrap64 (ps.length + propsL (ks.take k)))) ∧ Below w.heap.size w wr) (fun _ _ i _ => ks.length - (intOf i).toNat)
  case atStart => exact ⟨0, Nat.zero_le _, rfl, ⟨1, ps.length, rfl, rfl, by simp only [List.take_zero, nodesL]; exact (wrap_small (by omega) (by omega)).symm, by simp only [List.take_zero, propsL]; exact (wrap_small (by omega) (by omega)).symm⟩, ((Below.refl _ _).alloc (Nat.le_refl _) _).drew⟩
  case round =>
    obtain ⟨k, hk, rfl, ⟨a, c, rfl, rfl, hac⟩, hb⟩ := hrel
    have HB := Lib.hid hb
    clear hb
    by_cases hlt : k < ks.length
    · obtain ⟨b, o, e, hb, c0, c1, c2⟩ := (HI.out.under HB.out).kcell (i := k) hlt
      obtain rfl : ka = _ := e
      replace c0 : _ = some (Value.string ks[k].name) := c0
      replace c1 : _ = some (Value.slice ks[k].pa ks[k].props.length ks[k].pc) := c1
      replace c2 : _ = some (Value.slice ks[k].ka ks[k].kids.length ks[k].kc) := c2
      have HB2 := Lib.hid (HB.out.alloc HB.out.size (.cells #[Value.string ks[k].name, .slice ks[k].pa ks[k].props.length ks[k].pc, .slice ks[k].ka ks[k].kids.length ks[k].kc] 38))
      go_wp2_with fail
      refine (IH.out ks[k] (List.getElem_mem hlt) _ (((HI.out.kid (List.getElem_mem hlt)).under HB2.out).more HB2.out.size)).mono ?_
      rintro e w' ⟨he, hb'⟩
      obtain rfl := he
      have HB3 := Lib.hid (HB2.out.trans (hb'.mono HB2.out.size))
      clear hb'
      go_wp2
      go_roundw
      case rel => exact ⟨k + 1, by omega, by go_num, ⟨_, _, rfl, rfl, by rw [nodesL_next _ _ hlt, wrap_add_of hac.1 rfl]; congr 1; omega, by rw [propsL_next _ _ hlt, wrap_add_of hac.2 rfl]; congr 1; omega⟩, HB3.out⟩
      case measure => simp [intOf]; omega
    · have he : k = ks.length := by omega
      have HE := Lib.hid he
      clear he
      go_wp2
      go_ret2
      refine ⟨?_, HB.out⟩
      have h1 := hac.1
      have h2 := hac.2
      rw [HE.out, List.take_length] at h1 h2
      rw [Counted, h1, h2, nodesN, propsN]
      congr 5

set_option maxHeartbeats 1000000 in
theorem refcount_any : ∀ (n : Nd) (w : World), n.In w w.heap.size → Calls Try.prog 25 #[n.val] w fun e w' => Counted e n ∧ Below w.heap.size w w' := by
  refine Nd.ind ?_
  intro n ih w hin
  obtain ⟨nm, pa, pc, ps, ka, kc, ks⟩ := n
  have HI := Lib.hid hin
  have IH := Lib.hid ih
  obtain ⟨hl, hm⟩ : ks.length ≤ kc ∧ kc ≤ 9223372036854775807 := hin.klen
  obtain ⟨hl2, hm2⟩ : ps.length ≤ pc ∧ pc ≤ 9223372036854775807 := hin.plen
  clear hin ih
  show Calls _ _ #[.agg #[.string nm, .slice pa ps.length pc, .slice ka ks.length kc]] _ _
  go_enter Try.func25, Try.ntmps25
  go_wp2_with fail
  go_region
  go_wp2_with fail
  go_loopw [4, 5, 15] (fun x y i wr => ∃ k : Nat, k ≤ ks.length ∧ i = .int .i64 k ∧ (∃ a b : Int, x = .int .i64 a ∧ y = .int .i64 b ∧ Hid (a = wrap64 (1 + nodesL (ks.take k)) ∧ b = wrap64 (ps.length + propsL (ks.take k)))) ∧
      Below (w.heap.size + 1) (w.alloc (.cells #[Value.string nm, .slice pa ps.length pc, .slice ka ks.length kc] 38)) wr) (fun _ _ i _ => ks.length - (intOf i).toNat)
  case atStart => exact ⟨0, Nat.zero_le _, rfl, ⟨1, ps.length, rfl, rfl, by simp only [List.take_zero, nodesL]; exact (wrap_small (by omega) (by omega)).symm, by simp only [List.take_zero, propsL]; exact (wrap_small (by omega) (by omega)).symm⟩, (Below.refl _ _).drew⟩
  case round =>
    obtain ⟨k, hk, rfl, ⟨a, c, rfl, rfl, hac⟩, hb⟩ := hrel
    have HB0 := Lib.hid hb
    have HB := Lib.hid (((Below.refl w.heap.size w).alloc (Nat.le_refl _) _).trans (hb.mono (Nat.le_succ _)))
    clear hb
    by_cases hlt : k < ks.length
    · obtain ⟨b, o, e, hb, c0, c1, c2⟩ := (HI.out.under HB.out).kcell (i := k) hlt
      obtain rfl : ka = _ := e
      replace c0 : _ = some (Value.string ks[k].name) := c0
      replace c1 : _ = some (Value.slice ks[k].pa ks[k].props.length ks[k].pc) := c1
      replace c2 : _ = some (Value.slice ks[k].ka ks[k].kids.length ks[k].kc) := c2
      have hbox : wr.cell? ⟨w.heap.size, 2, none⟩ = some (.slice (some ⟨b, o, none⟩) ks.length kc) := (HB0.out.cell (Nat.lt_succ_self _)).trans (World.cell?_alloc_new _ _ _ _)
      go_wp2_with fail
      refine (IH.out ks[k] (List.getElem_mem hlt) _ (((HI.out.kid (List.getElem_mem hlt)).under HB.out).more HB.out.size)).mono ?_
      rintro e w' ⟨he, hb'⟩
      obtain rfl := he
      have HB3 := Lib.hid (HB0.out.trans (hb'.mono (by have := HB0.out.size; simpa using this)))
      clear hb'
      go_wp2
      go_roundw
      case rel => exact ⟨k + 1, by omega, by go_num, ⟨_, _, rfl, rfl, by rw [nodesL_next _ _ hlt, wrap_add_of hac.1 rfl]; congr 1; omega, by rw [propsL_next _ _ hlt, wrap_add_of hac.2 rfl]; congr 1; omega⟩, HB3.out⟩
      case measure => simp [intOf]; omega
    · have he : k = ks.length := by omega
      have HE := Lib.hid he
      clear he
      go_wp2
      go_ret2
      refine ⟨?_, HB.out⟩
      have h1 := hac.1
      have h2 := hac.2
      rw [HE.out, List.take_length] at h1 h2
      rw [Counted, h1, h2, nodesN, propsN]
      congr 5

set_option maxHeartbeats 2000000 in
theorem size_any : ∀ (n : Nd) (d : Int) (w : World), n.In w w.heap.size → 0 ≤ d → d ≤ 21 → Calls Try.prog 23 #[n.val, .int .i64 d] w fun e w' => (∃ x : Int, e = .returned (.int .i64 x)) ∧ Below w.heap.size w w' := by
  refine Nd.ind ?_
  intro n ih d w hin hd0 hd1
  obtain ⟨nm, pa, pc, ps, ka, kc, ks⟩ := n
  have HI := Lib.hid hin
  have IH := Lib.hid ih
  obtain ⟨hl, hm⟩ : ks.length ≤ kc ∧ kc ≤ 9223372036854775807 := hin.klen
  obtain ⟨hl2, hm2⟩ : ps.length ≤ pc ∧ pc ≤ 9223372036854775807 := hin.plen
  obtain ⟨hn, _⟩ : nm.size ≤ 140737488351232 ∧ _ := hin.name_le
  clear hin ih
  show Calls _ _ #[.agg #[.string nm, .slice pa ps.length pc, .slice ka ks.length kc], .int .i64 d] _ _
  go_enter Try.func23, Try.ntmps23
  go_wp2_with fail
  go_loopw [5, 15] (fun x i wr => ∃ k : Nat, k ≤ ps.length ∧ i = .int .i64 k ∧ (∃ a : Int, x = .int .i64 a) ∧ Below (w.heap.size + 1) (w.alloc (.cells #[Value.string nm, .slice pa ps.length pc, .slice ka ks.length kc] 38)) wr) (fun _ i _ => ps.length - (intOf i).toNat)
  case atStart => exact ⟨0, Nat.zero_le _, rfl, ⟨_, rfl⟩, Below.refl _ _⟩
  case round =>
    obtain ⟨k, hk, rfl, ⟨a, rfl⟩, hb⟩ := hrel
    have HB0 := Lib.hid hb
    have HB := Lib.hid (((Below.refl w.heap.size w).alloc (Nat.le_refl _) _).trans (hb.mono (Nat.le_succ _)))
    clear hb
    by_cases hlt : k < ps.length
    · obtain ⟨b, o, e, hb, c0, c1⟩ := (HI.out.under HB.out).pcell (i := k) hlt
      obtain rfl : pa = _ := e
      replace c0 : _ = some (Value.string ps[k].name) := c0
      replace c1 : _ = some (Value.slice ps[k].addr ps[k].zs.length ps[k].cap) := c1
      have hbox : wr.cell? ⟨w.heap.size, 1, none⟩ = some (.slice (some ⟨b, o, none⟩) ps.length pc) := (HB0.out.cell (Nat.lt_succ_self _)).trans (World.cell?_alloc_new _ _ _ _)
      go_wp2_with fail
      go_region
      go_wp2
      go_roundw
      case rel => exact ⟨k + 1, by omega, by go_num, ⟨_, rfl⟩, HB0.out.drew⟩
      case measure => simp [intOf]; omega
    · have hbox : wr.cell? ⟨w.heap.size, 2, none⟩ = some (.slice ka ks.length kc) := (HB0.out.cell (Nat.lt_succ_self _)).trans (World.cell?_alloc_new _ _ _ _)
      go_wp2_with fail
      clear hbox
      go_loopw [5, 40] (fun x i wr => ∃ k : Nat, k ≤ ks.length ∧ i = .int .i64 k ∧ (∃ a : Int, x = .int .i64 a) ∧ Below (w.heap.size + 1) (w.alloc (.cells #[Value.string nm, .slice pa ps.length pc, .slice ka ks.length kc] 38)) wr) (fun _ i _ => ks.length - (intOf i).toNat)
      case atStart => exact ⟨0, Nat.zero_le _, rfl, ⟨_, rfl⟩, HB0.out⟩
      case round =>
        clear HB HB0
        obtain ⟨k, hk, rfl, ⟨a, rfl⟩, hb⟩ := hrel
        have HB0 := Lib.hid hb
        have HB := Lib.hid (((Below.refl w.heap.size w).alloc (Nat.le_refl _) _).trans (hb.mono (Nat.le_succ _)))
        clear hb
        by_cases hlt' : k < ks.length
        · obtain ⟨b, o, e, hb, c0, c1, c2⟩ := (HI.out.under HB.out).kcell (i := k) hlt'
          obtain rfl : ka = _ := e
          replace c0 : _ = some (Value.string ks[k].name) := c0
          replace c1 : _ = some (Value.slice ks[k].pa ks[k].props.length ks[k].pc) := c1
          replace c2 : _ = some (Value.slice ks[k].ka ks[k].kids.length ks[k].kc) := c2
          have hbox : wr.cell? ⟨w.heap.size, 2, none⟩ = some (.slice (some ⟨b, o, none⟩) ks.length kc) := (HB0.out.cell (Nat.lt_succ_self _)).trans (World.cell?_alloc_new _ _ _ _)
          by_cases hd : 20 < d
          · go_wp2
            go_ret
            exact ⟨⟨_, rfl⟩, HB.out⟩
          · by_cases ha : 100000 < a
            · go_wp2
              go_ret
              exact ⟨⟨_, rfl⟩, HB.out⟩
            · go_wp2_with fail
              refine (IH.out ks[k] (List.getElem_mem hlt') _ _ (((HI.out.kid (List.getElem_mem hlt')).under HB.out).more HB.out.size) (by omega) (by omega)).mono ?_
              rintro e w' ⟨⟨x, rfl⟩, hb'⟩
              have HB3 := Lib.hid (HB0.out.trans (hb'.mono (by have := HB0.out.size; simpa using this)))
              clear hb'
              go_wp2
              go_roundw
              case rel => exact ⟨k + 1, by omega, by go_num, ⟨_, rfl⟩, HB3.out⟩
              case measure => simp [intOf]; omega
        · go_wp2
          go_ret
          exact ⟨⟨_, rfl⟩, HB.out⟩
end Go.Proofs.Ytnopcnbeklbfoaa

/-! The place of the first name that is s, in a list of names. -/
namespace Go.Proofs.Ytnopcnbeklbfoaa
open Go.RowKit
set_option linter.unusedVariables false
set_option linter.unusedSimpArgs false

/-- The place of the first name that is s; -1: none. -/
def idxOf : List ByteArray → ByteArray → Int
  | [], _ => -1
  | x :: l, s => if x = s then 0 else if idxOf l s < 0 then -1 else idxOf l s + 1

theorem idxOf_hit : ∀ (l : List ByteArray) (s : ByteArray) (k : Nat) (hk : k < l.length), l[k] = s → (∀ j (hj : j < k), l[j] ≠ s) → idxOf l s = k
  | x :: l, s, 0, hk, h, _ => by simp only [List.getElem_cons_zero] at h; simp [idxOf, h]
  | x :: l, s, k + 1, hk, h, h' => by
    have h0 : x ≠ s := by have := h' 0 (by omega); simpa using this
    have ih := idxOf_hit l s k (by simpa using hk) (by simpa using h) (fun j hj => by have := h' (j + 1) (by omega); simpa using this)
    rw [idxOf, if_neg h0, ih, if_neg (by omega)]
    omega
theorem idxOf_miss : ∀ (l : List ByteArray) (s : ByteArray), (∀ j (hj : j < l.length), l[j] ≠ s) → idxOf l s = -1
  | [], s, _ => rfl
  | x :: l, s, h => by
    have h0 : x ≠ s := by have := h 0 (by simp); simpa using this
    have ih := idxOf_miss l s (fun j hj => by have := h (j + 1) (by simpa using hj); simpa using this)
    rw [idxOf, if_neg h0, ih, if_pos (by omega)]

/-- None of the first k names is s. -/
def Missed (l : List ByteArray) (s : ByteArray) (k : Nat) : Prop := k ≤ l.length ∧ ∀ j (hj : j < l.length), j < k → l[j] ≠ s

theorem Missed.zero (l : List ByteArray) (s : ByteArray) : Missed l s 0 := ⟨Nat.zero_le _, fun _ _ h => absurd h (Nat.not_lt_zero _)⟩
theorem Missed.succ {l : List ByteArray} {s : ByteArray} {k : Nat} (h : Missed l s k) (hk : k < l.length) (hne : l[k] ≠ s) : Missed l s (k + 1) :=
  ⟨hk, fun j hj hlt => by
    rcases Nat.lt_succ_iff_lt_or_eq.1 hlt with h1 | rfl
    · exact h.2 j hj h1
    · exact hne⟩
theorem Missed.hit {l : List ByteArray} {s : ByteArray} {k : Nat} (h : Missed l s k) (hk : k < l.length) (he : l[k] = s) : idxOf l s = k := idxOf_hit l s k hk he (fun j hj => h.2 j (by omega) hj)
theorem Missed.all {l : List ByteArray} {s : ByteArray} {k : Nat} (h : Missed l s k) (hk : ¬ k < l.length) : idxOf l s = -1 := idxOf_miss l s (fun j hj => h.2 j hj (by omega))

theorem str_ne {x s : ByteArray} (h : x ≠ s) : (x.toList == s.toList) = false := by
  rw [beq_eq_false_iff_ne]
  intro e
  rw [Lib.toList_data, Lib.toList_data] at e
  exact h (WideShapes.bytes_inj e)

end Go.Proofs.Ytnopcnbeklbfoaa

/-! The document's blob: the names of properties, each once, in order. -/
namespace Go.Proofs.Ytnopcnbeklbfoaa
open Go.RowKit
set_option linter.unusedVariables false
set_option linter.unusedSimpArgs false

/-- Is a name there? -/
def hasT (l : List ByteArray) (s : ByteArray) : Bool := l.any fun x => decide (x = s)
theorem hasT_next (l : List ByteArray) (s : ByteArray) (j : Nat) (h : j < l.length) : hasT (l.take (j + 1)) s = (hasT (l.take j) s || decide (l[j] = s)) := by
  unfold hasT
  rw [take_next l j h, List.any_append]
  simp
/-- A name behind those ahead, if it isn't there. -/
def addT (l : List ByteArray) (s : ByteArray) : List ByteArray := if hasT l s = true then l else l ++ [s]
mutual
def textsN : Nd → List ByteArray → List ByteArray
  | .mk _ _ _ ps _ _ ks, l => textsL ks ((ps.map PV.name).foldl addT l)
def textsL : List Nd → List ByteArray → List ByteArray
  | [], l => l
  | k :: r, l => textsL r (textsN k l)
end
theorem textsL_append : ∀ (a b : List Nd) (l : List ByteArray), textsL (a ++ b) l = textsL b (textsL a l)
  | [], b, l => by simp [textsL]
  | x :: a, b, l => by simp only [List.cons_append, textsL, textsL_append a b]
theorem textsL_next (ks : List Nd) (j : Nat) (h : j < ks.length) (l : List ByteArray) : textsL (ks.take (j + 1)) l = textsN ks[j] (textsL (ks.take j) l) := by
  rw [take_next ks j h, textsL_append]; simp [textsL]
theorem addT_length (l : List ByteArray) (s : ByteArray) : (addT l s).length ≤ l.length + 1 := by
  unfold addT; split <;> simp
theorem fold_length : ∀ (ns l : List ByteArray), (ns.foldl addT l).length ≤ l.length + ns.length
  | [], l => by simp
  | s :: ns, l => by
    have h1 := addT_length l s
    have h2 := fold_length ns (addT l s)
    simp only [List.foldl_cons, List.length_cons]
    omega
theorem texts_length_all (l0 : List ByteArray) : True := trivial
theorem textsN_length : ∀ (n : Nd) (l : List ByteArray), (textsN n l).length ≤ l.length + propsN n := by
  refine Nd.ind ?_
  intro n ih l
  obtain ⟨nm, pa, pc, ps, ka, kc, ks⟩ := n
  have hl : ∀ (r : List Nd), (∀ k ∈ r, k ∈ ks) → ∀ l, (textsL r l).length ≤ l.length + propsL r := by
    intro r
    induction r with
    | nil => intro _ l; simp [textsL]
    | cons k r ihr =>
      intro hr l
      have h1 := ih k (hr k (by simp)) l
      have h2 := ihr (fun x hx => hr x (by simp [hx])) (textsN k l)
      simp only [textsL, propsL]
      omega
  have h1 := fold_length (ps.map PV.name) l
  have h2 := hl ks (fun _ h => h) ((ps.map PV.name).foldl addT l)
  simp only [textsN, propsN]
  simp only [List.length_map] at h1
  omega
theorem propsL_take (ks : List Nd) (j : Nat) : propsL (ks.take j) ≤ propsL ks := by
  conv => rhs; rw [← List.take_append_drop j ks, propsL_append]
  omega
theorem textsL_length (ks : List Nd) (l : List ByteArray) : (textsL ks l).length ≤ l.length + propsL ks := by
  induction ks generalizing l with
  | nil => simp [textsL]
  | cons k r ih =>
    have h1 := textsN_length k l
    have h2 := ih (textsN k l)
    simp only [textsL, propsL]
    omega

/-! ### Rows of texts -/
abbrev strs (l : List ByteArray) : List Value := l.map Value.string
theorem info_str : (Try.prog.info? 9).map (fun i => (i.zero, i.size, i.bytes)) = some (some (.string ⟨#[]⟩), 1, 16) := by kernel_rfl

/-- A row of texts that the call owns, as a slice. -/
theorem own_slice {w : World} {base n : Nat} {t : TypeId} {v : Value} {xs : List Value} (h : w.ownsRow base t 1 v n xs) :
    ∃ A c, v = .slice A n c ∧ n ≤ c ∧ c ≤ 9223372036854775807 ∧ (0 < n → ∃ g, A = some ⟨g, 0, none⟩ ∧ v.ownBlock = some g ∧ g < w.heap.size ∧ ∀ k, k < n → w.cell? ⟨g, k, none⟩ = xs[k]?) := by
  obtain ⟨hl, ⟨rfl, rfl⟩ | ⟨g, cap, cur, rfl, hb, hg, hnc, hcm, hsz, htk⟩⟩ := h
  · exact ⟨none, 0, rfl, Nat.le_refl _, by omega, fun h => absurd h (Nat.lt_irrefl 0)⟩
  · refine ⟨_, cap, rfl, hnc, hcm, fun _ => ⟨g, rfl, rfl, (Array.getElem?_eq_some_iff.1 hg).1, fun k hk => ?_⟩⟩
    have e : w.cell? ⟨g, k, none⟩ = cur[k]? := by simp [World.cell?, hg]
    rw [e, ← htk, List.getElem?_take_of_lt (by omega), Array.getElem?_toList]

/-- One text more. -/
theorem run_append_text (w : World) (base : Nat) (v : Value) (n : Nat) (xs : List Value) (hown : w.ownsRow base 9 1 v n xs) (g : Nat) (s : ByteArray) (hc : w.cell? ⟨g, 0, none⟩ = some (.string s))
    (hn : (n + 1) * 16 ≤ 140737488351232) (hbase : base ≤ w.heap.size) (ty : TypeId) :
    ∃ v' w', (Builtin.append_ #[63, 63] ty #[v, .slice (some ⟨g, 0, none⟩) 1 1]).run Try.prog w = .ok v' w' ∧ w'.ownsRow base 9 1 v' (n + 1) (xs ++ [.string s]) ∧ w.grownBy w' v.ownBlock ∧ (v'.ownBlock = v.ownBlock ∨ v'.ownBlock = some w.heap.size) := by
  obtain ⟨i0, hi0, hz0, hz1, hz2⟩ := info_parts info_str
  obtain ⟨v', w', h1, h2, h3, _, h5⟩ := run_append_own_at (P := Try.prog) w base 63 ty 9 i0 (.string ⟨#[]⟩) 1 16 Try.underlying63 hi0 hz0 hz1 hz2 rfl (by omega) v n xs hown ⟨g, 0, none⟩ 1 1 [.string s] rfl
    (fun j u hj => by
      match j, hj with
      | 0, hj => simp at hj; subst hj; rw [addr_add]; exact hc)
    (fun u hu => by simp at hu; subst hu; rfl) (by unfold maxLen; omega) (by omega) hbase
  exact ⟨v', w', h1, h2, h3, h5⟩

/-- What texts leaves: a row of its own, in the old one's block or a new one. -/
def TState (w0 : World) (B1 : Nat) (r0 : Option Nat) (wr : World) (v : Value) (l : List ByteArray) : Prop :=
  wr.ownsRow B1 9 1 v l.length (strs l) ∧ w0.grownBy wr r0 ∧ (v.ownBlock = r0 ∨ ∃ g, v.ownBlock = some g ∧ w0.heap.size ≤ g)
def TOut (w : World) (B1 : Nat) (v : Value) (l : List ByteArray) (e : Ending) (w' : World) : Prop := ∃ v', e = .returned v' ∧ TState w B1 v.ownBlock w' v' l

theorem TState.step {w0 wr w' : World} {B1 : Nat} {r0 : Option Nat} {v v' : Value} {l l' : List ByteArray} (h : TState w0 B1 r0 wr v l) (h' : TState wr B1 v.ownBlock w' v' l') : TState w0 B1 r0 w' v' l' := by
  obtain ⟨h1, h2, h3⟩ := h
  obtain ⟨k1, k2, k3⟩ := h'
  refine ⟨k1, ⟨k2.os.trans h2.os, k2.tape.trans h2.tape, k2.output.trans h2.output, Nat.le_trans h2.size k2.size, fun i hi hne => ?_⟩, ?_⟩
  · refine (k2.block i (Nat.lt_of_lt_of_le hi h2.size) ?_).trans (h2.block i hi hne)
    rcases h3 with e | ⟨g, e, hg⟩
    · rw [e]; exact hne
    · rw [e]; intro e2; injection e2 with e2; omega
  · rcases k3 with e | ⟨g, e, hg⟩
    · rw [e]; exact h3
    · exact .inr ⟨g, e, Nat.le_trans h2.size hg⟩
theorem TState.drewN {w0 wr : World} {B1 : Nat} {r0 : Option Nat} {v : Value} {l : List ByteArray} (h : TState w0 B1 r0 wr v l) (q : Nat) : TState w0 B1 r0 (wr.drewN q) v l :=
  ⟨h.1, ⟨h.2.1.os, h.2.1.tape, h.2.1.output, h.2.1.size, h.2.1.block⟩, h.2.2⟩
/-- Behind a new block. -/
theorem TState.box {w w' : World} {o : Obj} {B1 : Nat} {r0 : Option Nat} {v : Value} {l : List ByteArray} (h : TState (w.alloc o) B1 r0 w' v l) : TState w B1 r0 w' v l := by
  obtain ⟨h1, h2, h3⟩ := h
  refine ⟨h1, ⟨h2.os, h2.tape, h2.output, Nat.le_trans (by simp) h2.size, fun i hi hne => (h2.block i (by simp; omega) hne).trans (heap_alloc_old w o hi)⟩, ?_⟩
  rcases h3 with e | ⟨g, e, hg⟩
  · exact .inl e
  · exact .inr ⟨g, e, by simp at hg; omega⟩
/-- Cells of blocks that are another's. -/
theorem TState.cell {w0 wr : World} {B1 : Nat} {r0 : Option Nat} {v : Value} {l : List ByteArray} (h : TState w0 B1 r0 wr v l) {a : Addr} (ha : a.block < w0.heap.size) (hr : some a.block ≠ r0) : wr.cell? a = w0.cell? a :=
  World.cell?_of_block (h.2.1.block a.block ha hr)

theorem TState.append {w0 wr : World} {B1 : Nat} {r0 : Option Nat} {v : Value} {l : List ByteArray} (h : TState w0 B1 r0 wr v l) (hB : B1 ≤ wr.heap.size) (hn : (l.length + 1) * 16 ≤ 140737488351232) (q : Nat) (s : ByteArray) (ty : TypeId) :
    ∃ v' w', (Builtin.append_ #[63, 63] ty #[v, .slice (some ⟨wr.heap.size, 0, none⟩) 1 1]).run Try.prog ((wr.drewN q).alloc (.cells #[.string s] 9)) = .ok v' w' ∧ TState w0 B1 r0 w' v' (l ++ [s]) := by
  obtain ⟨v', w', h1, h2, h3, h4⟩ := run_append_text ((wr.drewN q).alloc (.cells #[.string s] 9)) B1 v l.length (strs l) (World.ownsRow.alloc (w := wr.drewN q) h.1 _) wr.heap.size s (World.cell?_alloc_new (wr.drewN q) _ _ _) hn (by simp; omega) ty
  refine ⟨v', w', h1, h.step ?_⟩
  refine TState.box (w := wr) (o := .cells #[.string s] 9) ⟨by simpa using h2, ⟨h3.os, h3.tape, h3.output, h3.size, h3.block⟩, ?_⟩
  rcases h4 with e | e
  · exact .inl e
  · exact .inr ⟨_, e, Nat.le_refl _⟩

set_option maxHeartbeats 4000000 in
theorem texts_any : ∀ (n : Nd) (B0 B1 : Nat) (v : Value) (l : List ByteArray) (w : World), n.In w B0 → B0 ≤ B1 → B1 ≤ w.heap.size → w.ownsRow B1 9 1 v l.length (strs l) → (l.length + propsN n) * 16 ≤ 140737488351232 →
    Calls Try.prog 26 #[n.val, v] w fun e w' => TOut w B1 v (textsN n l) e w' := by
  refine Nd.ind ?_
  intro n ih B0 B1 v0 l w hin hB0 hB1 hown hbig
  obtain ⟨nm, pa, pc, ps, ka, kc, ks⟩ := n
  have HI := Lib.hid hin
  have IH := Lib.hid ih
  obtain ⟨hl, hm⟩ : ks.length ≤ kc ∧ kc ≤ 9223372036854775807 := hin.klen
  obtain ⟨hl2, hm2⟩ : ps.length ≤ pc ∧ pc ≤ 9223372036854775807 := hin.plen
  have HS0 := Lib.hid (show TState (w.alloc (.cells #[.string nm, .slice pa ps.length pc, .slice ka ks.length kc] 38)) B1 v0.ownBlock (w.alloc (.cells #[.string nm, .slice pa ps.length pc, .slice ka ks.length kc] 38)) v0 l from ⟨hown.alloc _, World.grownBy.refl _ _, .inl rfl⟩)
  have HN0 := Lib.hid (fun k (h : v0.ownBlock = some k) => hown.lt k h)
  have hbig2 : (l.length + (ps.length + propsL ks)) * 16 ≤ 140737488351232 := by simpa only [propsN] using hbig
  clear hin ih hown hbig
  show Calls _ _ #[.agg #[.string nm, .slice pa ps.length pc, .slice ka ks.length kc], v0] _ _
  go_enter Try.func26, Try.ntmps26
  go_wp2_with fail
  go_loopw [1, 12] (fun v i wr => ∃ k : Nat, k ≤ ps.length ∧ i = .int .i64 k ∧ TState (w.alloc (.cells #[.string nm, .slice pa ps.length pc, .slice ka ks.length kc] 38)) B1 v0.ownBlock wr v (((ps.take k).map PV.name).foldl addT l)) (fun _ i _ => ps.length - (intOf i).toNat)
  case atStart => exact ⟨0, Nat.zero_le _, rfl, HS0.out⟩
  case round =>
    obtain ⟨k, hk, rfl, hst⟩ := hrel
    have HST := Lib.hid hst
    have hne : some w.heap.size ≠ v0.ownBlock := fun e => by have := (HN0.out _ e.symm).2; omega
    have b1 := (hst.cell (a := ⟨w.heap.size, 1, none⟩) (by simp) hne).trans (World.cell?_alloc_new _ _ _ _)
    have b2 := (hst.cell (a := ⟨w.heap.size, 2, none⟩) (by simp) hne).trans (World.cell?_alloc_new _ _ _ _)
    replace b1 : _ = some (Value.slice pa ps.length pc) := b1
    replace b2 : _ = some (Value.slice ka ks.length kc) := b2
    have HIR := Lib.hid (HI.out.keep (w' := wr) (fun a ha => (hst.cell (a := a) (by simp; omega) (fun e => by have := (HN0.out _ e.symm).1; omega)).trans (World.cell?_alloc_lt w _ a (by omega))))
    by_cases hlt : k < ps.length
    · obtain ⟨A, c, hv, hlc, hcm, hrow⟩ := own_slice hst.1
      obtain ⟨b, o, e, hb, c0, c1⟩ := HIR.out.pcell (i := k) hlt
      obtain rfl : pa = _ := e
      replace c0 : _ = some (Value.string ps[k].name) := c0
      clear c1 hst b2
      obtain ⟨s, hs⟩ : ∃ s, s = ps[k].name := ⟨_, rfl⟩
      rw [← hs] at c0
      have HSN := Lib.hid (show ((ps.take (k + 1)).map PV.name).foldl addT l = addT (((ps.take k).map PV.name).foldl addT l) s by rw [take_next ps k hlt, hs, List.map_append, List.foldl_append]; rfl)
      have hln : (((ps.take k).map PV.name).foldl addT l).length ≤ l.length + k := by
        have := fold_length ((ps.take k).map PV.name) l
        simp only [List.length_map, List.length_take] at this
        omega
      generalize ((ps.take k).map PV.name).foldl addT l = l1 at *
      obtain ⟨N, hN⟩ : ∃ N, l1.length = N := ⟨_, rfl⟩
      rw [hN] at hlc hrow hln hv
      subst hv
      have HN := Lib.hid hN
      have HROW := Lib.hid hrow
      clear hs hrow hN
      go_wp2_with fail
      go_loopw [6, 17] (fun b i wr2 => ∃ j : Nat, j ≤ N ∧ i = .int .i64 j ∧ (∃ x : Bool, b = .bool x ∧ hasT (l1.take j) s = x) ∧ ∃ q, wr2 = wr.drewN q) (fun _ i _ => N - (intOf i).toNat)
      case atStart => exact ⟨0, Nat.zero_le _, rfl, ⟨false, rfl, rfl⟩, 0, rfl⟩
      case round =>
        obtain ⟨j, hj, rfl, ⟨x, rfl, hx⟩, q, rfl⟩ := hrel
        have HX := Lib.hid hx
        clear hx
        by_cases hjn : j < N
        · obtain ⟨g, rfl, _, hg, hcells⟩ := HROW.out (by omega)
          have hjl : j < l1.length := by rw [HN.out]; exact hjn
          have hcell := hcells j hjn
          obtain ⟨y, hy⟩ : ∃ y, l1[j] = y := ⟨_, rfl⟩
          rw [List.getElem?_map, List.getElem?_eq_getElem hjl, hy, Option.map_some] at hcell
          have HNX := Lib.hid (hasT_next l1 s j hjl)
          rw [hy, HX.out] at HNX
          clear hcells hy hjl
          cases x
          · by_cases hys : y = s
            · subst hys
              have HT : Hid (hasT (l1.take (j + 1)) y = true) := by show _ = _; rw [HNX.out]; simp
              go_wp2_with fail
              go_quiet (fail)
              go_wp2
              go_roundw
              case rel => exact ⟨j + 1, by omega, by go_num, ⟨true, rfl, HT.out⟩, _, rfl⟩
              case measure => simp [intOf]; omega
            · have HT : Hid (hasT (l1.take (j + 1)) s = false) := by show _ = _; rw [HNX.out]; simp [hys]
              have e1 := str_ne hys
              clear hys
              go_wp2_with fail
              go_quiet (fail)
              go_wp2
              go_roundw
              case rel => exact ⟨j + 1, by omega, by go_num, ⟨false, rfl, HT.out⟩, _, rfl⟩
              case measure => simp [intOf]; omega
          · have HT : Hid (hasT (l1.take (j + 1)) s = true) := by show _ = _; rw [HNX.out]; simp
            go_wp2_with fail
            go_quiet (fail)
            go_wp2
            go_roundw
            case rel => exact ⟨j + 1, by omega, by go_num, ⟨true, rfl, HT.out⟩, _, rfl⟩
            case measure => simp [intOf]; omega
        · obtain rfl : j = N := by omega
          have HA : Hid (l1.take j = l1) := List.take_of_length_le (by rw [HN.out]; exact Nat.le_refl _)
          rw [HA.out] at HX
          cases x
          · have HE : Hid (addT l1 s = l1 ++ [s]) := by show _ = _; rw [addT, if_neg (by rw [HX.out]; decide)]
            obtain ⟨v', w', hrun, hst'⟩ := HST.out.append (by have := HST.out.2.1.size; simp at this; omega) (by rw [HN.out]; omega) q s 63
            have HS2 := Lib.hid hst'
            clear hst'
            go_wp2_with (at_builtin; refine Lib.wpList_append_run_sl _ rfl _ _ _ rfl _ _ rfl rfl hrun ?_)
            go_roundw
            case rel => exact ⟨k + 1, by omega, by go_num, by rw [HSN.out, HE.out]; exact HS2.out⟩
            case measure => simp [intOf]; omega
          · have HE : Hid (addT l1 s = l1) := by show _ = _; rw [addT, if_pos HX.out]
            go_wp2
            go_roundw
            case rel => exact ⟨k + 1, by omega, by go_num, by rw [HSN.out, HE.out]; exact HST.out.drewN q⟩
            case measure => simp [intOf]; omega
    · obtain rfl : k = ps.length := by omega
      have hte : ps.take ps.length = ps := List.take_length
      rw [hte] at hst HST
      generalize hl1 : (ps.map PV.name).foldl addT l = l1 at hst HST
      have hln : l1.length ≤ l.length + ps.length := by
        have := fold_length (ps.map PV.name) l
        rw [hl1, List.length_map] at this
        exact this
      have HL1 := Lib.hid hl1
      clear hst hl1 hte b1
      go_wp2_with fail
      go_loopw [1, 50] (fun v i wr => ∃ k : Nat, k ≤ ks.length ∧ i = .int .i64 k ∧ TState (w.alloc (.cells #[.string nm, .slice pa ps.length pc, .slice ka ks.length kc] 38)) B1 v0.ownBlock wr v (textsL (ks.take k) l1)) (fun _ i _ => ks.length - (intOf i).toNat)
      case atStart => exact ⟨0, Nat.zero_le _, rfl, by simpa [textsL] using HST.out⟩
      case round =>
        obtain ⟨k, hk, rfl, hst⟩ := hrel
        have HST2 := Lib.hid hst
        have b2 := (hst.cell (a := ⟨w.heap.size, 2, none⟩) (by simp) hne).trans (World.cell?_alloc_new _ _ _ _)
        replace b2 : _ = some (Value.slice ka ks.length kc) := b2
        by_cases hlt2 : k < ks.length
        · have HIR2 := Lib.hid (HI.out.keep (w' := wr) (fun a ha => (hst.cell (a := a) (by simp; omega) (fun e => by have := (HN0.out _ e.symm).1; omega)).trans (World.cell?_alloc_lt w _ a (by omega))))
          obtain ⟨b, o, e, hb, c0, c1, c2⟩ := HIR2.out.kcell (i := k) hlt2
          obtain rfl : ka = _ := e
          replace c0 : _ = some (Value.string ks[k].name) := c0
          replace c1 : _ = some (Value.slice ks[k].pa ks[k].props.length ks[k].pc) := c1
          replace c2 : _ = some (Value.slice ks[k].ka ks[k].kids.length ks[k].kc) := c2
          have hb4 : (textsL (ks.take k) l1).length + propsN ks[k] ≤ l1.length + propsL ks := by
            have h1 := textsL_length (ks.take k) l1
            have h2 := propsL_next ks k hlt2
            have h3 := propsL_take ks (k + 1)
            omega
          have HC := Lib.hid (IH.out ks[k] (List.getElem_mem hlt2) B0 B1 u1 (textsL (ks.take k) l1) wr (HIR2.out.kid (List.getElem_mem hlt2)) hB0 (by have := hst.2.1.size; simp at this; omega) hst.1 (by omega))
          have HNX := Lib.hid (textsL_next ks k hlt2 l1)
          clear hst hb4
          go_wp2_with fail
          refine HC.out.mono ?_
          rintro e w' ⟨v', rfl, hst'⟩
          have HS3 := Lib.hid (HST2.out.step hst')
          clear hst'
          go_wp2
          go_roundw
          case rel => exact ⟨k + 1, by omega, by go_num, by rw [HNX.out]; exact HS3.out⟩
          case measure => simp [intOf]; omega
        · obtain rfl : k = ks.length := by omega
          have hte : ks.take ks.length = ks := List.take_length
          rw [hte] at hst HST2
          have HF := Lib.hid (show textsL ks l1 = textsN (.mk nm pa pc ps ka kc ks) l by rw [textsN, ← HL1.out])
          clear hst hte
          go_wp2
          go_ret
          exact ⟨_, rfl, (HF.out ▸ HST2.out).box⟩
end Go.Proofs.Ytnopcnbeklbfoaa

/-! The document's blob: where a text stands behind those ahead of it. -/
namespace Go.Proofs.Ytnopcnbeklbfoaa
open Go.RowKit
set_option linter.unusedVariables false
set_option linter.unusedSimpArgs false

/-- How many bytes texts are, each with a nought. -/
def textSize : List ByteArray → Nat
  | [] => 0
  | x :: r => x.size + 1 + textSize r
theorem textSize_append : ∀ a b : List ByteArray, textSize (a ++ b) = textSize a + textSize b
  | [], b => by simp [textSize]
  | x :: a, b => by simp only [List.cons_append, textSize, textSize_append a b]; omega
theorem textSize_next (l : List ByteArray) (j : Nat) (h : j < l.length) : textSize (l.take (j + 1)) = textSize (l.take j) + l[j].size + 1 := by
  rw [take_next l j h, textSize_append]; simp only [textSize]; omega
theorem textSize_take (l : List ByteArray) (j : Nat) : textSize (l.take j) ≤ textSize l := by
  conv => rhs; rw [← List.take_append_drop j l, textSize_append]
  omega
/-- Where a text stands. -/
def whereL : List ByteArray → ByteArray → Nat
  | [], _ => 0
  | x :: r, s => if x = s then 0 else x.size + 1 + whereL r s
theorem whereL_missed : ∀ (l : List ByteArray) (s : ByteArray) (k : Nat), Missed l s k → whereL l s = textSize (l.take k) + whereL (l.drop k) s
  | [], s, k, _ => by simp [whereL, textSize]
  | x :: l, s, 0, _ => by simp [textSize]
  | x :: l, s, k + 1, h => by
    have h0 : x ≠ s := by have := h.2 0 (by simp) (by omega); simpa using this
    have ih := whereL_missed l s k ⟨by have := h.1; simp at this; omega, fun j hj hlt => by have := h.2 (j + 1) (by simp; omega) (by omega); simpa using this⟩
    simp only [whereL, if_neg h0, List.take_succ_cons, List.drop_succ_cons, textSize, ih]
    omega
theorem whereL_hit {l : List ByteArray} {s : ByteArray} {k : Nat} (h : Missed l s k) (hk : k < l.length) (e : l[k] = s) : whereL l s = textSize (l.take k) := by
  rw [whereL_missed l s k h, List.drop_eq_getElem_cons hk]
  simp [whereL, e]
theorem whereL_all {l : List ByteArray} {s : ByteArray} {k : Nat} (h : Missed l s k) (hk : ¬ k < l.length) : whereL l s = textSize l := by
  rw [whereL_missed l s k h, List.drop_eq_nil_of_le (by omega), List.take_of_length_le (by omega)]
  simp [whereL]
theorem whereL_le (l : List ByteArray) (s : ByteArray) : whereL l s ≤ textSize l := by
  induction l with
  | nil => simp [whereL]
  | cons x r ih => simp only [whereL, textSize]; split <;> omega

/-- A slice's cells are these texts. -/
def TRow (w : World) (B : Nat) (A : Option Addr) (l : List ByteArray) : Prop :=
  0 < l.length → ∃ g, A = some ⟨g, 0, none⟩ ∧ g < B ∧ ∀ k (h : k < l.length), w.cell? ⟨g, k, none⟩ = some (.string l[k])
theorem TRow.keep {w w' : World} {B : Nat} {A : Option Addr} {l : List ByteArray} (h : TRow w B A l) (hk : ∀ a : Addr, a.block < B → w'.cell? a = w.cell? a) : TRow w' B A l := fun h0 => by
  obtain ⟨g, e, hg, hc⟩ := h h0
  exact ⟨g, e, hg, fun k hk' => (hk _ hg).trans (hc k hk')⟩
theorem TRow.under {w w' : World} {B : Nat} {A : Option Addr} {l : List ByteArray} (h : TRow w B A l) (hb : Below B w w') : TRow w' B A l := h.keep fun _ hp => hb.cell hp
theorem TRow.more {w : World} {B B' : Nat} {A : Option Addr} {l : List ByteArray} (h : TRow w B A l) (hB : B ≤ B') : TRow w B' A l := fun h0 => by
  obtain ⟨g, e, hg, hc⟩ := h h0
  exact ⟨g, e, by omega, hc⟩
/-- A row that texts left. -/
theorem trow_of_own {w : World} {base : Nat} {v : Value} {l : List ByteArray} (h : w.ownsRow base 9 1 v l.length (strs l)) : ∃ A c, v = .slice A l.length c ∧ l.length ≤ c ∧ c ≤ 9223372036854775807 ∧ TRow w w.heap.size A l := by
  obtain ⟨A, c, h1, h2, h3, h4⟩ := own_slice h
  refine ⟨A, c, h1, h2, h3, fun h0 => ?_⟩
  obtain ⟨g, e, _, hg, hc⟩ := h4 h0
  exact ⟨g, e, hg, fun k hk => by rw [hc k hk, List.getElem?_map, List.getElem?_eq_getElem hk]; rfl⟩

set_option maxHeartbeats 1000000 in
theorem where_any (A : Option Addr) (n c : Nat) (l : List ByteArray) (s : ByteArray) (w : World) (B : Nat) (hrow : TRow w B A l) (hln : l.length = n) (hnc : n ≤ c) (hc : c ≤ 9223372036854775807) (hbig : textSize l ≤ 70368744177664) :
    Calls Try.prog 44 #[.slice A n c, .string s] w fun e w' => e = .returned (.int .i64 (whereL l s)) ∧ w = w' := by
  have HR := Lib.hid hrow
  have HN := Lib.hid hln
  clear hrow hln
  go_enter Try.func44, Try.ntmps44
  go_wp2_with fail
  go_loop [5, 9] (fun a i => ∃ k : Nat, k ≤ n ∧ i = .int .i64 k ∧ a = .int .i64 (textSize (l.take k)) ∧ Missed l s k) (fun _ i => n - (intOf i).toNat)
  case atStart => exact ⟨0, Nat.zero_le _, rfl, rfl, Missed.zero _ _⟩
  case round =>
    obtain ⟨k, hk, rfl, rfl, hmiss⟩ := hrel
    have HA := Lib.hid hmiss
    clear hmiss
    by_cases hlt : k < n
    · have hlk : k < l.length := by rw [HN.out]; exact hlt
      obtain ⟨g, rfl, _, hcells⟩ := HR.out (by omega)
      have hcell := hcells k hlk
      have hb1 := textSize_take l k
      have HNX := Lib.hid (textSize_next l k hlk)
      have hb2 := textSize_take l (k + 1)
      rw [HNX.out] at hb2
      obtain ⟨y, hy⟩ : ∃ y, l[k] = y := ⟨_, rfl⟩
      have HY := Lib.hid hy
      rw [hy] at hcell HNX hb2
      have HT := Lib.hid (fun e : l[k] = s => whereL_hit HA.out hlk e)
      generalize textSize (l.take k) = T at *
      clear hcells hy
      by_cases hys : y = s
      · subst hys
        have HT2 := Lib.hid (HT.out HY.out)
        go_wp2
        go_ret
        exact ⟨by rw [HT2.out]; rfl, rfl⟩
      · have e1 := str_ne hys
        have HM := Lib.hid (HA.out.succ hlk (by rw [HY.out]; exact hys))
        clear hys
        go_wp2
        go_round
        case rel => exact ⟨k + 1, by omega, by go_num, by rw [HNX.out]; go_num, HM.out⟩
        case measure => simp [intOf]; omega
    · have HT := Lib.hid (whereL_all HA.out (by rw [HN.out]; exact hlt))
      obtain rfl : k = n := by omega
      have HE : Hid (l.take k = l) := List.take_of_length_le (by rw [HN.out]; exact Nat.le_refl _)
      rw [HE.out]
      go_wp2
      go_ret
      exact ⟨by rw [HT.out]; rfl, rfl⟩
end Go.Proofs.Ytnopcnbeklbfoaa

/-! A statement whose operations may come in several orders: operations that only read are taken first; when the only operation that may come is a call, the call is carried out, and from there on more may be known of memory. -/
namespace Go.Proofs.Ytnopcnbeklbfoaa
open Go.RowKit
section
variable {P : Program} {ops : Array Oper} {l : List Oper} {Q : Exit → Act → World → Prop} {S S' : World → Prop}

/-- What is known of memory may grow as the walk goes on. -/
theorem held_more (hsub : ∀ w, S' w → S w) : ∀ (fuel : Nat) (listed : Array Bool) (a : Act) (w : World), wpAnyH P .any ops Q S' fuel listed a w → wpAnyH P .any ops Q S fuel listed a w
  | 0, _, _, _, h => h
  | fuel + 1, _, _, _, h => ⟨h.1, fun i hi => wpOp_mono (fun a' w' h' => ⟨hsub _ h'.1, held_more hsub fuel _ a' w' h'.2⟩) (h.2 i hi)⟩

/-- An operation that reads, and is wanted. -/
theorem held_take (i : Nat) {oi : Oper} {v : Value} {fuel : Nat} {listed : Array Bool} {a : Act} {w : World} (hi : l[i]? = some oi) (hs : Region.noSelect l.toArray = true) (hf : Region.free .any l.toArray listed i = true)
    (hr : (Region.ready .any l.toArray listed).contains i = true) (hQ : ∀ c a w, Q (.panic c) (a.put oi.dst v) w → Q (.panic c) a w) (hw : Region.wanted oi (yielded l.toArray a.tmps) = true)
    (hS : S w) (hy : ∀ w, S w → (execOp a.eval oi).run P w = .ok (.value v) w) (h : S w → wpAnyH P .any l.toArray Q S fuel (listed.setIfInBounds i true) (a.put oi.dst v) w) : wpAnyH P .any l.toArray Q S (fuel + 1) listed a w :=
  wpAnyH_take (by simpa using hi) hs hf hr hQ (.inl ⟨hw, hy⟩) hS (h hS)

/-- An operation whose guard says no. -/
theorem held_skip (i : Nat) {oi : Oper} {fuel : Nat} {listed : Array Bool} {a : Act} {w : World} (hi : l[i]? = some oi) (hs : Region.noSelect l.toArray = true) (hf : Region.free .any l.toArray listed i = true)
    (hr : (Region.ready .any l.toArray listed).contains i = true) (hQ : ∀ c a w, Q (.panic c) (a.put oi.dst undef) w → Q (.panic c) a w) (hw : Region.wanted oi (yielded l.toArray a.tmps) = false)
    (hS : S w) (h : S w → wpAnyH P .any l.toArray Q S fuel (listed.setIfInBounds i true) (a.put oi.dst undef) w) : wpAnyH P .any l.toArray Q S (fuel + 1) listed a w :=
  wpAnyH_take (by simpa using hi) hs hf hr hQ (.inr ⟨hw, rfl⟩) hS (h hS)

/-- The one operation that may come now, whatever it does; behind it the walk goes on knowing S'. -/
theorem held_call (i : Nat) {oi : Oper} {fuel : Nat} {listed : Array Bool} {a : Act} {w : World} (hr : Region.ready .any l.toArray listed = [i]) (hi : l[i]? = some oi) (hw : Region.wanted oi (yielded l.toArray a.tmps) = true)
    (h : ∀ K : Act → World → Prop, Shut (∀ a w, S w → (S w → wpAnyH P .any l.toArray Q S fuel (listed.setIfInBounds i true) a w) → K a w) → Oper.wp P oi a w K Q) : wpAnyH P .any l.toArray Q S (fuel + 1) listed a w :=
  wpAnyH_ready hr (by simp) (AllReadyH.cons (by simpa using hi) (fun K hK => by rw [if_pos hw]; exact h K hK) AllReadyH.nil)

/-- Two operations may come now. -/
theorem held_two (i j : Nat) {oi oj : Oper} {fuel : Nat} {listed : Array Bool} {a : Act} {w : World} (hr : Region.ready .any l.toArray listed = [i, j]) (hi : l[i]? = some oi) (hj : l[j]? = some oj) (hwi : Region.wanted oi (yielded l.toArray a.tmps) = true) (hwj : Region.wanted oj (yielded l.toArray a.tmps) = true)
    (h1 : ∀ K : Act → World → Prop, Shut (∀ a w, S w → (S w → wpAnyH P .any l.toArray Q S fuel (listed.setIfInBounds i true) a w) → K a w) → Oper.wp P oi a w K Q)
    (h2 : ∀ K : Act → World → Prop, Shut (∀ a w, S w → (S w → wpAnyH P .any l.toArray Q S fuel (listed.setIfInBounds j true) a w) → K a w) → Oper.wp P oj a w K Q) : wpAnyH P .any l.toArray Q S (fuel + 1) listed a w :=
  wpAnyH_ready hr (by simp) (AllReadyH.cons (by simpa using hi) (fun K hK => by rw [if_pos hwi]; exact h1 K hK) (AllReadyH.cons (by simpa using hj) (fun K hK => by rw [if_pos hwj]; exact h2 K hK) AllReadyH.nil))

/-- A piece of code is walked up to its end, once; what follows is walked once. -/
theorem code_cut {c : Code} {Q : Exit → Act → World → Prop} {a : Act} {w : World} (R : Act → World → Prop) (h1 : Code.wp P c (fun x a w => x = .normal ∧ R a w) a w) (h2 : ∀ a w, R a w → Q .normal a w) : Code.wp P c Q a w :=
  Code.wp_mono (fun e a w ⟨he, hr⟩ => by subst he; exact h2 a w hr) h1

/-- One world, spelled in two ways. -/
theorem calls_world {f : FuncId} {args : Array Value} {W W' : World} {R : Ending → World → Prop} (h : W = W') (H : Calls P f args W R) : Calls P f args W' R := h ▸ H
end
end Go.Proofs.Ytnopcnbeklbfoaa

/-! The document's blob: a node's tokens. -/
namespace Go.Proofs.Ytnopcnbeklbfoaa
open Go.RowKit
set_option linter.unusedVariables false
set_option linter.unusedSimpArgs false

/-- A property's token. -/
def propT (l : List ByteArray) (p : PV) : List Int := [0, 0, 0, 3] ++ (four p.zs.length ++ (four (whereL l p.name) ++ padL p.zs))
mutual
/-- A node's tokens. -/
def nodeN (l : List ByteArray) : Nd → List Int
  | .mk nm _ _ ps _ _ ks => [0, 0, 0, 1] ++ padL (strB nm ++ [0]) ++ ps.flatMap (propT l) ++ nodeL l ks ++ [0, 0, 0, 2]
def nodeL (l : List ByteArray) : List Nd → List Int
  | [] => []
  | k :: r => nodeN l k ++ nodeL l r
end
theorem nodeL_append (l : List ByteArray) : ∀ a b : List Nd, nodeL l (a ++ b) = nodeL l a ++ nodeL l b
  | [], b => by simp [nodeL]
  | x :: a, b => by simp only [List.cons_append, nodeL, nodeL_append l a b, List.append_assoc]
theorem nodeL_next (l : List ByteArray) (ks : List Nd) (j : Nat) (h : j < ks.length) : nodeL l (ks.take (j + 1)) = nodeL l (ks.take j) ++ nodeN l ks[j] := by
  rw [take_next ks j h, nodeL_append]; simp [nodeL]
theorem props_next (l : List ByteArray) (ps : List PV) (j : Nat) (h : j < ps.length) : (ps.take (j + 1)).flatMap (propT l) = (ps.take j).flatMap (propT l) ++ propT l ps[j] := by
  rw [take_next ps j h, List.flatMap_append]; simp

/-- How heavy a node is: no less than its tokens, or its properties' names. -/
def heftP (p : PV) : Nat := 16 + p.name.size + p.zs.length
mutual
def heftN : Nd → Nat
  | .mk nm _ _ ps _ _ ks => 16 + nm.size + (ps.map heftP).sum + heftL ks
def heftL : List Nd → Nat
  | [] => 0
  | k :: r => heftN k + heftL r
end
theorem heftL_append : ∀ a b : List Nd, heftL (a ++ b) = heftL a + heftL b
  | [], b => by simp [heftL]
  | x :: a, b => by simp only [List.cons_append, heftL, heftL_append a b]; omega
theorem heftL_next (ks : List Nd) (j : Nat) (h : j < ks.length) : heftL (ks.take (j + 1)) = heftL (ks.take j) + heftN ks[j] := by
  rw [take_next ks j h, heftL_append]; simp [heftL]
theorem heftL_take (ks : List Nd) (j : Nat) : heftL (ks.take j) ≤ heftL ks := by
  conv => rhs; rw [← List.take_append_drop j ks, heftL_append]
  omega
theorem heftP_take (ps : List PV) (j : Nat) : ((ps.take j).map heftP).sum ≤ (ps.map heftP).sum := by
  conv => rhs; rw [← List.take_append_drop j ps, List.map_append, List.sum_append]
  omega
theorem heftP_next (ps : List PV) (j : Nat) (h : j < ps.length) : ((ps.take (j + 1)).map heftP).sum = ((ps.take j).map heftP).sum + heftP ps[j] := by
  rw [take_next ps j h, List.map_append, List.sum_append]; simp
theorem propT_length (l : List ByteArray) (p : PV) : (propT l p).length ≤ heftP p := by
  have h1 := padN_lt p.zs.length
  simp only [propT, List.length_append, padL_length, heftP, four, List.length_cons, List.length_nil]
  omega
theorem props_length (l : List ByteArray) : ∀ ps : List PV, (ps.flatMap (propT l)).length ≤ (ps.map heftP).sum
  | [] => by simp
  | p :: r => by
    have h1 := propT_length l p
    have h2 := props_length l r
    simp only [List.flatMap_cons, List.length_append, List.map_cons, List.sum_cons]
    omega
theorem nodeN_length (l : List ByteArray) : ∀ n : Nd, (nodeN l n).length ≤ heftN n := by
  refine Nd.ind ?_
  intro n ih
  obtain ⟨nm, pa, pc, ps, ka, kc, ks⟩ := n
  have hl : ∀ (r : List Nd), (∀ k ∈ r, k ∈ ks) → (nodeL l r).length ≤ heftL r := by
    intro r
    induction r with
    | nil => intro _; simp [nodeL]
    | cons k r ihr =>
      intro hr
      have h1 := ih k (hr k (by simp))
      have h2 := ihr (fun x hx => hr x (by simp [hx]))
      simp only [nodeL, heftL, List.length_append]
      omega
  have h1 := hl ks (fun _ h => h)
  have h2 := props_length l ps
  have h3 := padN_lt (strB nm ++ [0]).length
  simp only [nodeN, heftN, List.length_append, padL_length, List.length_cons, List.length_nil] at h3 ⊢
  rw [strB_length] at h3 ⊢
  omega
theorem nodeL_length (l : List ByteArray) : ∀ ks : List Nd, (nodeL l ks).length ≤ heftL ks
  | [] => by simp [nodeL]
  | k :: r => by
    have h1 := nodeN_length l k
    have h2 := nodeL_length l r
    simp only [nodeL, heftL, List.length_append]
    omega

/-- Behind a node's first statement. -/
def First (B : Nat) (W0 W : World) (nm : ByteArray) (v : Value) : Prop := Mid B W0 W v ([0, 0, 0, 1] ++ padL (strB nm ++ [0]))

set_option maxRecDepth 100000 in
set_option maxHeartbeats 8000000 in
theorem node_any (l : List ByteArray) : ∀ (n : Nd) (la : Option Addr) (ll lc : Nat) (w : World), n.In w w.heap.size → TRow w w.heap.size la l → l.length = ll → ll ≤ lc → lc ≤ 9223372036854775807 → heftN n ≤ 4294967295 → textSize l ≤ 4294967295 →
    Calls Try.prog 27 #[n.val, .slice la ll lc, .int .i64 0] w fun e w' => ∃ v, e = .returned v ∧ w'.ownsRow w.heap.size 5 1 v (nodeN l n).length (u8s (nodeN l n)) ∧ Below w.heap.size w w' ∧ ∀ z ∈ nodeN l n, 0 ≤ z ∧ z < 256 := by
  refine Nd.ind ?_
  intro n ih la ll lc w hin htr hll hlc hlm hheft htz
  obtain ⟨nm, pa, pc, ps, ka, kc, ks⟩ := n
  have HI := Lib.hid hin
  have IH := Lib.hid ih
  have HT := Lib.hid htr
  have HLL := Lib.hid hll
  obtain ⟨hl, hm⟩ : ks.length ≤ kc ∧ kc ≤ 9223372036854775807 := hin.klen
  obtain ⟨hl2, hm2⟩ : ps.length ≤ pc ∧ pc ≤ 9223372036854775807 := hin.plen
  have hnm : nm.size ≤ 140737488351200 := by simp only [heftN] at hheft; omega
  have hheft2 : 16 + nm.size + (ps.map heftP).sum + heftL ks ≤ 4294967295 := by simpa only [heftN] using hheft
  clear hin ih htr hll hheft
  show Calls _ _ #[.agg #[.string nm, .slice pa ps.length pc, .slice ka ks.length kc], .slice la ll lc, .int .i64 0] _ _
  have HB0 := Lib.hid ((Below.refl w.heap.size w).alloc (Nat.le_refl _) (.cells #[.string nm, .slice pa ps.length pc, .slice ka ks.length kc] 38))
  have x0 : ∀ W, Below (w.heap.size + 1) (w.alloc (.cells #[.string nm, .slice pa ps.length pc, .slice ka ks.length kc] 38)) W → W.cell? ⟨w.heap.size, 0, none⟩ = some (.string nm) ∧ W.cell? ⟨w.heap.size, 1, none⟩ = some (.slice pa ps.length pc) ∧ W.cell? ⟨w.heap.size, 2, none⟩ = some (.slice ka ks.length kc) := fun W h =>
    ⟨(h.cell (Nat.lt_succ_self _)).trans (World.cell?_alloc_new _ _ _ _), (h.cell (Nat.lt_succ_self _)).trans (World.cell?_alloc_new _ _ _ _), (h.cell (Nat.lt_succ_self _)).trans (World.cell?_alloc_new _ _ _ _)⟩
  have BX := Lib.hid x0
  clear x0
  go_enter Try.func27, Try.ntmps27
  go_wp2_with fail
  go_loop [7, 13] (fun sk i => sk = .slice none 0 0 ∧ i = .int .i64 0) (fun _ _ => 0)
  case atStart => exact ⟨rfl, rfl⟩
  case round =>
    obtain ⟨rfl, rfl⟩ := hrel
    go_wp2_with fail
    refine code_cut (R := fun a' W => ∃ v u19 u20 u21 u22 u23 u24 u25 u26 u27 u28 u29 u30, a' = { tmps := #[.agg #[.string nm, .slice pa ps.length pc, .slice ka ks.length kc], .slice la ll lc, .int .i64 0, .pointer (some ⟨w.heap.size, 0, none⟩), undef, undef, .slice none 0 0, .slice none 0 0, v, undef, undef, undef, .int .i64 0, .int .i64 0, .bool false, u15, u16, u17, u18, u19, u20, u21, u22, u23, u24, u25, u26, u27, u28, u29, u30, undef, undef, undef, undef, undef, undef, undef, undef, undef, undef, undef, undef, undef, undef, undef, undef, undef, undef, undef, undef, undef, undef, undef, undef, undef, undef, undef, undef, undef, undef, undef, undef, undef, undef, undef, undef, undef, undef, undef, undef, undef, undef, undef, undef, undef, undef, undef, undef, undef, undef, undef, undef, undef, undef, undef, undef], defers := [] } ∧ First (w.heap.size + 1) (w.alloc (.cells #[.string nm, .slice pa ps.length pc, .slice ka ks.length kc] 38)) W nm v) ?first ?rest
    case first =>
      refine wp_region_held_drew (S := fun W => W.cell? ⟨w.heap.size, 0, none⟩ = some (.string nm)) (by kernel_rfl) (BX.out _ (Below.refl _ _)).1 (fun hHeld => ?_)
      refine held_take 1 rfl (by kernel_rfl) (by kernel_rfl) (by kernel_rfl) (fun _ _ _ h => absurd h.1 (by intro h'; cases h')) (by rfl) hHeld (v := ?_) (fun w hSw => ?_) (fun _ => ?_)
      rotate_left
      · ((try dsimp only at hSw); go_simp; (try with_reducible rfl))
      simp only [Act.put, List.setIfInBounds_toArray, List.set_cons_zero, List.set_cons_succ]
      refine held_take 5 rfl (by kernel_rfl) (by kernel_rfl) (by kernel_rfl) (fun _ _ _ h => absurd h.1 (by intro h'; cases h')) (by rfl) hHeld (v := ?_) (fun w hSw => ?_) (fun _ => ?_)
      rotate_left
      · ((try dsimp only at hSw); go_simp; (try with_reducible rfl))
      simp only [Act.put, List.setIfInBounds_toArray, List.set_cons_zero, List.set_cons_succ]
      refine held_take 6 rfl (by kernel_rfl) (by kernel_rfl) (by kernel_rfl) (fun _ _ _ h => absurd h.1 (by intro h'; cases h')) (by rfl) hHeld (v := ?_) (fun w hSw => ?_) (fun _ => ?_)
      rotate_left
      · ((try dsimp only at hSw); go_simp; (try with_reducible rfl))
      simp only [Act.put, List.setIfInBounds_toArray, List.set_cons_zero, List.set_cons_succ]
      refine phase0 (I := fun a0 n L a W => ∃ b0 b2 b3 b4 b7 b8 u19 u21 u22 u23 u26 u27, L = #[b0, true, b2, b3, b4, true, true, b7, b8, false, false, false, false] ∧ n + (b0.toNat + b2.toNat + b3.toNat + b4.toNat + b7.toNat + b8.toNat) = 10 ∧ a = Six a0 u19 u21 u22 u23 u26 u27 ∧ NF (w.alloc (.cells #[.string nm, .slice pa ps.length pc, .slice ka ks.length kc] 38)) W (w.heap.size + 1) nm b0 b2 b3 b4 b7 b8 u19 u21 u22 u23 u26 u27) ?_ ?_
      · exact ⟨false, false, false, false, false, false, undef, undef, undef, undef, undef, undef, rfl, rfl, rfl, NF.start (Below.refl _ _).drew (by simp)⟩
      · rintro n L a W ⟨b0, b2, b3, b4, b7, b8, u19, u21, u22, u23, u26, u27, rfl, hn, rfl, hnf⟩ hih
        by_cases hall : (b0 && b2 && b3 && b4 && b7 && b8) = true
        · simp only [Bool.and_eq_true] at hall
          obtain ⟨⟨⟨⟨⟨rfl, rfl⟩, rfl⟩, rfl⟩, rfl⟩, rfl⟩ := hall
          obtain rfl : n = 4 := by simp only [Bool.toNat_true] at hn; omega
          obtain ⟨A, c, g, W1, hrun, hsh, hgr, hgB, hne⟩ := run_append_marked W (w.heap.size + 1) nm u26 (hnf.f7 rfl) hnf.size hnm u27 (hnf.f8 rfl) 26
          have hM : Mid (w.heap.size + 1) (w.alloc (.cells #[.string nm, .slice pa ps.length pc, .slice ka ks.length kc] 38)) W1 u23 [0, 0, 0, 1] := ⟨(hnf.f4 rfl).kept hgr (own_ne (hnf.f4 rfl) hne), hnf.below.grown hgr hnf.size (fun q hq => by injection hq with hq; omega), Nat.le_trans hnf.size hgr.size, by simp⟩
          clear hgr hgB hne hnf hih hn
          simp only [Six, Act.put, List.setIfInBounds_toArray, List.set_cons_zero, List.set_cons_succ]
          refine held_call 9 (by kernel_rfl) rfl (by rfl) (fun K hK => ?_)
          refine Lib.wp_append_run_sl _ _ _ _ rfl _ _ rfl rfl hrun ?_
          refine hK.out _ _ (BX.out _ hM.2.1).1 (fun _ => ?_)
          clear hK K hrun
          simp only [Act.put, List.setIfInBounds_toArray, List.set_cons_zero, List.set_cons_succ]
          refine held_call 10 (by kernel_rfl) rfl (by rfl) (fun K hK => ?_)
          go_simp
          refine (padded_any A (nm.size + 1) c _ W1 hsh (by omega)).mono ?_
          rintro e W2 ⟨A2, m2, c2, rfl, hsh2, hb2⟩
          have hM2 := hM.on hb2
          obtain ⟨v3, W3, hrun3, hM3, _⟩ := hM2.append c2 hsh2 (by rw [padL_length]; have := padN_lt (strB nm ++ [0]).length; simp only [List.length_append, strB_length, List.length_cons, List.length_nil] at this ⊢; omega) 26
          dsimp only
          refine hK.out _ _ (BX.out _ hM2.2.1).1 (fun _ => ?_)
          clear hK K hsh
          refine held_call 11 (by kernel_rfl) rfl (by rfl) (fun K hK => ?_)
          refine Lib.wp_append_run_sl _ _ _ _ rfl _ _ rfl rfl hrun3 ?_
          refine hK.out _ _ (BX.out _ hM3.2.1).1 (fun hHeld3 => ?_)
          clear hK K
          simp only [Act.put, List.setIfInBounds_toArray, List.set_cons_zero, List.set_cons_succ]
          refine held_take 12 rfl (by kernel_rfl) (by kernel_rfl) (by kernel_rfl) (fun _ _ _ h => absurd h.1 (by intro h'; cases h')) (by rfl) hHeld3 (v := ?_) (fun w hSw => ?_) (fun _ => ?_)
          rotate_left
          · ((try dsimp only at hSw); go_simp; (try with_reducible rfl))
          simp only [Act.put, List.setIfInBounds_toArray, List.set_cons_zero, List.set_cons_succ]
          refine wpAnyH_done (by kernel_rfl) ?_ _
          exact ⟨rfl, _, _, _, _, _, _, _, _, _, _, _, _, _, rfl, hM3⟩
        · have t0 := b0.toNat_le
          have t2 := b2.toNat_le
          have t3 := b3.toNat_le
          have t4 := b4.toNat_le
          have t7 := b7.toNat_le
          have t8 := b8.toNat_le
          obtain ⟨m, rfl⟩ : ∃ m, n = m + 1 := ⟨n - 1, by omega⟩
          refine any_step ?_ ?_
          · cases b0 <;> cases b2 <;> cases b3 <;> cases b4 <;> cases b7 <;> cases b8 <;> first | exact absurd rfl hall | exact ready_ne (by kernel_rfl)
          · intro i hi
            have hlt : i < 13 := ready_lt hi
            rcases (by omega : i = 0 ∨ i = 1 ∨ i = 2 ∨ i = 3 ∨ i = 4 ∨ i = 5 ∨ i = 6 ∨ i = 7 ∨ i = 8 ∨ i = 9 ∨ i = 10 ∨ i = 11 ∨ i = 12) with rfl | rfl | rfl | rfl | rfl | rfl | rfl | rfl | rfl | rfl | rfl | rfl | rfl
            · obtain rfl : b0 = false := not_come hi
              have hnf' := hnf.op0
              refine one_op rfl rfl (fun K hK => ?_)
              refine wp_run (v := .slice (some ⟨W.heap.size, 0, none⟩) 0 0) (w' := W.alloc (.cells #[] 5)) (by go_simp) ?_
              exact hK.out _ _ (BX.out _ hnf'.below).1 (fun _ => hih m (by omega) _ _ _ ⟨true, b2, b3, b4, b7, b8, _, _, _, _, _, _, rfl, (by simp only [Bool.toNat_true, Bool.toNat_false] at hn ⊢; omega), six19 _ _ _ _ _ _ _ _, hnf'⟩)
            · exact absurd (show true = false from not_come hi) (by decide)
            · obtain rfl : b2 = false := not_come hi
              obtain rfl : b0 = true := came (j := 0) (g := .data) rfl hi (by simp) (by rfl)
              have hnf' := hnf.op2
              have hrun := run_append_nil0 W u19 (hnf.f0 rfl) 26
              refine one_op rfl rfl (fun K hK => ?_)
              refine Lib.wp_append_run_sl _ _ _ _ rfl _ _ (six_at19 _ _ _ _ _ _ _ (show 19 < 87 by omega)) ((six_far _ _ _ _ _ _ _ 20 (by decide) (by decide) (by decide) (by decide) (by decide) (by decide)).trans rfl) hrun ?_
              exact hK.out _ _ (BX.out _ hnf'.below).1 (fun _ => hih m (by omega) _ _ _ ⟨true, true, b3, b4, b7, b8, _, _, _, _, _, _, rfl, (by simp only [Bool.toNat_true, Bool.toNat_false] at hn ⊢; omega), six21 _ _ _ _ _ _ _ _, hnf'⟩)
            · obtain rfl : b3 = false := not_come hi
              have hnf' := hnf.op3
              refine one_op rfl rfl (fun K hK => ?_)
              refine wp_run (v := .slice (some ⟨W.heap.size, 0, none⟩) 4 4) (w' := W.alloc (.cells #[.int .u8 0, .int .u8 0, .int .u8 0, .int .u8 1] 5)) (by go_simp) ?_
              exact hK.out _ _ (BX.out _ hnf'.below).1 (fun _ => hih m (by omega) _ _ _ ⟨b0, b2, true, b4, b7, b8, _, _, _, _, _, _, rfl, (by simp only [Bool.toNat_true, Bool.toNat_false] at hn ⊢; omega), six22 _ _ _ _ _ _ _ _, hnf'⟩)
            · obtain rfl : b4 = false := not_come hi
              obtain rfl : b2 = true := came (j := 2) (g := .data) rfl hi (by simp) (by rfl)
              obtain rfl : b3 = true := came (j := 3) (g := .data) rfl hi (by simp) (by rfl)
              obtain ⟨v', W', hrun, hnf'⟩ := hnf.op4 26
              refine one_op rfl rfl (fun K hK => ?_)
              refine Lib.wp_append_run_sl _ _ _ _ rfl _ _ (six_at21 _ _ _ _ _ _ _ (show 21 < 87 by omega)) (six_at22 _ _ _ _ _ _ _ (show 22 < 87 by omega)) hrun ?_
              exact hK.out _ _ (BX.out _ hnf'.below).1 (fun _ => hih m (by omega) _ _ _ ⟨b0, true, true, true, b7, b8, _, _, _, _, _, _, rfl, (by simp only [Bool.toNat_true, Bool.toNat_false] at hn ⊢; omega), six23 _ _ _ _ _ _ _ _, hnf'⟩)
            · exact absurd (show true = false from not_come hi) (by decide)
            · exact absurd (show true = false from not_come hi) (by decide)
            · obtain rfl : b7 = false := not_come hi
              obtain ⟨v', W', hrun, hnf'⟩ := hnf.op7 (by omega)
              refine one_op rfl rfl (fun K hK => ?_)
              (with_reducible refine wp_run (v := v') (w' := W') ?_ ?_)
              · refine conv_run (x := .string nm) ?_ hrun
                exact ((six_far _ _ _ _ _ _ _ 25 (by decide) (by decide) (by decide) (by decide) (by decide) (by decide)).trans rfl)
              exact hK.out _ _ (BX.out _ hnf'.below).1 (fun _ => hih m (by omega) _ _ _ ⟨b0, b2, b3, b4, true, b8, _, _, _, _, _, _, rfl, (by simp only [Bool.toNat_true, Bool.toNat_false] at hn ⊢; omega), six26 _ _ _ _ _ _ _ _, hnf'⟩)
            · obtain rfl : b8 = false := not_come hi
              have hnf' := hnf.op8
              refine one_op rfl rfl (fun K hK => ?_)
              refine wp_run (v := .slice (some ⟨W.heap.size, 0, none⟩) 1 1) (w' := W.alloc (.cells #[.int .u8 0] 5)) (by go_simp) ?_
              exact hK.out _ _ (BX.out _ hnf'.below).1 (fun _ => hih m (by omega) _ _ _ ⟨b0, b2, b3, b4, b7, true, _, _, _, _, _, _, rfl, (by simp only [Bool.toNat_true, Bool.toNat_false] at hn ⊢; omega), six27 _ _ _ _ _ _ _ _, hnf'⟩)
            · obtain rfl : b7 = true := came (j := 7) (g := .data) rfl hi (by simp) (by rfl)
              obtain rfl : b8 = true := came (j := 8) (g := .data) rfl hi (by simp) (by rfl)
              obtain rfl : b4 = true := came (j := 4) (g := .chain) rfl hi (by simp) (by rfl)
              obtain rfl := hnf.i42 rfl
              obtain rfl := hnf.i43 rfl
              obtain rfl := hnf.i20 rfl
              exact absurd rfl hall
            · exact absurd (show false = true from came (j := 9) (g := .data) rfl hi (by simp) (by rfl)) (by decide)
            · exact absurd (show false = true from came (j := 10) (g := .data) rfl hi (by simp) (by rfl)) (by decide)
            · exact absurd (show false = true from came (j := 11) (g := .data) rfl hi (by simp) (by rfl)) (by decide)
    case rest =>
      rintro a' W1 ⟨v, u19, u20, u21, u22, u23, u24, u25, u26, u27, u28, u29, u30, rfl, hF⟩
      have hF' : Mid (w.heap.size + 1) (w.alloc (.cells #[.string nm, .slice pa ps.length pc, .slice ka ks.length kc] 38)) W1 v ([0, 0, 0, 1] ++ padL (strB nm ++ [0])) := hF
      obtain ⟨x0, x1, x2⟩ := BX.out _ hF'.2.1
      have HF := Lib.hid hF'
      have hlz0 : ([0, 0, 0, 1] ++ padL (strB nm ++ [0])).length ≤ 8 + nm.size := by have := padN_lt (strB nm ++ [0]).length; simp only [padL_length, List.length_append, strB_length, List.length_cons, List.length_nil] at this ⊢; omega
      have HLZ := Lib.hid hlz0
      generalize hZ : ([0, 0, 0, 1] ++ padL (strB nm ++ [0])) = Z at HF HLZ
      have HZ := Lib.hid hZ
      have HBW := Lib.hid (fun W (h : Below (w.heap.size + 1) (w.alloc (.cells #[.string nm, .slice pa ps.length pc, .slice ka ks.length kc] 38)) W) => HB0.out.trans (h.mono (Nat.le_succ _)))
      have HTW := Lib.hid (fun W (h : Below (w.heap.size + 1) (w.alloc (.cells #[.string nm, .slice pa ps.length pc, .slice ka ks.length kc] 38)) W) => HT.out.under (HBW.out W h))
      clear hF hF' hlz0 hZ
      go_wp2_with fail
      go_loopw [8, 34] (fun v i wr => ∃ k : Nat, k ≤ ps.length ∧ i = .int .i64 k ∧ Mid (w.heap.size + 1) (w.alloc (.cells #[.string nm, .slice pa ps.length pc, .slice ka ks.length kc] 38)) wr v (Z ++ (ps.take k).flatMap (propT l))) (fun _ i _ => ps.length - (intOf i).toNat)
      case atStart => exact ⟨0, Nat.zero_le _, rfl, by simpa using HF.out⟩
      case round =>
        obtain ⟨k, hk, rfl, hmid⟩ := hrel
        obtain ⟨x0, x1, x2⟩ := BX.out _ hmid.2.1
        have HM := Lib.hid hmid
        have hbw := HBW.out _ hmid.2.1
        by_cases hlt : k < ps.length
        · obtain ⟨b, o, e, hb, c0, c1⟩ := (HI.out.under hbw).pcell (i := k) hlt
          have HPI := Lib.hid (fun W (h : Below (w.heap.size + 1) (w.alloc (.cells #[.string nm, .slice pa ps.length pc, .slice ka ks.length kc] 38)) W) => show ps[k].In W w.heap.size from (HI.out.under (HBW.out W h)).prop (List.getElem_mem hlt))
          obtain rfl : pa = _ := e
          have HNX := Lib.hid (props_next l ps k hlt)
          have hP : (Z ++ (ps.take k).flatMap (propT l)).length + (propT l ps[k]).length ≤ 8589934592 := by
            have h1 := props_length l (ps.take (k + 1))
            have h2 := heftP_take ps (k + 1)
            have h3 := HLZ.out
            rw [props_next l ps k hlt, List.length_append] at h1
            simp only [List.length_append] at h1 ⊢
            omega
          have hpl : ps[k].zs.length ≤ 4294967295 := by
            have h1 := heftP_next ps k hlt
            have h2 := heftP_take ps (k + 1)
            have h3 : heftP ps[k] = 16 + ps[k].name.size + ps[k].zs.length := rfl
            omega
          replace c0 : _ = some (Value.string ps[k].name) := c0
          replace c1 : _ = some (Value.slice ps[k].addr ps[k].zs.length ps[k].cap) := c1
          generalize hp : ps[k] = p at *
          generalize (ps.take k).flatMap (propT l) = ys at *
          clear hmid hp hbw
          obtain ⟨s, ad, cp, zs⟩ := p
          replace hpl : zs.length ≤ 4294967295 := hpl
          replace c0 : _ = some (Value.string s) := c0
          replace c1 : _ = some (Value.slice ad zs.length cp) := c1
          have hlen : (propT l ⟨s, ad, cp, zs⟩).length = 12 + (padL zs).length := by simp only [propT, List.length_append, four, List.length_cons, List.length_nil]; omega
          rw [hlen] at hP
          have hM1 := HM.out.on ((Below.refl _ _).alloc (Nat.le_refl _) (.cells #[.string s, .slice ad zs.length cp] 52))
          have hO1 := Other.new wr #[.string s, .slice ad zs.length cp] 52 (by decide)
          obtain ⟨v1, w1, hrun1, hM2, hk2⟩ := hM1.append (B' := 0) 0 (Shows.nil _ _) (by simp only [List.length_nil]; omega) 26
          have hO2 := hk2 _ _ _ hO1
          have hM3 := hM2.on ((Below.refl _ _).alloc (Nat.le_refl _) (.cells #[.int .u8 0, .int .u8 0, .int .u8 0, .int .u8 3] 5))
          have hO3 := hO2.on ((Below.refl _ _).alloc (Nat.le_refl _) (.cells #[.int .u8 0, .int .u8 0, .int .u8 0, .int .u8 3] 5))
          obtain ⟨v2, w2, hrun2, hM4, hk4⟩ := hM3.append 4 (four_new w1 0 0 0 3 (by simp)) (by simp only [List.length_append, List.length_cons, List.length_nil] at hP ⊢; omega) 26
          have hO4 := hk4 _ _ _ hO3
          have HM4 := Lib.hid (And.intro hM4.drew hO4)
          have y0 := hO4.cell 0
          have y1 := hO4.cell 1
          replace y0 : _ = some (Value.string s) := y0
          replace y1 : _ = some (Value.slice ad zs.length cp) := y1
          have HP := Lib.hid hP
          clear hM1 hO1 hM2 hk2 hO2 hM3 hO3 hM4 hk4 hO4 hlen hP
          go_wp2_with (at_builtin; first | (refine Lib.wpList_append_run_sl _ rfl _ _ _ rfl _ _ rfl rfl hrun1 ?_) | (refine Lib.wpList_append_run_sl _ rfl _ _ _ rfl _ _ rfl rfl hrun2 ?_))
          refine wp_region_held_drew (S := fun W => W.cell? ⟨wr.heap.size, 0, none⟩ = some (.string s) ∧ W.cell? ⟨wr.heap.size, 1, none⟩ = some (.slice ad zs.length cp)) (by kernel_rfl) ⟨y0, y1⟩ (fun hHeld => ?_)
          clear hrun1 hrun2
          refine held_take 0 rfl (by kernel_rfl) (by kernel_rfl) (by kernel_rfl) (fun _ _ _ h => h) (by rfl) hHeld (v := ?_) (fun w hSw => ?_) (fun _ => ?_)
          rotate_left
          · ((try dsimp only at hSw); go_simp; (try with_reducible rfl))
          simp only [Act.put, List.setIfInBounds_toArray, List.set_cons_zero, List.set_cons_succ]
          refine held_take 1 rfl (by kernel_rfl) (by kernel_rfl) (by kernel_rfl) (fun _ _ _ h => h) (by rfl) hHeld (v := ?_) (fun w hSw => ?_) (fun _ => ?_)
          rotate_left
          · ((try dsimp only at hSw); go_simp; (try with_reducible rfl))
          simp only [Act.put, List.setIfInBounds_toArray, List.set_cons_zero, List.set_cons_succ]
          refine held_take 2 rfl (by kernel_rfl) (by kernel_rfl) (by kernel_rfl) (fun _ _ _ h => h) (by rfl) hHeld (v := ?_) (fun w hSw => ?_) (fun _ => ?_)
          rotate_left
          · ((try dsimp only at hSw); go_simp; (try with_reducible rfl))
          simp only [Act.put, List.setIfInBounds_toArray, List.set_cons_zero, List.set_cons_succ]
          refine held_take 3 rfl (by kernel_rfl) (by kernel_rfl) (by kernel_rfl) (fun _ _ _ h => h) (by rfl) hHeld (v := ?_) (fun w hSw => ?_) (fun _ => ?_)
          rotate_left
          · ((try dsimp only at hSw); go_simp; (try with_reducible rfl))
          simp only [Act.put, List.setIfInBounds_toArray, List.set_cons_zero, List.set_cons_succ]
          refine held_take 6 rfl (by kernel_rfl) (by kernel_rfl) (by kernel_rfl) (fun _ _ _ h => h) (by rfl) hHeld (v := ?_) (fun w hSw => ?_) (fun _ => ?_)
          rotate_left
          · ((try dsimp only at hSw); go_simp; (try with_reducible rfl))
          simp only [Act.put, List.setIfInBounds_toArray, List.set_cons_zero, List.set_cons_succ]
          refine held_take 7 rfl (by kernel_rfl) (by kernel_rfl) (by kernel_rfl) (fun _ _ _ h => h) (by rfl) hHeld (v := ?_) (fun w hSw => ?_) (fun _ => ?_)
          rotate_left
          · ((try dsimp only at hSw); go_simp; (try with_reducible rfl))
          simp only [Act.put, List.setIfInBounds_toArray, List.set_cons_zero, List.set_cons_succ]
          refine held_take 8 rfl (by kernel_rfl) (by kernel_rfl) (by kernel_rfl) (fun _ _ _ h => h) (by rfl) hHeld (v := ?_) (fun w hSw => ?_) (fun _ => ?_)
          rotate_left
          · ((try dsimp only at hSw); go_simp; (try with_reducible rfl))
          simp only [Act.put, List.setIfInBounds_toArray, List.set_cons_zero, List.set_cons_succ]
          refine held_call 4 (by kernel_rfl) rfl (by rfl) (fun K hK => ?_)
          go_simp
          refine (doccell_any zs.length _ hpl).mono ?_
          rintro e w3 ⟨g1, rfl, hs1, hb1⟩
          have hM5 := HM4.out.1.on hb1
          have hO5 := Other.on (W := w2.drew) HM4.out.2 hb1
          dsimp only
          refine hK.out _ _ ⟨hO5.cell 0, hO5.cell 1⟩ (fun _ => ?_)
          clear hK K
          obtain ⟨v6, w6, hrun6, hM6, hk6⟩ := hM5.append 4 hs1 (by have := HP.out; simp only [List.length_append, List.length_cons, List.length_nil, four] at this ⊢; omega) 26
          have hO6 := hk6 _ _ _ hO5
          clear hk6 hs1 hb1
          refine held_call 5 (by kernel_rfl) rfl (by rfl) (fun K hK => ?_)
          refine Lib.wp_append_run_sl _ _ _ _ rfl _ _ rfl rfl hrun6 ?_
          refine hK.out _ _ ⟨hO6.cell 0, hO6.cell 1⟩ (fun hHeld => ?_)
          clear hK K hrun6
          simp only [Act.put, List.setIfInBounds_toArray, List.set_cons_zero, List.set_cons_succ]
          refine held_call 9 (by kernel_rfl) rfl (by rfl) (fun K hK => ?_)
          go_simp
          refine (where_any la ll lc l s _ w.heap.size (HTW.out _ hM6.2.1) HLL.out hlc hlm (by omega)).mono ?_
          rintro e w7 ⟨rfl, rfl⟩
          dsimp only
          refine hK.out _ _ ⟨hO6.cell 0, hO6.cell 1⟩ (fun hHeld => ?_)
          clear hK K
          refine held_call 10 (by kernel_rfl) rfl (by rfl) (fun K hK => ?_)
          go_simp
          refine (doccell_any (whereL l s) _ (Nat.le_trans (whereL_le l s) htz)).mono ?_
          rintro e w8 ⟨g2, rfl, hs2, hb2⟩
          have hM8 := hM6.on hb2
          have hO8 := hO6.on hb2
          dsimp only
          refine hK.out _ _ ⟨hO8.cell 0, hO8.cell 1⟩ (fun _ => ?_)
          clear hK K
          obtain ⟨v9, w9, hrun9, hM9, hk9⟩ := hM8.append 4 hs2 (by have := HP.out; simp only [List.length_append, List.length_cons, List.length_nil, four] at this ⊢; omega) 26
          have hO9 := hk9 _ _ _ hO8
          clear hk9 hs2 hb2 hM5 hM6 hO6 hO5
          refine held_call 11 (by kernel_rfl) rfl (by rfl) (fun K hK => ?_)
          refine Lib.wp_append_run_sl _ _ _ _ rfl _ _ rfl rfl hrun9 ?_
          refine hK.out _ _ ⟨hO9.cell 0, hO9.cell 1⟩ (fun hHeld => ?_)
          clear hK K hrun9 hM8 hO8 y0 y1
          simp only [Act.put, List.setIfInBounds_toArray, List.set_cons_zero, List.set_cons_succ]
          refine held_take 12 rfl (by kernel_rfl) (by kernel_rfl) (by kernel_rfl) (fun _ _ _ h => h) (by rfl) hHeld (v := ?_) (fun w hSw => ?_) (fun _ => ?_)
          rotate_left
          · ((try dsimp only at hSw); go_simp; (try with_reducible rfl))
          simp only [Act.put, List.setIfInBounds_toArray, List.set_cons_zero, List.set_cons_succ]
          refine wpAnyH_done (by kernel_rfl) ?_ _
          have z0 := hO9.cell 0
          have z1 := hO9.cell 1
          replace z0 : _ = some (Value.string s) := z0
          replace z1 : _ = some (Value.slice ad zs.length cp) := z1
          have hsv := (HPI.out _ hM9.2.1).2.1
          replace hsv : Shows w9 w.heap.size ad zs.length zs := hsv
          have hpd := padded_any ad zs.length cp zs w9 (hsv.more (Nat.le_trans (Nat.le_succ _) hM9.2.2.1)) (by omega)
          have HM9 := Lib.hid hM9
          have HPD := Lib.hid hpd
          clear hO9 hsv hpd hM9 HM4 c0 c1
          go_wp2_with fail
          refine HPD.out.mono ?_
          rintro e w10 ⟨A10, m10, c10, rfl, hs10, hb10⟩
          have hM10 := HM9.out.on hb10
          obtain ⟨v11, w11, hrun11, hM11, _⟩ := hM10.append c10 hs10 (by have := HP.out; simp only [List.length_append, List.length_cons, List.length_nil, four] at this ⊢; omega) 26
          have HM11 := Lib.hid hM11
          clear hM10 hM11 hs10 hb10 z0 z1
          go_wp2_with (at_builtin; refine Lib.wpList_append_run_sl _ rfl _ _ _ rfl _ _ rfl rfl hrun11 ?_)
          clear hrun11
          go_roundw
          case rel => exact ⟨k + 1, by omega, by go_num, by
            have e : Z ++ (ys ++ propT l ⟨s, ad, cp, zs⟩) = ((((((Z ++ ys) ++ []) ++ [0, 0, 0, 3]) ++ four zs.length) ++ four (whereL l s)) ++ padL zs) := by simp [propT, List.append_assoc]
            rw [HNX.out, e]; exact HM11.out⟩
          case measure => simp [intOf]; omega
        · obtain rfl : k = ps.length := by omega
          have hte : ps.take ps.length = ps := List.take_length
          rw [hte] at HM
          have HZP := Lib.hid (show (Z ++ ps.flatMap (propT l)).length ≤ 8 + nm.size + (ps.map heftP).sum by
            have h1 := props_length l ps
            have h3 := HLZ.out
            rw [List.length_append]
            omega)
          generalize hY : Z ++ ps.flatMap (propT l) = Y at HM HZP
          have HY := Lib.hid hY
          clear hmid hbw hte hY x0 x1
          go_wp2_with fail
          go_loopw [8, 68] (fun v i wr => ∃ k : Nat, k ≤ ks.length ∧ i = .int .i64 k ∧ Mid (w.heap.size + 1) (w.alloc (.cells #[.string nm, .slice pa ps.length pc, .slice ka ks.length kc] 38)) wr v (Y ++ nodeL l (ks.take k))) (fun _ i _ => ks.length - (intOf i).toNat)
          case atStart => exact ⟨0, Nat.zero_le _, rfl, by simpa [nodeL] using HM.out⟩
          case round =>
            obtain ⟨k, hk, rfl, hmid⟩ := hrel
            obtain ⟨x0, x1, x2⟩ := BX.out _ hmid.2.1
            have HM := Lib.hid hmid
            have hbw := HBW.out _ hmid.2.1
            by_cases hlt : k < ks.length
            · obtain ⟨b, o, e, hb, c0, c1, c2⟩ := (HI.out.under hbw).kcell (i := k) hlt
              obtain rfl : ka = _ := e
              replace c0 : _ = some (Value.string ks[k].name) := c0
              replace c1 : _ = some (Value.slice ks[k].pa ks[k].props.length ks[k].pc) := c1
              replace c2 : _ = some (Value.slice ks[k].ka ks[k].kids.length ks[k].kc) := c2
              have hheftk : heftL (ks.take k) + heftN ks[k] ≤ heftL ks := by
                have h1 := heftL_next ks k hlt
                have h2 := heftL_take ks (k + 1)
                omega
              have HKL := Lib.hid (show (Y ++ nodeL l (ks.take k)).length + (nodeN l ks[k]).length ≤ 140737488351232 by
                have h1 := nodeL_length l (ks.take k)
                have h2 := nodeN_length l ks[k]
                have h3 := HZP.out
                rw [List.length_append]
                omega)
              have HC := Lib.hid (IH.out ks[k] (List.getElem_mem hlt) la ll lc wr (((HI.out.under hbw).kid (List.getElem_mem hlt)).more hbw.size) ((HTW.out _ hmid.2.1).more hbw.size) HLL.out hlc hlm (by omega) htz)
              have HNX := Lib.hid (nodeL_next l ks k hlt)
              clear hmid hbw
              go_wp2_with fail
              refine HC.out.mono ?_
              rintro e w3 ⟨v3, rfl, hown3, hb3, hz3⟩
              obtain ⟨A3, c3, rfl, hs3, _, _⟩ := owned_shows hown3 hz3
              obtain ⟨v4, w4, hrun4, hM4, _⟩ := (HM.out.on hb3).append c3 hs3 HKL.out 26
              have HM4 := Lib.hid hM4
              clear hown3 hb3 hs3 hM4
              go_wp2_with (at_builtin; refine Lib.wpList_append_run_sl _ rfl _ _ _ rfl _ _ rfl rfl hrun4 ?_)
              clear hrun4
              go_roundw
              case rel => exact ⟨k + 1, by omega, by go_num, by rw [HNX.out, ← List.append_assoc]; exact HM4.out⟩
              case measure => simp [intOf]; omega
            · obtain rfl : k = ks.length := by omega
              have hte : ks.take ks.length = ks := List.take_length
              rw [hte] at HM
              have hYL : (Y ++ nodeL l ks).length ≤ 8589934592 := by
                have h1 := nodeL_length l ks
                have h3 := HZP.out
                rw [List.length_append]
                omega
              obtain ⟨v1, w1, hrun1, hM2, _⟩ := HM.out.append (B' := 0) 0 (Shows.nil _ _) (by simp only [List.length_nil]; omega) 26
              have hM3 := hM2.on ((Below.refl _ _).alloc (Nat.le_refl _) (.cells #[.int .u8 0, .int .u8 0, .int .u8 0, .int .u8 2] 5))
              obtain ⟨v2, w2, hrun2, hM4, _⟩ := hM3.append 4 (four_new w1 0 0 0 2 (by simp)) (by rw [List.append_nil]; simp only [List.length_cons, List.length_nil] at hYL ⊢; omega) 26
              have HM4 := Lib.hid hM4
              have HE := Lib.hid (show nodeN l (.mk nm pa pc ps ka kc ks) = ((Y ++ nodeL l ks) ++ []) ++ [0, 0, 0, 2] by rw [nodeN, HZ.out, HY.out]; simp)
              clear hmid hbw hte hM2 hM3 hM4 x0 x1 x2
              go_wp2_with (at_builtin; first | (refine Lib.wpList_append_run_sl _ rfl _ _ _ rfl _ _ rfl rfl hrun1 ?_) | (refine Lib.wpList_append_run_sl _ rfl _ _ _ rfl _ _ rfl rfl hrun2 ?_))
              go_ret
              refine ⟨_, rfl, ?_, HBW.out _ HM4.out.2.1, ?_⟩
              · rw [HE.out]
                exact own_base HM4.out.1 (Nat.le_succ _)
              · rw [HE.out]
                exact HM4.out.2.2.2
end Go.Proofs.Ytnopcnbeklbfoaa

/-! The bytes of ten numbers, and the ten numbers of bytes. -/
namespace Go.Proofs.Ytnopcnbeklbfoaa
open Go.RowKit
set_option linter.unusedVariables false
set_option linter.unusedSimpArgs false

/-- The bytes of the first k of the numbers. -/
def fours (f : Nat → Int) (k : Nat) : List Int := (List.range k).flatMap fun i => four (f i)
theorem fours_succ (f : Nat → Int) (k : Nat) : fours f (k + 1) = fours f k ++ four (f k) := by
  simp [fours, List.range_succ]
theorem fours_length (f : Nat → Int) : ∀ k, (fours f k).length = k * 4
  | 0 => rfl
  | k + 1 => by rw [fours_succ, List.length_append, fours_length f k]; simp [four]; omega
theorem fours_byte (f : Nat → Int) (hf : ∀ i, 0 ≤ f i ∧ f i ≤ 4294967295) (k : Nat) : ∀ z ∈ fours f k, 0 ≤ z ∧ z < 256 := by
  intro z hz
  obtain ⟨i, _, h⟩ := List.mem_flatMap.1 hz
  exact four_byte _ (hf i).1 (hf i).2 z h
theorem numTo_four (a b : List Int) (v : Int) (h0 : 0 ≤ v) : numTo (a ++ (four v ++ b)) a.length 4 = v := by
  have e : ∀ i, (a ++ (four v ++ b)).getD (a.length + i) 0 = (four v ++ b).getD i 0 := fun i => by
    simp [List.getD, List.getElem?_append_right]
  simp only [numTo, e]
  simp only [four, List.cons_append, List.nil_append, List.getD_cons_zero, List.getD_cons_succ]
  omega
theorem hcell_fours (f : Nat → Int) (hf : ∀ i, 0 ≤ f i ∧ f i ≤ 4294967295) (b : List Int) (k : Nat) (hk : k < 10) : hcell (fours f 10 ++ b) k = f k := by
  have h : ∀ m, k < m → m ≤ 10 → ∃ c, fours f m = fours f k ++ (four (f k) ++ c) := by
    intro m
    induction m with
    | zero => omega
    | succ m ih =>
      intro h1 h2
      rcases Nat.lt_or_ge k m with h | h
      · obtain ⟨c, hc⟩ := ih h (by omega)
        exact ⟨c ++ four (f m), by rw [fours_succ, hc]; simp⟩
      · obtain rfl : m = k := by omega
        exact ⟨[], by rw [fours_succ]; simp⟩
  obtain ⟨c, hc⟩ := h 10 hk (Nat.le_refl _)
  unfold hcell
  rw [hc, ← fours_length f k]
  simp only [List.append_assoc]
  exact numTo_four _ _ _ (hf k).1

theorem awake4 (w : World) : Calls Try.prog 9 #[] w fun e w' => e = .returned (.bool true) ∧ Below w.heap.size w w' := by
  have C := Lib.hid (decode_err none 0 0 (fun _ => 0) w 4 (by decide) (fun o => (header_no none 0 0 (fun _ => 0) (w.alloc o) (.inl (by omega)) (by omega)).mono fun e w' h => ⟨h.1, by rw [h.2]; exact (Below.refl _ _).alloc (Nat.le_refl _) _⟩))
  go_enter Try.func9, Try.ntmps9
  go_wp2_with fail
  refine C.out.mono ?_
  rintro e w1 ⟨rfl, hb⟩
  have HB := Lib.hid hb
  clear hb
  go_wp2
  go_ret
  exact ⟨rfl, HB.out.alloc HB.out.size _⟩

end Go.Proofs.Ytnopcnbeklbfoaa

/-! Layer 3: whether one name is there twice, by a map of the names that were seen. -/
namespace Go.Proofs.Ytnopcnbeklbfoaa
open Go.RowKit Go.Maps Go.WideMaps
set_option linter.unusedVariables false
set_option linter.unusedSimpArgs false

/-- One name is there twice. -/
def twiceB (l : List ByteArray) : Bool := !decide l.Nodup

/-- The key that a name is, and the set of the first k names. -/
def keyL (s : ByteArray) : Lit := .string s.data.toList
def Sn (l : List ByteArray) (k : Nat) : DataW Unit := setOf (.agg []) ((l.take k).map keyL)

theorem Sn_zero (l : List ByteArray) : Sn l 0 = .map [] := by simp [Sn, setOf]
theorem Sn_succ (l : List ByteArray) (k : Nat) (hk : k < l.length) : Sn l (k + 1) = (Sn l k).put (keyL l[k]) (.agg []) := by
  unfold Sn
  rw [List.take_add_one, List.getElem?_eq_getElem hk, List.map_append, ← setOf_snoc]
  rfl
theorem has_Sn (l : List ByteArray) (k : Nat) (s : ByteArray) : Maps.has (Sn l k) (keyL s) = true ↔ s ∈ l.take k := by
  unfold Sn
  rw [has_setOf _ _ _ (fun y hy => by obtain ⟨_, _, rfl⟩ := List.mem_map.1 hy; trivial), List.any_map, List.any_eq_true]
  constructor
  · rintro ⟨x, hx, h⟩
    have e : x.data.toList = s.data.toList := by
      have h' : (keyL x).sameKey (keyL s) = true := h
      by_cases e : keyL x = keyL s
      · exact (Lit.string.inj e)
      · rw [sameKey_ne e] at h'; cases h'
    rw [← WideShapes.bytes_inj e]
    exact hx
  · intro h
    refine ⟨s, h, ?_⟩
    show (keyL s).sameKey (keyL s) = true
    simp [keyL, Lit.sameKey]
theorem has_no {l : List ByteArray} {k : Nat} {s : ByteArray} (h : s ∉ l.take k) : Maps.has (Sn l k) (keyL s) = false := by
  rcases e : Maps.has (Sn l k) (keyL s) with _ | _
  · rfl
  · exact absurd ((has_Sn l k s).1 e) h

theorem nodup_zero (l : List ByteArray) : (l.take 0).Nodup := by simp
theorem nodup_succ {l : List ByteArray} {k : Nat} (h : (l.take k).Nodup) (hk : k < l.length) (hn : l[k] ∉ l.take k) : (l.take (k + 1)).Nodup := by
  rw [List.take_add_one, List.getElem?_eq_getElem hk]
  rw [List.nodup_append]
  refine ⟨h, by simp, ?_⟩
  intro a ha b hb hab
  simp at hb
  subst hb hab
  exact hn ha
theorem twice_hit {l : List ByteArray} {k : Nat} (hk : k < l.length) (hn : l[k] ∈ l.take k) : twiceB l = true := by
  have : ¬ l.Nodup := fun h => by
    have h1 : (l.take k ++ l.drop k).Nodup := by rw [List.take_append_drop]; exact h
    rw [List.nodup_append] at h1
    exact h1.2.2 _ hn l[k] (by rw [List.drop_eq_getElem_cons hk]; exact List.mem_cons_self ..) rfl
  simp [twiceB, this]
theorem twice_all {l : List ByteArray} {k : Nat} (h : (l.take k).Nodup) (hk : ¬ k < l.length) : twiceB l = false := by
  rw [List.take_of_length_le (by omega)] at h
  simp [twiceB, h]

theorem ownsMap_below {w w' : World} {B b n : Nat} {k : TypeId} {R : Value → Option (DataW Unit × List MemPlace)} {D : DataW Unit} (h : w.ownsMap Try.prog k R b n D) (hb : Below B w w') (hlt : b < B) : w'.ownsMap Try.prog k R b n D := by
  obtain ⟨es, clock, h1, h2⟩ := h
  exact ⟨es, clock, (hb.block b hlt).trans h1, h2⟩

theorem lawS : Keyed Try.prog 9 := string_keyed Try.underlying9
theorem zeroS (w : World) : (zeroValue 133).run Try.prog w = .ok (.agg #[]) w := by kernel_rfl
theorem key_ok {s : ByteArray} (hs : s.size ≤ 140737488351232) : keyOf Try.prog 9 (.string s) = some (keyL s) := keyOf_string_mk Try.underlying9 (by unfold maxLen; omega)

theorem propName_any (p : PV) (w : World) : Calls Try.prog 79 #[.agg #[.string p.name, p.val]] w fun e w' => e = .returned (.string p.name) ∧ Below w.heap.size w w' := by
  obtain ⟨x, a, c, zs⟩ := p
  show Calls _ _ #[.agg #[.string x, .slice a zs.length c]] _ _
  go_enter Try.func79, Try.ntmps79
  go_wp2
  go_ret
  exact ⟨rfl, (Below.refl _ _).alloc (Nat.le_refl _) _⟩

theorem nodeName_any (n : Nd) (w : World) : Calls Try.prog 81 #[n.val] w fun e w' => e = .returned (.string n.name) ∧ Below w.heap.size w w' := by
  obtain ⟨nm, pa, pc, ps, ka, kc, ks⟩ := n
  show Calls _ _ #[.agg #[.string nm, .slice pa ps.length pc, .slice ka ks.length kc]] _ _
  go_enter Try.func81, Try.ntmps81
  go_wp2
  go_ret
  exact ⟨rfl, (Below.refl _ _).alloc (Nat.le_refl _) _⟩

set_option maxHeartbeats 2000000 in
theorem twiceP_any (n : Nd) (w : World) (hin : n.In w w.heap.size) (r : Bool) (hr : twiceB (n.props.map PV.name) = r) :
    Calls Try.prog 78 #[n.pv, .func (.func 79) #[] #[]] w fun e w' => e = .returned (.bool r) ∧ Below w.heap.size w w' := by
  have hmm := @run_makeMap Try.prog
  obtain ⟨nm, pa, pc, ps, ka, kc, ks⟩ := n
  have HI := Lib.hid hin
  have HR := Lib.hid (show twiceB (ps.map PV.name) = r from hr)
  obtain ⟨hl, hm⟩ : ps.length ≤ pc ∧ pc ≤ 9223372036854775807 := hin.plen
  obtain ⟨_, hsz, _⟩ : nm.size ≤ 140737488351232 ∧ ps.length * 40 ≤ 140737488351232 ∧ _ := hin.name_le
  have HM := Lib.hid (show (ps.map PV.name).length = ps.length from List.length_map _)
  clear hin hr
  show Calls _ _ #[.slice pa ps.length pc, _] _ _
  go_enter Try.func78, Try.ntmps78
  go_wp2_with fail
  go_loopw [13] (fun i wr => ∃ k : Nat, k ≤ ps.length ∧ i = .int .i64 k ∧ ((ps.map PV.name).take k).Nodup ∧ wr.ownsMap Try.prog 9 unitElem w.heap.size k (Sn (ps.map PV.name) k) ∧ Below w.heap.size w wr ∧ w.heap.size < wr.heap.size) (fun i _ => ps.length - (intOf i).toNat)
  case atStart => exact ⟨0, Nat.zero_le _, rfl, nodup_zero _, by rw [Sn_zero]; exact World.ownsMap_made _ _ _ _, (Below.refl _ _).alloc (Nat.le_refl _) _, by simp⟩
  case round =>
    obtain ⟨k, hk, rfl, hnd, hown, hb, hz⟩ := hrel
    have HN := Lib.hid hnd
    have HB := Lib.hid hb
    have HO := Lib.hid hown
    have HZ := Lib.hid hz
    clear hnd hb hown hz
    by_cases hlt : k < ps.length
    · obtain ⟨b, o, e, hb, c0, c1⟩ := (HI.out.under HB.out).pcell (i := k) hlt
      obtain rfl : pa = _ := e
      replace c0 : _ = some (Value.string ps[k].name) := c0
      replace c1 : _ = some (Value.slice ps[k].addr ps[k].zs.length ps[k].cap) := c1
      have hxm : Hid ((ps.map PV.name)[k]'(by rw [HM.out]; exact hlt) = ps[k].name) := List.getElem_map _
      have HK := Lib.hid (key_ok (HI.out.prop (List.getElem_mem hlt)).1.1)
      have HA := Lib.hid (Below.alloc (Below.refl wr.heap.size wr) (Nat.le_refl _) (.cells #[Value.string ps[k].name, .slice ps[k].addr ps[k].zs.length ps[k].cap] 52))
      have HC := Lib.hid (propName_any ps[k])
      by_cases hmem : ps[k].name ∈ (ps.map PV.name).take k
      · have hhas := (has_Sn (ps.map PV.name) k ps[k].name).2 hmem
        obtain rfl : r = true := by rw [← HR.out]; exact twice_hit (k := k) (by rw [HM.out]; exact hlt) (by rw [hxm.out]; exact hmem)
        clear hmem
        go_wp2_with fail
        refine (HC.out _).mono ?_
        rintro e w1 ⟨rfl, hb1⟩
        have HB1 := Lib.hid (HA.out.trans (hb1.mono HA.out.size))
        have HO1 := Lib.hid (ownsMap_below HO.out HB1.out HZ.out)
        clear hb1
        go_wp2_with (first | (at_lookup; refine wpList_lookup_own_unit _ rfl _ _ 94 rfl 9 133 lawS Try.underlying94 (zeroS _) w.heap.size k _ rfl HO1.out _ _ rfl HK.out ?_) | fail)
        go_ret
        exact ⟨rfl, (HB.out.trans (HB1.out.mono HB.out.size)).alloc (by have h1 := HB.out.size; have h2 := HB1.out.size; omega) _⟩
      · have hhas := has_no hmem
        have HN1 := Lib.hid (nodup_succ HN.out (by rw [HM.out]; exact hlt) (by rw [hxm.out]; exact hmem))
        clear hmem
        go_wp2_with fail
        refine (HC.out _).mono ?_
        rintro e w1 ⟨rfl, hb1⟩
        have HB1 := Lib.hid (HA.out.trans (hb1.mono HA.out.size))
        have HO1 := Lib.hid (ownsMap_below HO.out HB1.out HZ.out)
        have d0 : ∀ o, (w1.alloc o).cell? ⟨wr.heap.size, 0, none⟩ = some (Value.string ps[k].name) := fun o => Lib.cell?_alloc_some o ((hb1.cell (p := ⟨wr.heap.size, 0, none⟩) (by simp)).trans (World.cell?_alloc_new _ _ _ _))
        have d1 : ∀ o, (w1.alloc o).cell? ⟨wr.heap.size, 1, none⟩ = some (Value.slice ps[k].addr ps[k].zs.length ps[k].cap) := fun o => Lib.cell?_alloc_some o ((hb1.cell (p := ⟨wr.heap.size, 1, none⟩) (by simp)).trans (World.cell?_alloc_new _ _ _ _))
        clear hb1
        go_wp2_with (first | (at_lookup; refine wpList_lookup_own_unit _ rfl _ _ 94 rfl 9 133 lawS Try.underlying94 (zeroS _) w.heap.size k _ rfl HO1.out _ _ rfl HK.out ?_) | fail)
        refine (HC.out _).mono ?_
        rintro e w2 ⟨rfl, hb2⟩
        have HB2 := Lib.hid ((HB1.out.alloc HB1.out.size (.cells #[] 133)).trans (hb2.mono (by have := HB1.out.size; simp; omega)))
        have HO2 := Lib.hid (ownsMap_below HO.out HB2.out HZ.out)
        clear hb2
        go_wp2_with (first | (at_mapUpdate; refine wpList_mapUpdate_own _ rfl _ _ _ 94 rfl 9 133 lawS Try.underlying94 unitElem w.heap.size k _ rfl HO2.out (by unfold maxLen; omega) _ _ _ rfl rfl HK.out (.agg []) [] unitElem_mk ?_; intro w3 hown3 hgrow3) | fail)
        go_roundw
        case rel => exact ⟨k + 1, by omega, by go_num, HN1.out, by have h := hown3; rw [← hxm.out, ← Sn_succ] at h; exact h, (HB.out.trans (HB2.out.mono HB.out.size)).grown hgrow3 (by have h1 := HB.out.size; have h2 := HB2.out.size; omega) (fun j hj => by cases hj; exact Nat.le_refl _), by have h1 := HZ.out; have h2 := HB2.out.size; have h3 := hgrow3.size; omega⟩
        case measure => simp [intOf]; omega
    · obtain rfl : r = false := by rw [← HR.out]; exact twice_all HN.out (by rw [HM.out]; exact hlt)
      go_wp2
      go_ret
      exact ⟨rfl, HB.out⟩
set_option maxHeartbeats 2000000 in
theorem twiceN_any (n : Nd) (w : World) (hin : n.In w w.heap.size) (r : Bool) (hr : twiceB (n.kids.map Nd.name) = r) :
    Calls Try.prog 80 #[n.kv, .func (.func 81) #[] #[]] w fun e w' => e = .returned (.bool r) ∧ Below w.heap.size w w' := by
  have hmm := @run_makeMap Try.prog
  obtain ⟨nm, pa, pc, ps, ka, kc, ks⟩ := n
  have HI := Lib.hid hin
  have HR := Lib.hid (show twiceB (ks.map Nd.name) = r from hr)
  obtain ⟨hl, hm⟩ : ks.length ≤ kc ∧ kc ≤ 9223372036854775807 := hin.klen
  obtain ⟨_, _, hsz⟩ : nm.size ≤ 140737488351232 ∧ _ ∧ ks.length * 64 ≤ 140737488351232 := hin.name_le
  have HM := Lib.hid (show (ks.map Nd.name).length = ks.length from List.length_map _)
  clear hin hr
  show Calls _ _ #[.slice ka ks.length kc, _] _ _
  go_enter Try.func80, Try.ntmps80
  go_wp2_with fail
  go_loopw [13] (fun i wr => ∃ k : Nat, k ≤ ks.length ∧ i = .int .i64 k ∧ ((ks.map Nd.name).take k).Nodup ∧ wr.ownsMap Try.prog 9 unitElem w.heap.size k (Sn (ks.map Nd.name) k) ∧ Below w.heap.size w wr ∧ w.heap.size < wr.heap.size) (fun i _ => ks.length - (intOf i).toNat)
  case atStart => exact ⟨0, Nat.zero_le _, rfl, nodup_zero _, by rw [Sn_zero]; exact World.ownsMap_made _ _ _ _, (Below.refl _ _).alloc (Nat.le_refl _) _, by simp⟩
  case round =>
    obtain ⟨k, hk, rfl, hnd, hown, hb, hz⟩ := hrel
    have HN := Lib.hid hnd
    have HB := Lib.hid hb
    have HO := Lib.hid hown
    have HZ := Lib.hid hz
    clear hnd hb hown hz
    by_cases hlt : k < ks.length
    · obtain ⟨b, o, e, hb, c0, c1, c2⟩ := (HI.out.under HB.out).kcell (i := k) hlt
      obtain rfl : ka = _ := e
      replace c0 : _ = some (Value.string ks[k].name) := c0
      replace c1 : _ = some (Value.slice ks[k].pa ks[k].props.length ks[k].pc) := c1
      replace c2 : _ = some (Value.slice ks[k].ka ks[k].kids.length ks[k].kc) := c2
      have hxm : Hid ((ks.map Nd.name)[k]'(by rw [HM.out]; exact hlt) = ks[k].name) := List.getElem_map _
      have HK := Lib.hid (key_ok (HI.out.kid (List.getElem_mem hlt)).name_le.1)
      have HA := Lib.hid (Below.alloc (Below.refl wr.heap.size wr) (Nat.le_refl _) (.cells #[Value.string ks[k].name, .slice ks[k].pa ks[k].props.length ks[k].pc, .slice ks[k].ka ks[k].kids.length ks[k].kc] 38))
      have HC := Lib.hid (nodeName_any ks[k])
      by_cases hmem : ks[k].name ∈ (ks.map Nd.name).take k
      · have hhas := (has_Sn (ks.map Nd.name) k ks[k].name).2 hmem
        obtain rfl : r = true := by rw [← HR.out]; exact twice_hit (k := k) (by rw [HM.out]; exact hlt) (by rw [hxm.out]; exact hmem)
        clear hmem
        go_wp2_with fail
        refine (HC.out _).mono ?_
        rintro e w1 ⟨rfl, hb1⟩
        have HB1 := Lib.hid (HA.out.trans (hb1.mono HA.out.size))
        have HO1 := Lib.hid (ownsMap_below HO.out HB1.out HZ.out)
        clear hb1
        go_wp2_with (first | (at_lookup; refine wpList_lookup_own_unit _ rfl _ _ 94 rfl 9 133 lawS Try.underlying94 (zeroS _) w.heap.size k _ rfl HO1.out _ _ rfl HK.out ?_) | fail)
        go_ret
        exact ⟨rfl, (HB.out.trans (HB1.out.mono HB.out.size)).alloc (by have h1 := HB.out.size; have h2 := HB1.out.size; omega) _⟩
      · have hhas := has_no hmem
        have HN1 := Lib.hid (nodup_succ HN.out (by rw [HM.out]; exact hlt) (by rw [hxm.out]; exact hmem))
        clear hmem
        go_wp2_with fail
        refine (HC.out _).mono ?_
        rintro e w1 ⟨rfl, hb1⟩
        have HB1 := Lib.hid (HA.out.trans (hb1.mono HA.out.size))
        have HO1 := Lib.hid (ownsMap_below HO.out HB1.out HZ.out)
        have d0 : ∀ o, (w1.alloc o).cell? ⟨wr.heap.size, 0, none⟩ = some (Value.string ks[k].name) := fun o => Lib.cell?_alloc_some o ((hb1.cell (p := ⟨wr.heap.size, 0, none⟩) (by simp)).trans (World.cell?_alloc_new _ _ _ _))
        have d1 : ∀ o, (w1.alloc o).cell? ⟨wr.heap.size, 1, none⟩ = some (Value.slice ks[k].pa ks[k].props.length ks[k].pc) := fun o => Lib.cell?_alloc_some o ((hb1.cell (p := ⟨wr.heap.size, 1, none⟩) (by simp)).trans (World.cell?_alloc_new _ _ _ _))
        have d2 : ∀ o, (w1.alloc o).cell? ⟨wr.heap.size, 2, none⟩ = some (Value.slice ks[k].ka ks[k].kids.length ks[k].kc) := fun o => Lib.cell?_alloc_some o ((hb1.cell (p := ⟨wr.heap.size, 2, none⟩) (by simp)).trans (World.cell?_alloc_new _ _ _ _))
        clear hb1
        go_wp2_with (first | (at_lookup; refine wpList_lookup_own_unit _ rfl _ _ 94 rfl 9 133 lawS Try.underlying94 (zeroS _) w.heap.size k _ rfl HO1.out _ _ rfl HK.out ?_) | fail)
        refine (HC.out _).mono ?_
        rintro e w2 ⟨rfl, hb2⟩
        have HB2 := Lib.hid ((HB1.out.alloc HB1.out.size (.cells #[] 133)).trans (hb2.mono (by have := HB1.out.size; simp; omega)))
        have HO2 := Lib.hid (ownsMap_below HO.out HB2.out HZ.out)
        clear hb2
        go_wp2_with (first | (at_mapUpdate; refine wpList_mapUpdate_own _ rfl _ _ _ 94 rfl 9 133 lawS Try.underlying94 unitElem w.heap.size k _ rfl HO2.out (by unfold maxLen; omega) _ _ _ rfl rfl HK.out (.agg []) [] unitElem_mk ?_; intro w3 hown3 hgrow3) | fail)
        go_roundw
        case rel => exact ⟨k + 1, by omega, by go_num, HN1.out, by have h := hown3; rw [← hxm.out, ← Sn_succ] at h; exact h, (HB.out.trans (HB2.out.mono HB.out.size)).grown hgrow3 (by have h1 := HB.out.size; have h2 := HB2.out.size; omega) (fun j hj => by cases hj; exact Nat.le_refl _), by have h1 := HZ.out; have h2 := HB2.out.size; have h3 := hgrow3.size; omega⟩
        case measure => simp [intOf]; omega
    · obtain rfl : r = false := by rw [← HR.out]; exact twice_all HN.out (by rw [HM.out]; exact hlt)
      go_wp2
      go_ret
      exact ⟨rfl, HB.out⟩
end Go.Proofs.Ytnopcnbeklbfoaa

/-! Layer 3: what is asked of a node itself. -/
namespace Go.Proofs.Ytnopcnbeklbfoaa
open Go.RowKit
set_option linter.unusedVariables false
set_option linter.unusedSimpArgs false

/-- A property whose name is none. -/
def misP (p : PV) : Bool := !propB p.name
/-- May a node at that depth bear its name? -/
noncomputable def nameOk (n : Nd) (d : Int) : Bool := if d = 1 then n.name.toList.isEmpty else nodeB n.name
/-- The first error of a node itself. -/
noncomputable def aloneE (n : Nd) (d : Int) : Int :=
  if 16 < d then 6 else if nameOk n d = false then 5 else if n.props.any misP = true then 5 else if twiceB (n.props.map PV.name) = true then 9 else if twiceB (n.kids.map Nd.name) = true then 9 else 0

theorem isMis_any (p : PV) (B : Nat) (w : World) (hp : p.In w B) (q : Bool) (hq : misP p = q) :
    Calls Try.prog 77 #[.agg #[.string p.name, p.val]] w fun e w' => e = .returned (.bool q) ∧ Below w.heap.size w w' := by
  have C := Lib.hid (fun w => propB_any p.name w hp.1.1 (!q) (by rw [← hq, misP, Bool.not_not]))
  clear hp hq
  obtain ⟨x, a, c, zs⟩ := p
  replace C : Hid (∀ w, Calls Try.prog 73 #[.string x] w _) := C
  show Calls _ _ #[.agg #[.string x, .slice a zs.length c]] _ _
  go_enter Try.func77, Try.ntmps77
  go_wp2_with fail
  refine (C.out _).mono ?_
  rintro e w' ⟨rfl, rfl⟩
  go_wp2
  go_ret
  exact ⟨by simp, (Below.refl _ _).alloc (Nat.le_refl _) _⟩

/-- None of the first k is bad. -/
def Good {α : Type} (f : α → Bool) (l : List α) (k : Nat) : Prop := ∀ j (hj : j < l.length), j < k → f l[j] = false
theorem Good.zero {α : Type} (f : α → Bool) (l : List α) : Good f l 0 := fun _ _ h => absurd h (Nat.not_lt_zero _)
theorem Good.succ {α : Type} {f : α → Bool} {l : List α} {k : Nat} (h : Good f l k) (hk : k < l.length) (he : f l[k] = false) : Good f l (k + 1) := fun j hj hlt => by
  rcases Nat.lt_succ_iff_lt_or_eq.1 hlt with h' | rfl
  · exact h j hj h'
  · exact he
theorem Good.all {α : Type} {f : α → Bool} {l : List α} {k : Nat} (h : Good f l k) (hk : ¬ k < l.length) : l.any f = false := by
  rw [List.any_eq_false]
  intro x hx
  obtain ⟨i, hi, rfl⟩ := List.getElem_of_mem hx
  rw [h i hi (by omega)]
  simp
theorem any_at {α : Type} {f : α → Bool} {l : List α} {k : Nat} (hk : k < l.length) (he : f l[k] = true) : l.any f = true := List.any_eq_true.2 ⟨_, List.getElem_mem hk, he⟩

set_option maxHeartbeats 2000000 in
theorem idxMis_any (n : Nd) (w : World) (hin : n.In w w.heap.size) (r : Bool) (hr : n.props.any misP = r) :
    Calls Try.prog 88 #[n.pv, .func (.func 77) #[] #[]] w fun e w' => (∃ i : Int, e = .returned (.int .i64 i) ∧ decide (0 ≤ i) = r) ∧ Below w.heap.size w w' := by
  obtain ⟨nm, pa, pc, ps, ka, kc, ks⟩ := n
  have HI := Lib.hid hin
  have HR := Lib.hid (show ps.any misP = r from hr)
  obtain ⟨hl, hm⟩ : ps.length ≤ pc ∧ pc ≤ 9223372036854775807 := hin.plen
  clear hin hr
  show Calls _ _ #[.slice pa ps.length pc, _] _ _
  go_enter Try.func88, Try.ntmps88
  go_wp2_with fail
  go_loopw [8] (fun i wr => ∃ k : Nat, k ≤ ps.length ∧ i = .int .i64 k ∧ Good misP ps k ∧ Below w.heap.size w wr) (fun i _ => ps.length - (intOf i).toNat)
  case atStart => exact ⟨0, Nat.zero_le _, rfl, Good.zero _ _, Below.refl _ _⟩
  case round =>
    obtain ⟨k, hk, rfl, hgood, hb⟩ := hrel
    have HA := Lib.hid hgood
    have HB := Lib.hid hb
    clear hgood hb
    by_cases hlt : k < ps.length
    · obtain ⟨b, o, e, hb, c0, c1⟩ := (HI.out.under HB.out).pcell (i := k) hlt
      obtain rfl : pa = _ := e
      replace c0 : _ = some (Value.string ps[k].name) := c0
      replace c1 : _ = some (Value.slice ps[k].addr ps[k].zs.length ps[k].cap) := c1
      obtain ⟨q, hq⟩ : ∃ q, misP ps[k] = q := ⟨_, rfl⟩
      have C := Lib.hid (isMis_any ps[k] _ wr ((HI.out.prop (List.getElem_mem hlt)).keep (fun _ hp => HB.out.cell hp)) q hq)
      have HQ := Lib.hid hq
      clear hq
      cases q
      · go_wp2_with fail
        refine C.out.mono ?_
        rintro e w' ⟨rfl, hb'⟩
        have HB2 := Lib.hid (HB.out.trans (hb'.mono HB.out.size))
        clear hb'
        go_wp2
        go_roundw
        case rel => exact ⟨k + 1, by omega, by go_num, HA.out.succ hlt HQ.out, HB2.out⟩
        case measure => simp [intOf]; omega
      · obtain rfl : r = true := by rw [← HR.out]; exact any_at hlt HQ.out
        go_wp2_with fail
        refine C.out.mono ?_
        rintro e w' ⟨rfl, hb'⟩
        have HB2 := Lib.hid (HB.out.trans (hb'.mono HB.out.size))
        clear hb'
        go_wp2
        go_ret
        exact ⟨⟨k, rfl, by simp⟩, HB2.out⟩
    · obtain rfl : r = false := by rw [← HR.out]; exact HA.out.all hlt
      go_wp2
      go_ret
      exact ⟨⟨-1, rfl, by simp⟩, HB.out⟩

theorem containsMis_any (n : Nd) (w : World) (hin : n.In w w.heap.size) (r : Bool) (hr : n.props.any misP = r) :
    Calls Try.prog 76 #[n.pv, .func (.func 77) #[] #[]] w fun e w' => e = .returned (.bool r) ∧ Below w.heap.size w w' := by
  have C := Lib.hid (idxMis_any n w hin r hr)
  clear hin hr
  obtain ⟨nm, pa, pc, ps, ka, kc, ks⟩ := n
  show Calls _ _ #[.slice pa ps.length pc, _] _ _
  go_enter Try.func76, Try.ntmps76
  go_wp2_with fail
  refine C.out.mono ?_
  rintro e w' ⟨⟨i, rfl, hi⟩, hb⟩
  have HB := Lib.hid hb
  have HV := Lib.hid hi
  clear hb hi
  go_wp2
  go_ret
  exact ⟨congrArg (fun b => Ending.returned (.bool b)) HV.out, HB.out⟩

theorem mayBe_any (n : Nd) (d : Int) (w : World) (hin : n.In w w.heap.size) (r : Bool) (hr : nameOk n d = r) :
    Calls Try.prog 75 #[n.val, .int .i64 d] w fun e w' => e = .returned (.bool r) ∧ Below w.heap.size w w' := by
  have hs := hin.name_le.1
  obtain ⟨nm, pa, pc, ps, ka, kc, ks⟩ := n
  replace hs : nm.size ≤ 140737488351232 := hs
  clear hin
  show Calls _ _ #[.agg #[.string nm, .slice pa ps.length pc, .slice ka ks.length kc], .int .i64 d] _ _
  have HB := Lib.hid ((Below.refl w.heap.size w).alloc (Nat.le_refl _) (.cells #[Value.string nm, .slice pa ps.length pc, .slice ka ks.length kc] 38))
  by_cases hd : d = 1
  · subst hd
    have hr' : nm.toList.isEmpty = r := by rw [← hr, nameOk, if_pos rfl]; rfl
    have HR := Lib.hid hr'
    clear hr hr'
    go_enter Try.func75, Try.ntmps75
    go_wp2
    go_ret
    exact ⟨congrArg (fun b => Ending.returned (.bool b)) HR.out, HB.out⟩
  · have hd1 : (d == 1) = false := by rw [beq_eq_false_iff_ne]; exact hd
    have C := Lib.hid (fun w => nodeB_any nm w hs r (by rw [← hr, nameOk, if_neg hd]; rfl))
    clear hr hd
    go_enter Try.func75, Try.ntmps75
    go_wp2_with fail
    refine (C.out _).mono ?_
    rintro e w' ⟨rfl, hb⟩
    have HB2 := Lib.hid (HB.out.trans (hb.mono HB.out.size))
    clear hb
    go_wp2
    go_ret
    exact ⟨rfl, HB2.out⟩
end Go.Proofs.Ytnopcnbeklbfoaa

/-! Layer 3: a tree as it lies in memory; whether there are too many. -/
namespace Go.Proofs.Ytnopcnbeklbfoaa
open Go.RowKit Go.ChangeShapes Go.WideShapes Go.Deep
set_option linter.unusedVariables false
set_option linter.unusedSimpArgs false

/-- A tree as it lies: its reserves' slice, and its root. -/
structure Tr where
  boot : Int
  ra : Option Addr
  rc : Nat
  rs : List (Int × Int)
  root : Nd

def Tr.rv (t : Tr) : Value := .slice t.ra t.rs.length t.rc
def Tr.val (t : Tr) : Value := .agg #[.int .u32 t.boot, t.rv, .string t.root.name, t.root.pv, t.root.kv]

/-- The cells of a row of reserves. -/
def RRow (w : World) (B : Nat) (a : Option Addr) (l : List (Int × Int)) : Prop :=
  0 < l.length → ∃ b o, a = some ⟨b, o, none⟩ ∧ b < B ∧ ∀ i (h : i < l.length), w.cell? ⟨b, o + i * 2, none⟩ = some (.int .u64 l[i].1) ∧ w.cell? ⟨b, o + i * 2 + 1, none⟩ = some (.int .u64 l[i].2)

structure Tr.In (w : World) (B : Nat) (t : Tr) : Prop where
  boot : 0 ≤ t.boot ∧ t.boot ≤ 4294967295
  len : t.rs.length ≤ t.rc ∧ t.rc ≤ 9223372036854775807 ∧ t.rs.length * 16 ≤ 140737488351232
  row : RRow w B t.ra t.rs
  nums : ∀ r ∈ t.rs, (0 ≤ r.1 ∧ r.1 ≤ 18446744073709551615) ∧ (0 ≤ r.2 ∧ r.2 ≤ 18446744073709551615)
  root : t.root.In w B

section
variable {w w' : World} {B B' : Nat}
theorem RRow.keep {a : Option Addr} {l : List (Int × Int)} (h : RRow w B a l) (hk : ∀ a : Addr, a.block < B → w'.cell? a = w.cell? a) : RRow w' B a l := fun h0 => by
  obtain ⟨b, o, e, hb, hc⟩ := h h0
  exact ⟨b, o, e, hb, fun i hi => ⟨(hk _ hb).trans (hc i hi).1, (hk _ hb).trans (hc i hi).2⟩⟩
theorem RRow.more {a : Option Addr} {l : List (Int × Int)} (h : RRow w B a l) (hB : B ≤ B') : RRow w B' a l := fun h0 => by
  obtain ⟨b, o, e, hb, hc⟩ := h h0
  exact ⟨b, o, e, by omega, hc⟩
theorem Tr.In.under {t : Tr} (h : t.In w B) (hb : Below B w w') : t.In w' B := ⟨h.boot, h.len, h.row.keep (fun _ hp => hb.cell hp), h.nums, h.root.under hb⟩
theorem Tr.In.more {t : Tr} (h : t.In w B) (hB : B ≤ B') : t.In w B' := ⟨h.boot, h.len, h.row.more hB, h.nums, h.root.more hB⟩
theorem Tr.In.on {t : Tr} (h : t.In w w.heap.size) (hb : Below w.heap.size w w') : t.In w' w'.heap.size := (h.under hb).more hb.size
theorem Tr.In.rcell {t : Tr} (h : t.In w B) {i : Nat} (hi : i < t.rs.length) : ∃ b o, t.ra = some ⟨b, o, none⟩ ∧ b < B ∧ w.cell? ⟨b, o + i * 2, none⟩ = some (.int .u64 t.rs[i].1) ∧ w.cell? ⟨b, o + i * 2 + 1, none⟩ = some (.int .u64 t.rs[i].2) := by
  obtain ⟨b, o, e, hb, hc⟩ := h.row (by omega)
  exact ⟨b, o, e, hb, hc i hi⟩
end

theorem Try.cellsRes : Try.prog.cellsOf 62 = 2 := by kernel_rfl
theorem Try.cellsRess : Try.prog.cellsOf 34 = 1 := by kernel_rfl
theorem Try.cellsU64 : Try.prog.cellsOf 28 = 1 := by kernel_rfl
theorem Try.cellsU32 : Try.prog.cellsOf 22 = 1 := by kernel_rfl
theorem Try.cellsTree : Try.prog.cellsOf 40 = 5 := by kernel_rfl
theorem Try.bytesRes : Try.prog.bytesOf 62 = 16 := by kernel_rfl

section
variable {H : Type} {enc : TypeId × Value → H} {w : World} {base : Nat} {spare : Nat → Bool} {held : Bool}

theorem open_res {fuel : Nat} {cs : List Value} {x : DataW H × List MemPlace} (h : DataW.trod enc Try.prog w base spare held fuel 62 cs = some x) :
    ∃ r : Int × Int, cs = [.int .u64 r.1, .int .u64 r.2] ∧ (0 ≤ r.1 ∧ r.1 ≤ 18446744073709551615) ∧ (0 ≤ r.2 ∧ r.2 ≤ 18446744073709551615) := by
  obtain ⟨y0, y1, n, rfl, hl, h0, h1⟩ := trod_struct2 Try.underlying62 h
  rw [Try.cellsRes] at hl
  obtain ⟨c0, c1, rfl⟩ : ∃ c0 c1, cs = [c0, c1] := by
    exact two_of hl
  rw [Try.cellsU64] at h0 h1
  obtain ⟨a, e0, _, w0⟩ := DataW.trod_int Try.underlying28 h0
  obtain ⟨c, e1, _, w1⟩ := DataW.trod_int Try.underlying28 h1
  simp only [List.drop_succ_cons, List.drop_zero, List.take_succ_cons, List.take_zero, List.cons.injEq, and_true] at e0 e1
  subst e0 e1
  exact ⟨(a, c), rfl, bounds_u64 w0, bounds_u64 w1⟩

/-- A tree that came in is such a tree. -/
theorem open_tr {fuel : Nat} {cs : List Value} {x : DataW H × List MemPlace} (h : DataW.trod enc Try.prog w base spare held fuel 40 cs = some x) (hw : ∀ z ∈ DataW.weights Try.prog 40 x.1, z ≤ 140737488351232) :
    ∃ t : Tr, cs = [.int .u32 t.boot, t.rv, .string t.root.name, t.root.pv, t.root.kv] ∧ t.In w w.heap.size := by
  obtain ⟨y0, y1, y2, n, rfl, hl, h0, h1, h2⟩ := trod_struct3 Try.underlying40 h
  rw [Try.cellsTree] at hl
  obtain ⟨c0, c1, c2, c3, c4, rfl⟩ : ∃ c0 c1 c2 c3 c4, cs = [c0, c1, c2, c3, c4] := by
    exact five_of hl
  rw [Try.cellsU32] at h0
  rw [Try.cellsRess] at h1
  rw [Try.cellsNode] at h2
  simp only [List.drop_zero, List.drop_succ_cons, List.take_succ_cons, List.take_zero] at h0 h1 h2
  simp only [DataW.weights, DataW.weightsEach, Try.underlying40, List.map_cons, List.map_nil] at hw
  have hw1 := fun z hz => hw z (List.mem_append_right _ (List.mem_append_left _ hz))
  have hw2 := fun z hz => hw z (List.mem_append_right _ (List.mem_append_right _ (List.mem_append_left _ hz)))
  obtain ⟨boot, e0, _, wb⟩ := DataW.trod_int Try.underlying22 h0
  obtain ⟨ra, rc, rs, e1, hr1, hr2, hr3, hrg, hrow⟩ := open_row (c := 2) (fun r : Int × Int => [.int .u64 r.1, .int .u64 r.2]) (fun r => (0 ≤ r.1 ∧ r.1 ≤ 18446744073709551615) ∧ (0 ≤ r.2 ∧ r.2 ≤ 18446744073709551615)) Try.underlying34 Try.cellsRes (by omega) (fun _ => rfl) (fun n cs y _ hy _ => open_res hy) h1 hw1
  obtain ⟨root, e2, hin⟩ := open_nd _ n _ _ (Nat.le_refl _) h2 hw2
  simp only [List.cons.injEq, and_true] at e0 e1 e2
  obtain ⟨rfl, rfl, rfl⟩ := e2
  subst e0 e1
  rw [Try.bytesRes] at hr3
  exact ⟨⟨boot, ra, rc, rs, root⟩, rfl, bounds_u32 wb, ⟨hr1, hr2, hr3⟩, fun h0 => by
    obtain ⟨b, o, e, hb, hc⟩ := hrow h0
    exact ⟨b, o, e, hb, fun i hi => ⟨hc i hi 0 (by omega), hc i hi 1 (by omega)⟩⟩, hrg, hin⟩
end

/-- A reserve of noughts. -/
def zeroR (r : Int × Int) : Bool := decide (r.1 = 0) && decide (r.2 = 0)

set_option maxHeartbeats 2000000 in
theorem idxRes_any (t : Tr) (w : World) (hin : t.In w w.heap.size) (r : Bool) (hr : t.rs.any zeroR = r) :
    Calls Try.prog 82 #[t.rv, .agg #[.int .u64 0, .int .u64 0]] w fun e w' => (∃ i : Int, e = .returned (.int .i64 i) ∧ decide (0 ≤ i) = r) ∧ Below w.heap.size w w' := by
  obtain ⟨boot, ra, rc, rs, root⟩ := t
  have HI := Lib.hid hin
  have HR := Lib.hid (show rs.any zeroR = r from hr)
  obtain ⟨hl, hm, _⟩ : rs.length ≤ rc ∧ rc ≤ 9223372036854775807 ∧ _ := hin.len
  clear hin hr
  show Calls _ _ #[.slice ra rs.length rc, _] _ _
  go_enter Try.func82, Try.ntmps82
  go_wp2_with fail
  go_loopw [8] (fun i wr => ∃ k : Nat, k ≤ rs.length ∧ i = .int .i64 k ∧ Good zeroR rs k ∧ Below (w.heap.size + 1) (w.alloc (.cells #[.int .u64 0, .int .u64 0] 62)) wr) (fun i _ => rs.length - (intOf i).toNat)
  case atStart => exact ⟨0, Nat.zero_le _, rfl, Good.zero _ _, Below.refl _ _⟩
  case round =>
    obtain ⟨k, hk, rfl, hgood, hb⟩ := hrel
    have HA := Lib.hid hgood
    have HB0 := Lib.hid hb
    have HB := Lib.hid (((Below.refl w.heap.size w).alloc (Nat.le_refl _) _).trans (hb.mono (Nat.le_succ _)))
    have b0 : wr.cell? ⟨w.heap.size, 0, none⟩ = some (.int .u64 0) := (hb.cell (Nat.lt_succ_self _)).trans (World.cell?_alloc_new _ _ _ _)
    have b1 : wr.cell? ⟨w.heap.size, 1, none⟩ = some (.int .u64 0) := (hb.cell (Nat.lt_succ_self _)).trans (World.cell?_alloc_new _ _ _ _)
    clear hgood hb
    by_cases hlt : k < rs.length
    · obtain ⟨b, o, e, hb, c0, c1⟩ := (HI.out.under HB.out).rcell (i := k) hlt
      obtain rfl : ra = _ := e
      replace c0 : _ = some (Value.int .u64 rs[k].1) := c0
      replace c1 : _ = some (Value.int .u64 rs[k].2) := c1
      obtain ⟨x, hx⟩ : ∃ x, x = rs[k].1 := ⟨_, rfl⟩
      obtain ⟨y, hy⟩ : ∃ y, y = rs[k].2 := ⟨_, rfl⟩
      have HZ : Hid (zeroR rs[k] = (decide (x = 0) && decide (y = 0))) := by show zeroR _ = _; rw [hx, hy]; rfl
      rw [← hx] at c0
      rw [← hy] at c1
      clear hx hy
      by_cases hx0 : x = 0
      · subst hx0
        by_cases hy0 : y = 0
        · subst hy0
          obtain rfl : r = true := by rw [← HR.out]; exact any_at hlt HZ.out
          go_wp2_with fail
          go_region
          go_wp2
          go_ret
          exact ⟨⟨k, rfl, by simp⟩, HB.out.drew⟩
        · have HF : Hid (zeroR rs[k] = false) := by have := HZ.out; rw [decide_eq_false hy0] at this; exact this
          have hy1 : ¬ (0 = y) := fun h => hy0 h.symm
          clear hy0
          go_wp2_with fail
          go_region
          go_wp2
          go_roundw
          case rel => exact ⟨k + 1, by omega, by go_num, HA.out.succ hlt HF.out, HB0.out.drew⟩
          case measure => simp [intOf]; omega
      · have HF : Hid (zeroR rs[k] = false) := by have := HZ.out; rw [decide_eq_false hx0] at this; exact this
        have hx1 : ¬ (0 = x) := fun h => hx0 h.symm
        clear hx0
        go_wp2_with fail
        go_region
        go_wp2
        go_roundw
        case rel => exact ⟨k + 1, by omega, by go_num, HA.out.succ hlt HF.out, HB0.out.drew⟩
        case measure => simp [intOf]; omega
    · obtain rfl : r = false := by rw [← HR.out]; exact HA.out.all hlt
      go_wp2
      go_ret
      exact ⟨⟨-1, rfl, by simp⟩, HB.out⟩

theorem containsRes_any (t : Tr) (w : World) (hin : t.In w w.heap.size) (r : Bool) (hr : t.rs.any zeroR = r) :
    Calls Try.prog 65 #[t.rv, .agg #[.int .u64 0, .int .u64 0]] w fun e w' => e = .returned (.bool r) ∧ Below w.heap.size w w' := by
  have HB := Lib.hid ((Below.refl w.heap.size w).alloc (Nat.le_refl _) (.cells #[.int .u64 0, .int .u64 0] 62))
  have C := Lib.hid (fun w h => idxRes_any t w h r hr)
  have HI := Lib.hid hin
  clear hin hr
  obtain ⟨boot, ra, rc, rs, root⟩ := t
  show Calls _ _ #[.slice ra rs.length rc, _] _ _
  go_enter Try.func65, Try.ntmps65
  go_wp2_with fail
  refine (C.out _ (HI.out.on HB.out)).mono ?_
  rintro e w' ⟨⟨i, rfl, hi⟩, hb⟩
  have HB2 := Lib.hid (HB.out.trans (hb.mono HB.out.size))
  have HV := Lib.hid hi
  clear hb hi
  go_wp2
  go_ret
  exact ⟨congrArg (fun b => Ending.returned (.bool b)) HV.out, HB2.out⟩

/-- Are there too many? -/
def manyE (t : Tr) : Int := if 4096 < wrap64 (nodesN t.root) ∨ 8192 < wrap64 (propsN t.root) ∨ 64 < t.rs.length then 7 else if t.rs.any zeroR = true then 7 else 0

set_option maxHeartbeats 4000000 in
theorem many_any (t : Tr) (w : World) (hin : t.In w w.heap.size) (E : Int) (hE : manyE t = E) :
    Calls Try.prog 51 #[t.val] w fun e w' => e = .returned (.int .i64 E) ∧ Below w.heap.size w w' := by
  obtain ⟨a, ha⟩ : ∃ a, a = wrap64 (nodesN t.root) := ⟨_, rfl⟩
  obtain ⟨c, hc⟩ : ∃ c, c = wrap64 (propsN t.root) := ⟨_, rfl⟩
  obtain ⟨r, hr⟩ : ∃ r, t.rs.any zeroR = r := ⟨_, rfl⟩
  have HE : Hid ((if 4096 < a ∨ 8192 < c ∨ 64 < t.rs.length then 7 else if r = true then 7 else 0) = E) := by rw [ha, hc, ← hr]; exact hE
  have C1 := Lib.hid (fun w h => (count_any t.root w h).mono fun e w' (h : Counted e t.root ∧ _) => show e = .returned (.tuple #[.int .i64 a, .int .i64 c]) ∧ Below w.heap.size w w' from ⟨by rw [ha, hc]; exact h.1, h.2⟩)
  have C2 := Lib.hid (fun w h => containsRes_any t w h r hr)
  have HI := Lib.hid hin
  clear hE ha hc hr hin
  obtain ⟨boot, ra, rc, rs, root⟩ := t
  replace HE : Hid ((if 4096 < a ∨ 8192 < c ∨ 64 < rs.length then 7 else if r = true then 7 else 0) = E) := HE
  obtain ⟨nm, pa, pc, ps, ka, kc, ks⟩ := root
  show Calls _ _ #[.agg #[.int .u32 boot, .slice ra rs.length rc, .string nm, .slice pa ps.length pc, .slice ka ks.length kc]] _ _
  have HB := Lib.hid ((Below.refl w.heap.size w).alloc (Nat.le_refl _) (.cells #[.int .u32 boot, .slice ra rs.length rc, .string nm, .slice pa ps.length pc, .slice ka ks.length kc] 40))
  go_enter Try.func51, Try.ntmps51
  go_wp2_with fail
  refine (C1.out _ ((HI.out.on HB.out).root)).mono ?_
  rintro e w1 ⟨rfl, hb⟩
  have HB1 := Lib.hid (HB.out.trans (hb.mono HB.out.size))
  have b1 := (hb.cell (p := ⟨w.heap.size, 1, none⟩) (by simp)).trans (World.cell?_alloc_new _ _ _ _)
  replace b1 : _ = some (Value.slice ra rs.length rc) := b1
  clear hb
  by_cases h1 : 4096 < a
  · obtain rfl : E = 7 := by rw [← HE.out, if_pos (.inl h1)]
    go_wp2
    go_ret
    exact ⟨rfl, HB1.out⟩
  · by_cases h2 : 8192 < c
    · obtain rfl : E = 7 := by rw [← HE.out, if_pos (.inr (.inl h2))]
      go_wp2
      go_ret
      exact ⟨rfl, HB1.out⟩
    · by_cases h3 : 64 < (rs.length : Int)
      · obtain rfl : E = 7 := by rw [← HE.out, if_pos (.inr (.inr (by omega)))]
        go_wp2
        go_ret
        exact ⟨rfl, HB1.out⟩
      · have HF : Hid ((if r = true then 7 else 0) = E) := by have := HE.out; rwa [if_neg (by omega)] at this
        go_wp2_with fail
        refine (C2.out _ (HI.out.on HB1.out)).mono ?_
        rintro e w2 ⟨rfl, hb⟩
        have HB2 := Lib.hid (HB1.out.trans (hb.mono HB1.out.size))
        clear hb
        cases r
        · obtain rfl : E = 0 := HF.out.symm
          go_wp2
          go_ret
          exact ⟨rfl, HB2.out⟩
        · obtain rfl : E = 7 := HF.out.symm
          go_wp2
          go_ret
          exact ⟨rfl, HB2.out⟩
end Go.Proofs.Ytnopcnbeklbfoaa

/-! The document's blob: a tree's bytes. -/
namespace Go.Proofs.Ytnopcnbeklbfoaa
open Go.RowKit
set_option linter.unusedVariables false
set_option linter.unusedSimpArgs false

/-- The eight bytes of a number. -/
def eight (v : Int) : List Int := four (v / 4294967296) ++ four (v % 4294967296)
/-- The reserves' bytes. -/
def resL (rs : List (Int × Int)) : List Int := rs.flatMap fun r => eight r.1 ++ eight r.2
theorem resL_next (rs : List (Int × Int)) (j : Nat) (h : j < rs.length) : resL (rs.take (j + 1)) = resL (rs.take j) ++ (eight rs[j].1 ++ eight rs[j].2) := by
  unfold resL
  rw [take_next rs j h, List.flatMap_append]; simp
theorem resL_length (rs : List (Int × Int)) : (resL rs).length = 16 * rs.length := by
  induction rs with
  | nil => rfl
  | cons r l ih =>
    have e : resL (r :: l) = (eight r.1 ++ eight r.2) ++ resL l := by simp [resL]
    rw [e, List.length_append, ih]
    simp only [eight, four, List.length_append, List.length_cons, List.length_nil]
    omega
/-- The texts' bytes. -/
def textB (l : List ByteArray) : List Int := l.flatMap fun s => strB s ++ [0]
theorem textB_next (l : List ByteArray) (j : Nat) (h : j < l.length) : textB (l.take (j + 1)) = textB (l.take j) ++ (strB l[j] ++ [0]) := by
  unfold textB
  rw [take_next l j h, List.flatMap_append]; simp
theorem textB_length (l : List ByteArray) : (textB l).length = textSize l := by
  induction l with
  | nil => rfl
  | cons s r ih =>
    have e : textB (s :: r) = (strB s ++ [0]) ++ textB r := by simp [textB]
    rw [e, List.length_append, ih]
    simp only [textSize, List.length_append, strB_length, List.length_cons, List.length_nil]

/-! ### How heavy the texts are -/
theorem addT_size (l : List ByteArray) (s : ByteArray) : textSize (addT l s) ≤ textSize l + (s.size + 1) := by
  unfold addT
  split
  · omega
  · rw [textSize_append]; simp only [textSize]; omega
theorem fold_size : ∀ (ps : List PV) (l : List ByteArray), textSize ((ps.map PV.name).foldl addT l) ≤ textSize l + (ps.map heftP).sum
  | [], l => by simp
  | p :: ps, l => by
    have h1 := addT_size l p.name
    have h2 := fold_size ps (addT l p.name)
    simp only [List.map_cons, List.foldl_cons, List.sum_cons]
    have h3 : heftP p = 16 + p.name.size + p.zs.length := rfl
    omega
theorem textsN_size : ∀ (n : Nd) (l : List ByteArray), textSize (textsN n l) ≤ textSize l + heftN n := by
  refine Nd.ind ?_
  intro n ih l
  obtain ⟨nm, pa, pc, ps, ka, kc, ks⟩ := n
  have hl : ∀ (r : List Nd), (∀ k ∈ r, k ∈ ks) → ∀ l, textSize (textsL r l) ≤ textSize l + heftL r := by
    intro r
    induction r with
    | nil => intro _ l; simp [textsL]
    | cons k r ihr =>
      intro hr l
      have h1 := ih k (hr k (by simp)) l
      have h2 := ihr (fun x hx => hr x (by simp [hx])) (textsN k l)
      simp only [textsL, heftL]
      omega
  have h1 := fold_size ps l
  have h2 := hl ks (fun _ h => h) ((ps.map PV.name).foldl addT l)
  simp only [textsN, heftN]
  omega
theorem propsN_heft : ∀ n : Nd, propsN n ≤ heftN n := by
  refine Nd.ind ?_
  intro n ih
  obtain ⟨nm, pa, pc, ps, ka, kc, ks⟩ := n
  have hl : ∀ (r : List Nd), (∀ k ∈ r, k ∈ ks) → propsL r ≤ heftL r := by
    intro r
    induction r with
    | nil => intro _; simp [propsL]
    | cons k r ihr =>
      intro hr
      have h1 := ih k (hr k (by simp))
      have h2 := ihr (fun x hx => hr x (by simp [hx]))
      simp only [propsL, heftL]
      omega
  have h0 : ps.length ≤ (ps.map heftP).sum := by
    clear ih hl
    induction ps with
    | nil => simp
    | cons p r ih =>
      have h3 : heftP p = 16 + p.name.size + p.zs.length := rfl
      simp only [List.length_cons, List.map_cons, List.sum_cons]
      omega
  have h2 := hl ks (fun _ h => h)
  simp only [propsN, heftN]
  omega

/-! ### The whole -/
def textsT (t : Tr) : List ByteArray := textsN t.root []
def structT (t : Tr) : List Int := nodeN (textsT t) t.root ++ [0, 0, 0, 9]
def reserveT (t : Tr) : List Int := resL t.rs ++ List.replicate 16 0
/-- The ten cells of a tree's header. -/
def headT (t : Tr) (k : Nat) : Nat := [3490578157, 40 + (reserveT t).length + (structT t).length + (textB (textsT t)).length, 40 + (reserveT t).length, 40 + (reserveT t).length + (structT t).length, 40, 17, 16, t.boot.toNat, (textB (textsT t)).length, (structT t).length].getD k 0
/-- A tree's bytes. -/
def blobT (t : Tr) : List Int := fours (fun k => (headT t k : Int)) 10 ++ (reserveT t ++ (structT t ++ textB (textsT t)))

theorem Mid.appendStr {B : Nat} {W0 W : World} {v : Value} {zs : List Int} (h : Mid B W0 W v zs) (s : ByteArray) (hbig : zs.length + s.size ≤ 140737488351232) (ty : TypeId) :
    ∃ v' W', (Builtin.append_ #[26, 9] ty #[v, .string s]).run Try.prog W = .ok v' W' ∧ Mid B W0 W' v' (zs ++ strB s) := by
  obtain ⟨i0, hi0, hz0, hz1, hz2⟩ := info_parts info_u8
  obtain ⟨v', W', h1, h2, h3, _⟩ := Lib.run_append_own_string (P := Try.prog) W B 26 9 ty 5 i0 Try.underlying26 Try.underlying9 hi0 hz0 hz1 hz2 v _ _ h.1 s (by unfold maxLen; omega) (by omega) h.2.2.1
  have hb := h.2.1.grown h3 h.2.2.1 (fun q hq => (h.1.lt q hq).1)
  refine ⟨v', W', h1, ?_, hb, Nat.le_trans h.2.2.1 h3.size, fun z hz => (List.mem_append.1 hz).elim (h.2.2.2 z) (strB_byte s z)⟩
  rw [List.length_append, strB_length, u8s, List.map_append]
  have e : Lib.strCells s = u8s (strB s) := by simp [Lib.strCells, strB]
  rw [e] at h2
  exact h2
theorem Mid.appendZeros {B : Nat} {W0 W : World} {v : Value} {zs : List Int} (h : Mid B W0 W v zs) (m : Nat) (hbig : zs.length + m ≤ 140737488351232) (ty : TypeId) :
    ∃ v' W', (Builtin.append_ #[26, 3] ty #[v, .int .i64 (m : Int)]).run Try.prog W = .ok v' W' ∧ Mid B W0 W' v' (zs ++ List.replicate m 0) := by
  obtain ⟨i0, hi0, hz0, hz1, hz2⟩ := info_parts info_u8
  obtain ⟨v', W', h1, h2, h3⟩ := run_append_zeros W i0 hi0 hz0 hz1 hz2 B v _ _ h.1 m hbig h.2.2.1 ty
  have hb := h.2.1.grown h3 h.2.2.1 (fun q hq => (h.1.lt q hq).1)
  refine ⟨v', W', h1, ?_, hb, Nat.le_trans h.2.2.1 h3.size, bytes_more h.2.2.2 m⟩
  rw [List.length_append, List.length_replicate, u8s, List.map_append]
  exact h2
theorem Mid.start (W : World) : Mid W.heap.size W W (.slice none 0 0) [] := ⟨World.ownsRow_nil _ _ _ _, Below.refl _ _, Nat.le_refl _, by simp⟩
/-- A row that is through is only read from here on. -/
theorem Mid.shown {B : Nat} {W0 W : World} {v : Value} {zs : List Int} (h : Mid B W0 W v zs) : ∃ A c, v = .slice A zs.length c ∧ Shows W W.heap.size A zs.length zs ∧ zs.length ≤ c ∧ c ≤ 9223372036854775807 := owned_shows h.1 h.2.2.2
theorem doccell_int (x : Int) (w : World) (h0 : 0 ≤ x) (h1 : x ≤ 4294967295) :
    Calls Try.prog 28 #[.int .i64 x] w fun e w' => ∃ g, e = .returned (.slice (some ⟨g, 0, none⟩) 4 4) ∧ Shows w' w'.heap.size (some ⟨g, 0, none⟩) 4 (four x) ∧ Below w.heap.size w w' := by
  obtain ⟨v, rfl⟩ := Int.eq_ofNat_of_zero_le h0
  exact doccell_any v w (by omega)

set_option maxRecDepth 100000 in
set_option maxHeartbeats 8000000 in
theorem blob_any (t : Tr) (w : World) (hin : t.In w w.heap.size) (hheft : heftN t.root ≤ 1073741824) (hrs : t.rs.length ≤ 1048576) :
    Calls Try.prog 15 #[t.val, .int .i64 0, .int .i64 0] w fun e w' => ∃ A c, e = .returned (.slice A (blobT t).length c) ∧ Shows w' w'.heap.size A (blobT t).length (blobT t) ∧ (blobT t).length ≤ c ∧ c ≤ 9223372036854775807 ∧ Below w.heap.size w w' := by
  have HI := Lib.hid hin
  obtain ⟨TL, hTL⟩ : ∃ TL, textsT t = TL := ⟨_, rfl⟩
  obtain ⟨SL, hSL⟩ : ∃ SL, structT t = SL := ⟨_, rfl⟩
  obtain ⟨RL, hRL⟩ : ∃ RL, reserveT t = RL := ⟨_, rfl⟩
  obtain ⟨XL, hXL⟩ : ∃ XL, textB TL = XL := ⟨_, rfl⟩
  have hts : textSize TL ≤ 1073741824 := by
    have h := textsN_size t.root []
    have e : textsN t.root [] = TL := hTL
    rw [e] at h
    simp only [textSize] at h
    omega
  have hxl : XL.length ≤ 1073741824 := by rw [← hXL, textB_length]; exact hts
  have hsl : SL.length ≤ 1073741828 := by
    have h := nodeN_length (textsT t) t.root
    rw [← hSL]
    simp only [structT, List.length_append, List.length_cons, List.length_nil]
    omega
  have hrl : RL.length ≤ 16777232 := by
    rw [← hRL]
    simp only [reserveT, List.length_append, resL_length, List.length_replicate]
    omega
  have hb0 := hin.boot
  obtain ⟨hrc, hrc2, _⟩ := hin.len
  have HTEXT := Lib.hid (fun (w1 : World) (h : t.In w1 w1.heap.size) => (texts_any t.root w1.heap.size w1.heap.size (.slice none 0 0) [] w1 h.root (Nat.le_refl _) (Nat.le_refl _) (World.ownsRow_nil _ _ _ _) (by have := propsN_heft t.root; simp only [List.length_nil]; omega)).mono (fun e w' (hh : TOut w1 w1.heap.size (.slice none 0 0) (textsN t.root []) e w') => show (∃ A c, e = .returned (.slice A TL.length c) ∧ TL.length ≤ c ∧ c ≤ 9223372036854775807 ∧ TRow w' w'.heap.size A TL) ∧ Below w1.heap.size w1 w' from by
      obtain ⟨v', rfl, h1, h2, h3⟩ := hh
      have e : textsN t.root [] = TL := hTL
      rw [e] at h1
      obtain ⟨A, c, rfl, h4, h5, h6⟩ := trow_of_own h1
      exact ⟨⟨A, c, rfl, h4, h5, h6⟩, ⟨h2.os, h2.tape, h2.output, h2.size, fun i hi => h2.block i hi (by simp [Value.ownBlock])⟩⟩))
  have HNODE := Lib.hid (fun (w1 : World) (A : Option Addr) (c : Nat) (h : t.In w1 w1.heap.size) (hr : TRow w1 w1.heap.size A TL) (h1 : TL.length ≤ c) (h2 : c ≤ 9223372036854775807) => node_any TL t.root A TL.length c w1 h.root hr rfl h1 h2 (by omega) (by omega))
  have HSL : Hid (nodeN TL t.root ++ [0, 0, 0, 9] = SL) := by show _ = _; rw [← hSL, structT, hTL]
  have HRL : Hid (resL t.rs ++ List.replicate 16 0 = RL) := hRL
  have HXL := Lib.hid hXL
  have HEAD := Lib.hid (fun k => show headT t k = [3490578157, 40 + RL.length + SL.length + XL.length, 40 + RL.length, 40 + RL.length + SL.length, 40, 17, 16, t.boot.toNat, XL.length, SL.length].getD k 0 from by rw [headT, hRL, hSL, hTL, hXL])
  have HBLOB : Hid (blobT t = fours (fun k => (headT t k : Int)) 10 ++ (RL ++ (SL ++ XL))) := by show _ = _; rw [blobT, hRL, hSL, hTL, hXL]
  clear hheft hin hTL hSL hRL hXL
  generalize hBT : blobT t = BT at *
  generalize hHT : headT t = HT at *
  obtain ⟨boot, ra, rc, rs, root⟩ := t
  obtain ⟨nm, pa, pc, ps, ka, kc, ks⟩ := root
  replace hb0 : 0 ≤ boot ∧ boot ≤ 4294967295 := hb0
  obtain ⟨hb1, hb2⟩ := hb0
  replace hrs : rs.length ≤ 1048576 := hrs
  replace hrc : rs.length ≤ rc := hrc
  replace hrc2 : rc ≤ 9223372036854775807 := hrc2
  clear hBT hHT
  show Calls _ _ #[.agg #[.int .u32 boot, .slice ra rs.length rc, .string nm, .slice pa ps.length pc, .slice ka ks.length kc], .int .i64 0, .int .i64 0] _ _
  have HB0 := Lib.hid ((Below.refl w.heap.size w).alloc (Nat.le_refl _) (.cells #[.int .u32 boot, .slice ra rs.length rc, .string nm, .slice pa ps.length pc, .slice ka ks.length kc] 40))
  have BX := Lib.hid (fun (W : World) (h : Below (w.heap.size + 1) (w.alloc (.cells #[.int .u32 boot, .slice ra rs.length rc, .string nm, .slice pa ps.length pc, .slice ka ks.length kc] 40)) W) => show W.cell? ⟨w.heap.size, 0, none⟩ = some (.int .u32 boot) ∧ W.cell? ⟨w.heap.size, 1, none⟩ = some (.slice ra rs.length rc) ∧ W.cell? ⟨w.heap.size, 2, none⟩ = some (.string nm) ∧ W.cell? ⟨w.heap.size, 3, none⟩ = some (.slice pa ps.length pc) ∧ W.cell? ⟨w.heap.size, 4, none⟩ = some (.slice ka ks.length kc) from
    ⟨(h.cell (Nat.lt_succ_self _)).trans (World.cell?_alloc_new _ _ _ _), (h.cell (Nat.lt_succ_self _)).trans (World.cell?_alloc_new _ _ _ _), (h.cell (Nat.lt_succ_self _)).trans (World.cell?_alloc_new _ _ _ _), (h.cell (Nat.lt_succ_self _)).trans (World.cell?_alloc_new _ _ _ _), (h.cell (Nat.lt_succ_self _)).trans (World.cell?_alloc_new _ _ _ _)⟩)
  go_enter Try.func15, Try.ntmps15
  go_wp2_with fail
  refine (HTEXT.out _ (HI.out.on HB0.out)).mono ?_
  rintro e w1 ⟨⟨lA, lc, rfl, hl1, hl2, hl3⟩, hb⟩
  have HX1 := Lib.hid (hb.mono (B' := w.heap.size + 1) (by simp))
  have HB1 := Lib.hid (HB0.out.trans (HX1.out.mono (Nat.le_succ _)))
  obtain ⟨x0, x1, x2, x3, x4⟩ := BX.out _ HX1.out
  have HN := Lib.hid (HNODE.out w1 lA lc (HI.out.on HB1.out) hl3 hl1 hl2)
  have HL := Lib.hid hl3
  obtain ⟨TN, hTN⟩ : ∃ TN, TL.length = TN := ⟨_, rfl⟩
  rw [hTN] at hl1 HN
  have HTN := Lib.hid hTN
  rw [HTN.out]
  clear hb hl3 hTN
  go_wp2_with fail
  refine HN.out.mono ?_
  rintro e w2 ⟨sv0, rfl, hown, hb, hz⟩
  have hM0 : Mid w1.heap.size w1 w2 sv0 (nodeN TL (.mk nm pa pc ps ka kc ks)) := ⟨hown, hb, hb.size, hz⟩
  have HM0 := Lib.hid hM0
  have HX2 := Lib.hid (HX1.out.trans (hb.mono (by have := HX1.out.size; simpa using this)))
  clear hown hb hz hM0 x0 x1 x2 x3 x4
  obtain ⟨x0, x1, x2, x3, x4⟩ := BX.out _ HX2.out
  go_wp2_with fail
  go_loop [8, 29] (fun s i => s = sv0 ∧ i = .int .i64 0) (fun _ _ => 0)
  case atStart => exact ⟨rfl, rfl⟩
  case round =>
    obtain ⟨rfl, rfl⟩ := hrel
    have hM1 := HM0.out.on ((Below.refl _ _).alloc (Nat.le_refl _) (.cells #[.int .u8 0, .int .u8 0, .int .u8 0, .int .u8 9] 5))
    obtain ⟨sv, w3, hrun3, hM3, _⟩ := hM1.append 4 (four_new w2 0 0 0 9 (by simp)) (by have h := HSL.out; have h2 := congrArg List.length h; simp only [List.length_append] at h2; omega) 26
    rw [HSL.out] at hM3
    obtain ⟨sA, sc, rfl, hs1, hs2, hs3⟩ := hM3.shown
    obtain ⟨SN, hSN⟩ : ∃ SN, SL.length = SN := ⟨_, rfl⟩
    rw [hSN] at hrun3 hs1 hs2 hsl
    have HSN := Lib.hid hSN
    have HX3 := Lib.hid (HX1.out.trans (hM3.2.1.mono (by have := HX1.out.size; simpa using this)))
    have HL3 := Lib.hid (HL.out.under hM3.2.1)
    have hz3 : w1.heap.size ≤ w3.heap.size := hM3.2.1.size
    have HS3 := Lib.hid hs1
    have hw3 : w.heap.size + 1 ≤ w3.heap.size := by have := HX3.out.size; simpa using this
    have HXA := Lib.hid (fun W (h : Below w3.heap.size w3 W) => HX3.out.trans (h.mono hw3))
    have HBA := Lib.hid (fun W (h : Below w3.heap.size w3 W) => HB0.out.trans ((HXA.out W h).mono (Nat.le_succ _)))
    clear hM1 hM3 hs1 hSN x0 x1 x2 x3 x4
    obtain ⟨x0, x1, x2, x3, x4⟩ := BX.out _ HX3.out
    go_wp2_with (at_builtin; refine Lib.wpList_append_run_sl _ rfl _ _ _ rfl _ _ rfl rfl hrun3 ?_)
    clear hrun3 x0 x1 x2 x3 x4
    go_loopw [9, 41] (fun v i wr => ∃ k : Nat, k ≤ rs.length ∧ i = .int .i64 k ∧ Mid w3.heap.size w3 wr v (resL (rs.take k))) (fun _ i _ => rs.length - (intOf i).toNat)
    case atStart => exact ⟨0, Nat.zero_le _, rfl, Mid.start w3⟩
    case round =>
      obtain ⟨k, hk, rfl, hmid⟩ := hrel
      have HM := Lib.hid hmid
      obtain ⟨x0, x1, x2, x3, x4⟩ := BX.out _ (HXA.out _ hmid.2.1)
      by_cases hlt : k < rs.length
      · obtain ⟨b, o, e, hbb, c0, c1⟩ := (HI.out.under (HBA.out _ hmid.2.1)).rcell (i := k) hlt
        have hnum := HI.out.nums rs[k] (List.getElem_mem hlt)
        have HRK := Lib.hid (fun W (h : Below w3.heap.size w3 W) => show W.cell? ⟨b, o + k * 2, none⟩ = some (.int .u64 rs[k].1) ∧ W.cell? ⟨b, o + k * 2 + 1, none⟩ = some (.int .u64 rs[k].2) from by
          obtain ⟨b', o', e', _, d0, d1⟩ := (HI.out.under (HBA.out _ h)).rcell (i := k) hlt
          obtain ⟨rfl, rfl⟩ : b' = b ∧ o' = o := by rw [e] at e'; injection e' with e'; injection e' with e1 e2; exact ⟨e1.symm, e2.symm⟩
          exact ⟨d0, d1⟩)
        obtain rfl : ra = _ := e
        replace c0 : _ = some (Value.int .u64 rs[k].1) := c0
        replace c1 : _ = some (Value.int .u64 rs[k].2) := c1
        have HNX := Lib.hid (resL_next rs k hlt)
        have hln : (resL (rs.take k)).length ≤ 16777216 := by rw [resL_length, List.length_take]; omega
        obtain ⟨x, hx⟩ : ∃ x, rs[k].1 = x := ⟨_, rfl⟩
        obtain ⟨y, hy⟩ : ∃ y, rs[k].2 = y := ⟨_, rfl⟩
        rw [hx] at c0 hnum HNX
        rw [hy] at c1 hnum HNX
        have HRK2 : Hid (∀ W, Below w3.heap.size w3 W → W.cell? ⟨b, o + k * 2, none⟩ = some (.int .u64 x) ∧ W.cell? ⟨b, o + k * 2 + 1, none⟩ = some (.int .u64 y)) := fun W h => by have := HRK.out W h; rw [hx, hy] at this; exact this
        obtain ⟨⟨hx0, hx1⟩, hy0, hy1⟩ := hnum
        generalize resL (rs.take k) = Z at *
        clear hmid hx hy HRK
        go_wp2_with fail
        refine wp_region_held_drew (S := fun W => W.cell? ⟨w.heap.size, 1, none⟩ = some (.slice (some ⟨b, o, none⟩) rs.length rc) ∧ W.cell? ⟨b, o + k * 2, none⟩ = some (.int .u64 x) ∧ W.cell? ⟨b, o + k * 2 + 1, none⟩ = some (.int .u64 y)) (by kernel_rfl) ⟨x1, c0, c1⟩ (fun hHeld => ?_)
        have HS := Lib.hid (fun W (h : Below w3.heap.size w3 W) => show W.cell? ⟨w.heap.size, 1, none⟩ = some (.slice (some ⟨b, o, none⟩) rs.length rc) ∧ W.cell? ⟨b, o + k * 2, none⟩ = some (.int .u64 x) ∧ W.cell? ⟨b, o + k * 2 + 1, none⟩ = some (.int .u64 y) from ⟨(BX.out _ (HXA.out _ h)).2.1, HRK2.out W h⟩)
        refine held_take 0 rfl (by kernel_rfl) (by kernel_rfl) (by kernel_rfl) (fun _ _ _ h => h) (by rfl) hHeld (v := ?_) (fun w hSw => ?_) (fun _ => ?_)
        rotate_left
        · ((try dsimp only at hSw); go_simp; (try with_reducible rfl))
        simp only [Act.put, List.setIfInBounds_toArray, List.set_cons_zero, List.set_cons_succ]
        refine held_take 1 rfl (by kernel_rfl) (by kernel_rfl) (by kernel_rfl) (fun _ _ _ h => h) (by rfl) hHeld (v := ?_) (fun w hSw => ?_) (fun _ => ?_)
        rotate_left
        · ((try dsimp only at hSw); go_simp; (try with_reducible rfl))
        simp only [Act.put, List.setIfInBounds_toArray, List.set_cons_zero, List.set_cons_succ]
        refine held_take 2 rfl (by kernel_rfl) (by kernel_rfl) (by kernel_rfl) (fun _ _ _ h => h) (by rfl) hHeld (v := ?_) (fun w hSw => ?_) (fun _ => ?_)
        rotate_left
        · ((try dsimp only at hSw); go_simp; (try with_reducible rfl))
        simp only [Act.put, List.setIfInBounds_toArray, List.set_cons_zero, List.set_cons_succ]
        refine held_take 3 rfl (by kernel_rfl) (by kernel_rfl) (by kernel_rfl) (fun _ _ _ h => h) (by rfl) hHeld (v := ?_) (fun w hSw => ?_) (fun _ => ?_)
        rotate_left
        · ((try dsimp only at hSw); go_simp; (try with_reducible rfl))
        simp only [Act.put, List.setIfInBounds_toArray, List.set_cons_zero, List.set_cons_succ]
        refine held_take 4 rfl (by kernel_rfl) (by kernel_rfl) (by kernel_rfl) (fun _ _ _ h => h) (by rfl) hHeld (v := ?_) (fun w hSw => ?_) (fun _ => ?_)
        rotate_left
        · ((try dsimp only at hSw); go_simp; (try with_reducible rfl))
        simp only [Act.put, List.setIfInBounds_toArray, List.set_cons_zero, List.set_cons_succ]
        refine held_take 5 rfl (by kernel_rfl) (by kernel_rfl) (by kernel_rfl) (fun _ _ _ h => h) (by rfl) hHeld (v := ?_) (fun w hSw => ?_) (fun _ => ?_)
        rotate_left
        · ((try dsimp only at hSw); go_simp; (try with_reducible rfl))
        simp only [Act.put, List.setIfInBounds_toArray, List.set_cons_zero, List.set_cons_succ]
        refine held_take 6 rfl (by kernel_rfl) (by kernel_rfl) (by kernel_rfl) (fun _ _ _ h => h) (by rfl) hHeld (v := ?_) (fun w hSw => ?_) (fun _ => ?_)
        rotate_left
        · ((try dsimp only at hSw); go_simp; (try with_reducible rfl))
        simp only [Act.put, List.setIfInBounds_toArray, List.set_cons_zero, List.set_cons_succ]
        refine held_take 9 rfl (by kernel_rfl) (by kernel_rfl) (by kernel_rfl) (fun _ _ _ h => h) (by rfl) hHeld (v := ?_) (fun w hSw => ?_) (fun _ => ?_)
        rotate_left
        · ((try dsimp only at hSw); go_simp; (try with_reducible rfl))
        simp only [Act.put, List.setIfInBounds_toArray, List.set_cons_zero, List.set_cons_succ]
        refine held_take 10 rfl (by kernel_rfl) (by kernel_rfl) (by kernel_rfl) (fun _ _ _ h => h) (by rfl) hHeld (v := ?_) (fun w hSw => ?_) (fun _ => ?_)
        rotate_left
        · ((try dsimp only at hSw); go_simp; (try with_reducible rfl))
        simp only [Act.put, List.setIfInBounds_toArray, List.set_cons_zero, List.set_cons_succ]
        refine held_take 11 rfl (by kernel_rfl) (by kernel_rfl) (by kernel_rfl) (fun _ _ _ h => h) (by rfl) hHeld (v := ?_) (fun w hSw => ?_) (fun _ => ?_)
        rotate_left
        · ((try dsimp only at hSw); go_simp; (try with_reducible rfl))
        simp only [Act.put, List.setIfInBounds_toArray, List.set_cons_zero, List.set_cons_succ]
        refine held_take 12 rfl (by kernel_rfl) (by kernel_rfl) (by kernel_rfl) (fun _ _ _ h => h) (by rfl) hHeld (v := ?_) (fun w hSw => ?_) (fun _ => ?_)
        rotate_left
        · ((try dsimp only at hSw); go_simp; (try with_reducible rfl))
        simp only [Act.put, List.setIfInBounds_toArray, List.set_cons_zero, List.set_cons_succ]
        refine held_take 13 rfl (by kernel_rfl) (by kernel_rfl) (by kernel_rfl) (fun _ _ _ h => h) (by rfl) hHeld (v := ?_) (fun w hSw => ?_) (fun _ => ?_)
        rotate_left
        · ((try dsimp only at hSw); go_simp; (try with_reducible rfl))
        simp only [Act.put, List.setIfInBounds_toArray, List.set_cons_zero, List.set_cons_succ]
        refine held_take 14 rfl (by kernel_rfl) (by kernel_rfl) (by kernel_rfl) (fun _ _ _ h => h) (by rfl) hHeld (v := ?_) (fun w hSw => ?_) (fun _ => ?_)
        rotate_left
        · ((try dsimp only at hSw); go_simp; (try with_reducible rfl))
        simp only [Act.put, List.setIfInBounds_toArray, List.set_cons_zero, List.set_cons_succ]
        refine held_call 7 (by kernel_rfl) rfl (by rfl) (fun K hK => ?_)
        go_simp
        refine (bytes_eight x _ hx0 hx1).mono ?_
        rintro e w5 ⟨g5, rfl, hs5, hb5⟩
        have hM5 := HM.out.drew.on hb5
        dsimp only
        refine hK.out _ _ (HS.out _ hM5.2.1) (fun hHeld => ?_)
        clear hK K
        obtain ⟨v6, w6, hrun6, hM6, _⟩ := hM5.append 8 hs5 (by simp only [List.length_append, List.length_cons, List.length_nil, four]; omega) 26
        clear hs5 hb5 hM5
        refine held_call 8 (by kernel_rfl) rfl (by rfl) (fun K hK => ?_)
        refine Lib.wp_append_run_sl _ _ _ _ rfl _ _ rfl rfl hrun6 ?_
        refine hK.out _ _ (HS.out _ hM6.2.1) (fun hHeld => ?_)
        clear hK K hrun6
        simp only [Act.put, List.setIfInBounds_toArray, List.set_cons_zero, List.set_cons_succ]
        refine held_call 15 (by kernel_rfl) rfl (by rfl) (fun K hK => ?_)
        go_simp
        refine (bytes_eight y _ hy0 hy1).mono ?_
        rintro e w7 ⟨g7, rfl, hs7, hb7⟩
        have hM7 := hM6.on hb7
        dsimp only
        refine hK.out _ _ (HS.out _ hM7.2.1) (fun hHeld => ?_)
        clear hK K
        obtain ⟨v8, w8, hrun8, hM8, _⟩ := hM7.append 8 hs7 (by simp only [List.length_append, List.length_cons, List.length_nil, four]; omega) 26
        clear hs7 hb7 hM7 hM6
        refine held_call 16 (by kernel_rfl) rfl (by rfl) (fun K hK => ?_)
        refine Lib.wp_append_run_sl _ _ _ _ rfl _ _ rfl rfl hrun8 ?_
        refine hK.out _ _ (HS.out _ hM8.2.1) (fun hHeld => ?_)
        clear hK K hrun8
        simp only [Act.put, List.setIfInBounds_toArray, List.set_cons_zero, List.set_cons_succ]
        refine held_take 17 rfl (by kernel_rfl) (by kernel_rfl) (by kernel_rfl) (fun _ _ _ h => h) (by rfl) hHeld (v := ?_) (fun w hSw => ?_) (fun _ => ?_)
        rotate_left
        · ((try dsimp only at hSw); go_simp; (try with_reducible rfl))
        simp only [Act.put, List.setIfInBounds_toArray, List.set_cons_zero, List.set_cons_succ]
        refine wpAnyH_done (by kernel_rfl) ?_ _
        have HM8 := Lib.hid hM8
        clear hM8 hHeld c0 c1 x0 x1 x2 x3 x4
        go_wp2
        go_roundw
        case rel => exact ⟨k + 1, by omega, by go_num, by rw [HNX.out, ← List.append_assoc]; exact HM8.out⟩
        case measure => simp [intOf]; omega
      · obtain rfl : k = rs.length := by omega
        have hte : rs.take rs.length = rs := List.take_length
        rw [hte] at HM
        obtain ⟨rv, w4, hrun4, hM4⟩ := HM.out.appendZeros 16 (by rw [resL_length]; omega) 26
        rw [HRL.out] at hM4
        obtain ⟨rA, rcc, rfl, hr1, hr2, hr3⟩ := hM4.shown
        obtain ⟨RN, hRN⟩ : ∃ RN, RL.length = RN := ⟨_, rfl⟩
        rw [hRN] at hrun4 hr1 hr2 hrl
        have HRN := Lib.hid hRN
        have HX4 := Lib.hid (HXA.out _ hM4.2.1)
        have HL4 := Lib.hid ((HL3.out.more hz3).under hM4.2.1)
        have HS4 := Lib.hid (HS3.out.below hM4.2.1)
        have hz4 : w3.heap.size ≤ w4.heap.size := hM4.2.1.size
        have HR4 := Lib.hid hr1
        have hw4 : w.heap.size + 1 ≤ w4.heap.size := by omega
        have HXB := Lib.hid (fun W (h : Below w4.heap.size w4 W) => HX4.out.trans (h.mono hw4))
        clear hmid hM4 hr1 hRN hte x0 x1 x2 x3 x4
        go_wp2_with (at_builtin; refine Lib.wpList_append_run _ rfl _ _ _ _ rfl _ _ rfl rfl _ _ hrun4 ?_)
        clear hrun4
        go_loopw [10, 66] (fun v i wr => ∃ k : Nat, k ≤ TN ∧ i = .int .i64 k ∧ Mid w4.heap.size w4 wr v (textB (TL.take k))) (fun _ i _ => TN - (intOf i).toNat)
        case atStart => exact ⟨0, Nat.zero_le _, rfl, Mid.start w4⟩
        case round =>
          obtain ⟨k, hk, rfl, hmid⟩ := hrel
          have HM := Lib.hid hmid
          by_cases hlt : k < TN
          · have hlk : k < TL.length := by rw [HTN.out]; exact hlt
            obtain ⟨g, rfl, hg, hcells⟩ := (HL4.out.more hz4).under hmid.2.1 (by omega)
            have hcell := hcells k hlk
            have HNX := Lib.hid (textB_next TL k hlk)
            have hb1 : (textB (TL.take k)).length + (TL[k].size + 1) ≤ 1073741824 := by
              have h1 := textSize_next TL k hlk
              have h2 := textSize_take TL (k + 1)
              rw [textB_length]
              omega
            obtain ⟨y, hy⟩ : ∃ y, TL[k] = y := ⟨_, rfl⟩
            rw [hy] at hcell HNX hb1
            generalize textB (TL.take k) = Z at *
            obtain ⟨v5, w5, hrun5, hM5⟩ := hmid.appendStr y (by omega) 26
            have hM6 := hM5.on ((Below.refl _ _).alloc (Nat.le_refl _) (.cells #[.int .u8 0] 5))
            obtain ⟨v7, w7, hrun7, hM7, _⟩ := hM6.append 1 (shows_lit w5 [0] 1 _ rfl (by simp) rfl 5) (by simp only [List.length_append, strB_length, List.length_cons, List.length_nil]; omega) 26
            have HM7 := Lib.hid hM7
            clear hcells hy hmid hM5 hM6 hM7
            go_wp2_with (at_builtin; first | (refine Lib.wpList_append_run _ rfl _ _ _ _ rfl _ _ rfl rfl _ _ hrun5 ?_) | (refine Lib.wpList_append_run_sl _ rfl _ _ _ rfl _ _ rfl rfl hrun7 ?_))
            clear hrun5 hrun7
            go_roundw
            case rel => exact ⟨k + 1, by omega, by go_num, by rw [HNX.out, ← List.append_assoc]; exact HM7.out⟩
            case measure => simp [intOf]; omega
          · obtain rfl : k = TN := by omega
            have hte : TL.take k = TL := List.take_of_length_le (by rw [HTN.out]; exact Nat.le_refl _)
            rw [hte, HXL.out] at HM hmid
            obtain ⟨xA, xc, rfl, hx1, hx2, hx3⟩ := hmid.shown
            obtain ⟨XN, hXN⟩ : ∃ XN, XL.length = XN := ⟨_, rfl⟩
            rw [hXN] at hx1 hx2 hxl HM
            have HXN := Lib.hid hXN
            have HX5 := Lib.hid (HXB.out _ hmid.2.1)
            have HS5 := Lib.hid ((HS4.out.more hz4).below hmid.2.1)
            have HR5 := Lib.hid (HR4.out.below hmid.2.1)
            have HXX := Lib.hid hx1
            have hz5 : w4.heap.size ≤ wr.heap.size := hmid.2.1.size
            have hw5 : w.heap.size < wr.heap.size := by omega
            obtain ⟨x0, x1, x2, x3, x4⟩ := BX.out _ HX5.out
            have hmk : ∀ w, (Instr.makeSlice 26 (.int .i64 0) (.int .i64 0)).run Try.prog w = .ok (.slice (some ⟨w.heap.size, 0, none⟩) 0 0) (w.alloc (.cells (madeCells #[.int .u8 0] 0) 5)) := fun w => make_bytes 0 (by omega) w
            clear hmid hx1 hXN hte HM
            rw [HXN.out]
            have hHD : ∀ j, j < 10 → (#[.int .i64 3490578157, .int .i64 (40 + (RN : Int) + (SN : Int) + (XN : Int)), .int .i64 (40 + (RN : Int)), .int .i64 (40 + (RN : Int) + (SN : Int)), .int .i64 40, .int .i64 17, .int .i64 16, .int .i64 boot, .int .i64 (XN : Int), .int .i64 (SN : Int)] : Array Value)[j]? = some (.int .i64 (HT j)) ∧ HT j ≤ 4294967295 := by
              intro j hj
              have h := HEAD.out j
              rw [HRN.out, HSN.out, HXN.out] at h
              rcases (by omega : j = 0 ∨ j = 1 ∨ j = 2 ∨ j = 3 ∨ j = 4 ∨ j = 5 ∨ j = 6 ∨ j = 7 ∨ j = 8 ∨ j = 9) with rfl | rfl | rfl | rfl | rfl | rfl | rfl | rfl | rfl | rfl
              all_goals simp only [List.getD_cons_zero, List.getD_cons_succ] at h
              all_goals rw [h]
              all_goals refine ⟨congrArg (fun z => some (Value.int .i64 z)) ?_, ?_⟩
              all_goals omega
            have HCE := Lib.hid (fun j (hj : j < 10) W (h : Below ((wr.alloc (.cells (madeCells #[.int .u8 0] 0) 5)).alloc (.cells #[.int .i64 3490578157, .int .i64 (40 + (RN : Int) + (SN : Int) + (XN : Int)), .int .i64 (40 + (RN : Int)), .int .i64 (40 + (RN : Int) + (SN : Int)), .int .i64 40, .int .i64 17, .int .i64 16, .int .i64 boot, .int .i64 (XN : Int), .int .i64 (SN : Int)] 3)).heap.size ((wr.alloc (.cells (madeCells #[.int .u8 0] 0) 5)).alloc (.cells #[.int .i64 3490578157, .int .i64 (40 + (RN : Int) + (SN : Int) + (XN : Int)), .int .i64 (40 + (RN : Int)), .int .i64 (40 + (RN : Int) + (SN : Int)), .int .i64 40, .int .i64 17, .int .i64 16, .int .i64 boot, .int .i64 (XN : Int), .int .i64 (SN : Int)] 3)) W) => (h.cell (p := ⟨wr.heap.size + 1, j, none⟩) (by simp)).trans ((World.cell?_alloc_at (w := wr.alloc (.cells (madeCells #[.int .u8 0] 0) 5)) #[.int .i64 3490578157, .int .i64 (40 + (RN : Int) + (SN : Int) + (XN : Int)), .int .i64 (40 + (RN : Int)), .int .i64 (40 + (RN : Int) + (SN : Int)), .int .i64 40, .int .i64 17, .int .i64 16, .int .i64 boot, .int .i64 (XN : Int), .int .i64 (SN : Int)] 3 (wr.heap.size + 1) j (by simp)).trans (hHD j hj).1))
            have HLE := Lib.hid (fun j (hj : j < 10) => (hHD j hj).2)
            have HW := Lib.hid (fun W (h : Below ((wr.alloc (.cells (madeCells #[.int .u8 0] 0) 5)).alloc (.cells #[.int .i64 3490578157, .int .i64 (40 + (RN : Int) + (SN : Int) + (XN : Int)), .int .i64 (40 + (RN : Int)), .int .i64 (40 + (RN : Int) + (SN : Int)), .int .i64 40, .int .i64 17, .int .i64 16, .int .i64 boot, .int .i64 (XN : Int), .int .i64 (SN : Int)] 3)).heap.size ((wr.alloc (.cells (madeCells #[.int .u8 0] 0) 5)).alloc (.cells #[.int .i64 3490578157, .int .i64 (40 + (RN : Int) + (SN : Int) + (XN : Int)), .int .i64 (40 + (RN : Int)), .int .i64 (40 + (RN : Int) + (SN : Int)), .int .i64 40, .int .i64 17, .int .i64 16, .int .i64 boot, .int .i64 (XN : Int), .int .i64 (SN : Int)] 3)) W) => (((Below.refl wr.heap.size wr).alloc (Nat.le_refl _) (.cells (madeCells #[.int .u8 0] 0) 5)).alloc (by simp) (.cells #[.int .i64 3490578157, .int .i64 (40 + (RN : Int) + (SN : Int) + (XN : Int)), .int .i64 (40 + (RN : Int)), .int .i64 (40 + (RN : Int) + (SN : Int)), .int .i64 40, .int .i64 17, .int .i64 16, .int .i64 boot, .int .i64 (XN : Int), .int .i64 (SN : Int)] 3)).trans (h.mono (by simp; omega)))
            have HBW := Lib.hid (fun W (h : Below ((wr.alloc (.cells (madeCells #[.int .u8 0] 0) 5)).alloc (.cells #[.int .i64 3490578157, .int .i64 (40 + (RN : Int) + (SN : Int) + (XN : Int)), .int .i64 (40 + (RN : Int)), .int .i64 (40 + (RN : Int) + (SN : Int)), .int .i64 40, .int .i64 17, .int .i64 16, .int .i64 boot, .int .i64 (XN : Int), .int .i64 (SN : Int)] 3)).heap.size ((wr.alloc (.cells (madeCells #[.int .u8 0] 0) 5)).alloc (.cells #[.int .i64 3490578157, .int .i64 (40 + (RN : Int) + (SN : Int) + (XN : Int)), .int .i64 (40 + (RN : Int)), .int .i64 (40 + (RN : Int) + (SN : Int)), .int .i64 40, .int .i64 17, .int .i64 16, .int .i64 boot, .int .i64 (XN : Int), .int .i64 (SN : Int)] 3)) W) => HB0.out.trans ((HX5.out.trans ((HW.out W h).mono hw5)).mono (Nat.le_succ _)))
            have HSP := Lib.hid (fun (W : World) => show Shows W 0 (some ⟨wr.heap.size, 0, none⟩) 0 [] from ⟨rfl, by simp, fun h => absurd h (Nat.lt_irrefl 0)⟩)
            clear hHD
            go_wp2_with fail
            clear x0 x1 x2 x3 x4 hmk
            go_loopw [17, 110] (fun v i W => ∃ j : Nat, j ≤ 10 ∧ i = .int .i64 j ∧ Mid ((wr.alloc (.cells (madeCells #[.int .u8 0] 0) 5)).alloc (.cells #[.int .i64 3490578157, .int .i64 (40 + (RN : Int) + (SN : Int) + (XN : Int)), .int .i64 (40 + (RN : Int)), .int .i64 (40 + (RN : Int) + (SN : Int)), .int .i64 40, .int .i64 17, .int .i64 16, .int .i64 boot, .int .i64 (XN : Int), .int .i64 (SN : Int)] 3)).heap.size ((wr.alloc (.cells (madeCells #[.int .u8 0] 0) 5)).alloc (.cells #[.int .i64 3490578157, .int .i64 (40 + (RN : Int) + (SN : Int) + (XN : Int)), .int .i64 (40 + (RN : Int)), .int .i64 (40 + (RN : Int) + (SN : Int)), .int .i64 40, .int .i64 17, .int .i64 16, .int .i64 boot, .int .i64 (XN : Int), .int .i64 (SN : Int)] 3)) W v (fours (fun k => (HT k : Int)) j)) (fun _ i _ => 10 - (intOf i).toNat)
            case atStart => exact ⟨0, Nat.zero_le _, rfl, Mid.start _⟩
            case round =>
              obtain ⟨j, hj, rfl, hmid⟩ := hrel
              have HM := Lib.hid hmid
              by_cases hlt : j < 10
              · have hcj := HCE.out j hlt _ hmid.2.1
                have hle := HLE.out j hlt
                have HNX := Lib.hid (fours_succ (fun k => (HT k : Int)) j)
                have hln : (fours (fun k => (HT k : Int)) j).length ≤ 40 := by rw [fours_length]; omega
                generalize HT j = y at *
                have HC := Lib.hid (fun W => doccell_any y W hle)
                clear hmid
                go_wp2_with fail
                refine (HC.out _).mono ?_
                rintro e w8 ⟨g8, rfl, hs8, hb8⟩
                obtain ⟨v9, w9, hrun9, hM9, _⟩ := (HM.out.on hb8).append 4 hs8 (by simp only [four, List.length_cons, List.length_nil]; omega) 26
                have HM9 := Lib.hid hM9
                clear hs8 hb8 hM9
                go_wp2_with (at_builtin; refine Lib.wpList_append_run_sl _ rfl _ _ _ rfl _ _ rfl rfl hrun9 ?_)
                clear hrun9
                go_roundw
                case rel => exact ⟨j + 1, by omega, by go_num, by rw [HNX.out]; exact HM9.out⟩
                case measure => simp [intOf]; omega
              · obtain rfl : j = 10 := by omega
                have hf10 := fours_length (fun k => (HT k : Int)) 10
                generalize hFH : fours (fun k => (HT k : Int)) 10 = FH at *
                have HFH := Lib.hid hFH
                have hlR := HRN.out
                have hlS := HSN.out
                have hlX := HXN.out
                obtain ⟨v1, y1, hr1, hm1, _⟩ := hmid.append 0 (HSP.out _) (by simp only [List.length_nil]; omega) 26
                obtain ⟨v2, y2, hr2', hm2, _⟩ := hm1.append rcc (HR5.out.below ((HW.out _ hm1.2.1).mono hz5)) (by simp only [List.length_append, List.length_nil]; omega) 26
                obtain ⟨v3, y3, hr3', hm3, _⟩ := hm2.append 0 (HSP.out _) (by simp only [List.length_append, List.length_nil]; omega) 26
                obtain ⟨v4, y4, hr4, hm4, _⟩ := hm3.append sc (HS5.out.below ((HW.out _ hm3.2.1).mono hz5)) (by simp only [List.length_append, List.length_nil]; omega) 26
                obtain ⟨v5, y5, hr5, hm5, _⟩ := hm4.append 0 (HSP.out _) (by simp only [List.length_append, List.length_nil]; omega) 26
                obtain ⟨v6, y6, hr6, hm6, _⟩ := hm5.append xc (HXX.out.below (HW.out _ hm5.2.1)) (by simp only [List.length_append, List.length_nil]; omega) 26
                have HM6 := Lib.hid hm6
                have HBT : Hid (((((((FH ++ []) ++ RL) ++ []) ++ SL) ++ []) ++ XL) = BT) := by show _ = _; rw [HBLOB.out]; simp
                clear hmid hm1 hm2 hm3 hm4 hm5 hm6 hFH hf10 hlR hlS hlX HM
                go_wp2_with (at_builtin; first | (refine Lib.wpList_append_run_sl _ rfl _ _ _ rfl _ _ rfl rfl hr1 ?_) | (refine Lib.wpList_append_run_sl _ rfl _ _ _ rfl _ _ rfl rfl hr2' ?_) | (refine Lib.wpList_append_run_sl _ rfl _ _ _ rfl _ _ rfl rfl hr3' ?_) | (refine Lib.wpList_append_run_sl _ rfl _ _ _ rfl _ _ rfl rfl hr4 ?_) | (refine Lib.wpList_append_run_sl _ rfl _ _ _ rfl _ _ rfl rfl hr5 ?_) | (refine Lib.wpList_append_run_sl _ rfl _ _ _ rfl _ _ rfl rfl hr6 ?_))
                go_ret
                have hM := HM6.out
                rw [HBT.out] at hM
                obtain ⟨A, c, e, k1, k2, k3⟩ := hM.shown
                exact ⟨A, c, congrArg Ending.returned e, k1, k2, k3, HBW.out _ hM.2.1⟩
end Go.Proofs.Ytnopcnbeklbfoaa
