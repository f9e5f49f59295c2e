/-
  Layer 3, TreeDeep: a tree as deep as may be is formed, one that is deeper isn't.
-/
import Derived.Test.YthfonfecangmcaaTLChecks
import Derived.Great.BuildSlice
namespace Go.Proofs.Ythfonfecangmcaa
open Go.RowKit
set_option linter.unusedVariables false
set_option linter.unusedSimpArgs false

/-- The name "a". -/
def nA : ByteArray := ⟨#[97]⟩
/-- A node "a" with i nodes "a" below it, one below the other: no properties. -/
def chain : Nat → Option Addr → Nat → List Nd → Nd := fun _ ka kc ks => .mk nA none 0 [] ka kc ks

/-- The chain of i + 1 nodes lies in w, its rows in blocks above b0. -/
inductive Chain (w : World) (b0 : Nat) : Nat → Nd → Prop where
  | last : Chain w b0 0 (.mk nA none 0 [] none 0 [])
  | more (i g : Nat) (c : Nd) (h : Chain w b0 i c) (hg : b0 < g) (hlt : g < w.heap.size) (h0 : w.cell? ⟨g, 0, none⟩ = some (.string c.name)) (h1 : w.cell? ⟨g, 1, none⟩ = some c.pv) (h2 : w.cell? ⟨g, 2, none⟩ = some c.kv) :
      Chain w b0 (i + 1) (.mk nA none 0 [] (some ⟨g, 0, none⟩) 1 [c])

theorem Chain.shape {w : World} {b0 i : Nat} {c : Nd} (h : Chain w b0 i c) : c.name = nA ∧ c.pa = none ∧ c.pc = 0 ∧ c.props = [] := by
  cases h <;> exact ⟨rfl, rfl, rfl, rfl⟩
theorem Chain.keep {w w' : World} {b0 : Nat} (hs : w.heap.size ≤ w'.heap.size) (hk : ∀ a : Addr, b0 < a.block → a.block < w.heap.size → w'.cell? a = w.cell? a) : ∀ {i : Nat} {c : Nd}, Chain w b0 i c → Chain w' b0 i c
  | _, _, .last => .last
  | _, _, .more i g c h hg hlt h0 h1 h2 => .more i g c (h.keep hs hk) hg (by omega) ((hk _ hg hlt).trans h0) ((hk _ hg hlt).trans h1) ((hk _ hg hlt).trans h2)
theorem Chain.lies {w : World} {b0 : Nat} : ∀ {i : Nat} {c : Nd}, Chain w b0 i c → c.In w w.heap.size
  | _, _, .last => .mk _ ⟨by decide, by decide, by decide⟩ (Nat.le_refl _) (by decide) (Nat.le_refl _) (by decide) (fun h => absurd h (Nat.lt_irrefl 0)) (fun p hp => absurd hp (by simp [Nd.props])) (fun h => absurd h (Nat.lt_irrefl 0)) (fun p hp => absurd hp (by simp [Nd.kids]))
  | _, _, .more i g c h hg hlt h0 h1 h2 => .mk _ ⟨by show nA.size ≤ _; decide, by show 0 * 40 ≤ _; decide, by show 1 * 64 ≤ _; decide⟩ (Nat.le_refl _) (by show 0 ≤ _; decide) (Nat.le_refl _) (by show 1 ≤ _; decide) (fun h => absurd h (Nat.lt_irrefl 0)) (fun p hp => absurd hp (by simp [Nd.props]))
      (fun _ => ⟨g, 0, rfl, hlt, fun j hj => by
        have hj0 : j = 0 := by have : j < 1 := hj; omega
        subst hj0
        exact ⟨h0, h1, h2⟩⟩) (fun k hk => by
        have : k = c := by simpa [Nd.kids] using hk
        rw [this]
        exact h.lies)

/-! ### What is wrong with a chain -/

theorem nodeB_a : nodeB nA = true := by kernel_rfl
theorem twice_nil : twiceB [] = false := by kernel_rfl
theorem twice_one (s : ByteArray) : twiceB [s] = false := by simp [twiceB]

theorem alone_chain {w : World} {b0 i : Nat} {c : Nd} (h : Chain w b0 i c) (d : Int) (hd : 2 ≤ d) : aloneE c d = if 16 < d then 6 else 0 := by
  have hn : nameOk c d = true := by rw [nameOk, if_neg (by omega), h.shape.1, nodeB_a]
  have hp := h.shape.2.2.2
  have hk : twiceB (c.kids.map Nd.name) = false := by
    cases h
    · exact twice_nil
    · exact twice_one _
  rw [aloneE, hn, hp, hk]
  by_cases h16 : 16 < d
  · rw [if_pos h16, if_pos h16]
  · rw [if_neg h16, if_neg h16, if_neg (by simp), if_neg (by simp), List.map_nil, twice_nil]
    rfl
theorem wrong_chain {w : World} {b0 i : Nat} {c : Nd} (h : Chain w b0 i c) : ∀ d : Int, 2 ≤ d → wrongN c d = if 16 < d + i then 6 else 0 := by
  induction h with
  | last =>
    intro d hd
    have ha := alone_chain (w := w) (b0 := b0) .last d hd
    rw [wrongN_mk, ha]
    by_cases h16 : 16 < d
    · rw [if_pos h16, if_neg (by omega), if_pos (by omega)]
    · rw [if_neg h16, if_pos rfl, if_neg (by omega)]
      rfl
  | more i g c h' hg hlt h0 h1 h2 ih =>
    intro d hd
    have ha := alone_chain (.more i g c h' hg hlt h0 h1 h2) d hd
    have ih := ih (d + 1) (by omega)
    rw [wrongN_mk, ha]
    by_cases h16 : 16 < d
    · rw [if_pos h16, if_neg (by omega), if_pos (by omega)]
    · rw [if_neg h16, if_pos rfl]
      show wrongL [c] (d + 1) = _
      rw [wrongL, ih, wrongL]
      by_cases h17 : 16 < d + 1 + i
      · rw [if_pos h17, if_neg (by omega), if_pos (by omega)]
      · rw [if_neg h17, if_pos rfl, if_neg (by omega)]
theorem nodes_chain {w : World} {b0 : Nat} : ∀ {i : Nat} {c : Nd} (h : Chain w b0 i c), nodesN c = i + 1 ∧ propsN c = 0
  | _, _, .last => ⟨rfl, rfl⟩
  | _, _, .more i g c h' _ _ _ _ _ => by
    obtain ⟨h1, h2⟩ := nodes_chain h'
    rw [nodesN, propsN, nodesL, nodesL, propsL, propsL, h1, h2]
    exact ⟨by omega, by simp⟩

/-- The chain's root, its name struck. -/
def rootOf (c : Nd) : Nd := .mk ⟨#[]⟩ c.pa c.pc c.props c.ka c.kc c.kids
theorem root_in {w : World} {B : Nat} {c : Nd} (h : c.In w B) : (rootOf c).In w B :=
  .mk _ ⟨by show (⟨#[]⟩ : ByteArray).size ≤ _; decide, h.name_le.2⟩ h.plen.1 h.plen.2 h.klen.1 h.klen.2 h.prow (fun p hp => h.prop hp) h.krow (fun k hk => h.kid hk)
/-- The tree over a root. -/
def treeOf (n : Nd) : Tr := ⟨0, none, 0, [], n⟩
theorem tree_in {w : World} {B : Nat} {n : Nd} (h : n.In w B) : (treeOf n).In w B :=
  ⟨⟨Int.le_refl _, by show (0 : Int) ≤ _; decide⟩, ⟨Nat.le_refl _, by show 0 ≤ _; decide, by show 0 * 16 ≤ _; decide⟩, fun h => absurd h (Nat.lt_irrefl 0), fun r hr => absurd hr (by simp [treeOf]), h⟩

theorem check_chain {w : World} {b0 i : Nat} {c : Nd} (h : Chain w b0 i c) (hi : i ≤ 23) : checkE (treeOf (rootOf c)) = if 16 < i + 1 then 6 else 0 := by
  obtain ⟨hn, hpa, hpc, hps⟩ := h.shape
  have hk : twiceB ((rootOf c).kids.map Nd.name) = false := by
    cases h
    · exact twice_nil
    · exact twice_one _
  have ha : aloneE (rootOf c) 1 = 0 := by
    have e1 : nameOk (rootOf c) 1 = true := by
      rw [nameOk, if_pos rfl]
      show (⟨#[]⟩ : ByteArray).toList.isEmpty = true
      rw [Lib.toList_data]
      rfl
    have e2 : (rootOf c).props = [] := hps
    rw [aloneE, e1, e2, hk, if_neg (by omega), if_neg (by simp), if_neg (by simp), List.map_nil, twice_nil]
    rfl
  have hw : wrongN (rootOf c) 1 = if 16 < i + 1 then 6 else 0 := by
    rw [wrongN_mk, ha, if_pos rfl]
    cases h with
    | last => rfl
    | more j g c' h' hg hlt h0 h1 h2 =>
      have ih := wrong_chain h' 2 (by omega)
      show wrongL [c'] (1 + 1) = _
      rw [wrongL, show (1 + 1 : Int) = 2 from rfl, ih, wrongL]
      by_cases h17 : 16 < (2 : Int) + j
      · rw [if_pos h17, if_neg (by omega), if_pos (by omega)]
      · rw [if_neg h17, if_pos rfl, if_neg (by omega)]
  have hm : manyE (treeOf (rootOf c)) = 0 := by
    obtain ⟨n1, n2⟩ := nodes_chain h
    have e1 : nodesN (rootOf c) = i + 1 := by
      cases c
      rw [nodesN] at n1
      show nodesN (.mk ..) = _
      rw [nodesN]
      exact n1
    have e2 : propsN (rootOf c) = 0 := by
      cases c
      rw [propsN] at n2
      show propsN (.mk ..) = _
      rw [propsN]
      exact n2
    have e3 : (treeOf (rootOf c)).rs = [] := rfl
    have e4 : (treeOf (rootOf c)).root = rootOf c := rfl
    rw [manyE, e3, e4, e1, e2, wrap_small (by omega) (by omega), wrap_small (by omega) (by omega), if_neg (by simp; omega)]
    rfl
  have e5 : (treeOf (rootOf c)).root = rootOf c := rfl
  rw [checkE, e5, hw, hm]
  by_cases h16 : 16 < i + 1
  · rw [if_pos h16, if_neg (by omega)]
  · rw [if_neg h16, if_pos rfl]

theorem box_ne {b g i j : Nat} (h : b < g) : (⟨b, i, none⟩ : Addr) ≠ ⟨g, j, none⟩ := fun e => by
  have := congrArg Addr.block e
  simp at this
  omega
theorem off_ne {b i j : Nat} (h : i ≠ j) : (⟨b, i, none⟩ : Addr) ≠ ⟨b, j, none⟩ := fun e => h (by simpa using congrArg Addr.off e)

/-- One round: the old chain goes into a new row, the box leads to it. -/
theorem chain_step (w : World) (b0 j : Nat) (c : Nd) (hch : Chain w b0 j c) (hlt : b0 < w.heap.size) {v0 v1 v2 : Value} (c0 : w.cell? ⟨b0, 0, none⟩ = some v0) (c1 : w.cell? ⟨b0, 1, none⟩ = some v1) (c2 : w.cell? ⟨b0, 2, none⟩ = some v2)
    (f0 : w.frozen? ⟨b0, 0, none⟩ = false) (f1 : w.frozen? ⟨b0, 1, none⟩ = false) (f2 : w.frozen? ⟨b0, 2, none⟩ = false) (W : World)
    (hW : W = (((w.alloc (.cells #[.string ⟨#[97]⟩, .slice none 0 0, c.kv] 27)).setCell ⟨b0, 0, none⟩ (.string ⟨#[97]⟩)).setCell ⟨b0, 1, none⟩ (.slice none 0 0)).setCell ⟨b0, 2, none⟩ (.slice (some ⟨w.heap.size, 0, none⟩) 1 1)) :
    Chain W b0 (j + 1) (.mk nA none 0 [] (some ⟨w.heap.size, 0, none⟩) 1 [c]) ∧ W.cell? ⟨b0, 0, none⟩ = some (.string ⟨#[97]⟩) ∧ W.cell? ⟨b0, 1, none⟩ = some (.slice none 0 0) ∧ W.cell? ⟨b0, 2, none⟩ = some (.slice (some ⟨w.heap.size, 0, none⟩) 1 1) ∧
      W.frozen? ⟨b0, 0, none⟩ = false ∧ W.frozen? ⟨b0, 1, none⟩ = false ∧ W.frozen? ⟨b0, 2, none⟩ = false ∧ W.heap.size = w.heap.size + 1 := by
  have hs : W.heap.size = w.heap.size + 1 := by rw [hW]; simp
  have new : ∀ i, W.cell? ⟨w.heap.size, i, none⟩ = #[Value.string ⟨#[97]⟩, .slice none 0 0, c.kv][i]? := fun i => by
    rw [hW, World.cell?_setCell_other _ _ _ _ (box_ne hlt), World.cell?_setCell_other _ _ _ _ (box_ne hlt), World.cell?_setCell_other _ _ _ _ (box_ne hlt), World.cell?_alloc_new]
  have old : ∀ a : Addr, b0 < a.block → a.block < w.heap.size → W.cell? a = w.cell? a := fun a h1 h2 => by
    have ne : ∀ i, (⟨b0, i, none⟩ : Addr) ≠ a := fun i e => by rw [← e] at h1; exact absurd h1 (Nat.lt_irrefl _)
    rw [hW, World.cell?_setCell_other _ _ _ _ (ne _), World.cell?_setCell_other _ _ _ _ (ne _), World.cell?_setCell_other _ _ _ _ (ne _), World.cell?_alloc_lt _ _ _ h2]
  have fr : ∀ i, W.frozen? ⟨b0, i, none⟩ = w.frozen? ⟨b0, i, none⟩ := fun i => by
    rw [hW, World.frozen?_setCell, World.frozen?_setCell, World.frozen?_setCell, World.frozen?_alloc_past _ _ _ hlt]
  have d0 := Lib.cell?_alloc_some (.cells #[.string ⟨#[97]⟩, .slice none 0 0, c.kv] 27) c0
  have d1 := Lib.cell?_alloc_some (.cells #[.string ⟨#[97]⟩, .slice none 0 0, c.kv] 27) c1
  have d2 := Lib.cell?_alloc_some (.cells #[.string ⟨#[97]⟩, .slice none 0 0, c.kv] 27) c2
  obtain ⟨s1, s2, s3, s4⟩ := hch.shape
  have spv : c.pv = .slice none 0 0 := by unfold Nd.pv; rw [s2, s3, s4]; rfl
  refine ⟨.more j w.heap.size c (hch.keep (by omega) old) hlt (by omega) ?_ ?_ ?_, ?_, ?_, ?_, (fr 0).trans f0, (fr 1).trans f1, (fr 2).trans f2, hs⟩
  · rw [new 0, s1]; rfl
  · rw [new 1, spv]; rfl
  · rw [new 2]; rfl
  · rw [hW, World.cell?_setCell_other _ _ _ _ (off_ne (by omega)), World.cell?_setCell_other _ _ _ _ (off_ne (by omega)), World.cell?_setCell_same _ _ _ d0]
  · rw [hW, World.cell?_setCell_other _ _ _ _ (off_ne (by omega)), World.cell?_setCell_same _ _ _ ((World.cell?_setCell_other _ _ _ _ (off_ne (by omega))).trans d1)]
  · rw [hW, World.cell?_setCell_same _ _ _ ((World.cell?_setCell_other _ _ _ _ (off_ne (by omega))).trans ((World.cell?_setCell_other _ _ _ _ (off_ne (by omega))).trans d2))]

set_option maxHeartbeats 4000000 in
theorem treeDeep_true (n : Int) (w : World) (hn0 : 0 ≤ n) (hn1 : n ≤ 255) :
    Calls Try.prog 6 #[.int .u8 n] w fun e w' => e = .returned (.bool true) ∧ Below w.heap.size w w' := by
  obtain ⟨k, hk⟩ : ∃ k : Nat, (k : Int) = n % 24 := ⟨(n % 24).toNat, by omega⟩
  have hk23 : k ≤ 23 := by omega
  have hk' : n % 24 = (k : Int) := hk.symm
  have HK := Lib.hid hk
  clear hk
  go_enter Try.func6, Try.ntmps6
  go_wp2_with fail
  refine (awake3 _).mono ?_
  rintro e w1 ⟨rfl, hb⟩
  have HB1 := Lib.hid hb
  clear hb
  go_wp2_with fail
  go_loopw [11] (fun i wr => ∃ j : Nat, j ≤ k ∧ i = .int .i64 j ∧ (∃ c : Nd, Chain wr w1.heap.size j c ∧ wr.cell? ⟨w1.heap.size, 0, none⟩ = some (.string ⟨#[97]⟩) ∧ wr.cell? ⟨w1.heap.size, 1, none⟩ = some (.slice none 0 0) ∧ wr.cell? ⟨w1.heap.size, 2, none⟩ = some c.kv) ∧
      wr.frozen? ⟨w1.heap.size, 0, none⟩ = false ∧ wr.frozen? ⟨w1.heap.size, 1, none⟩ = false ∧ wr.frozen? ⟨w1.heap.size, 2, none⟩ = false ∧ Below w1.heap.size w1 wr ∧ w1.heap.size < wr.heap.size) (fun i _ => k - (intOf i).toNat)
  case atStart =>
    exact ⟨0, Nat.zero_le _, rfl, ⟨_, .last, World.cell?_alloc_new _ _ _ _, World.cell?_alloc_new _ _ _ _, World.cell?_alloc_new _ _ _ _⟩, World.frozen?_alloc_new _ _ _ _, World.frozen?_alloc_new _ _ _ _, World.frozen?_alloc_new _ _ _ _, (Below.refl _ _).alloc (Nat.le_refl _) _, by simp⟩
  case round =>
    obtain ⟨j, hj, rfl, ⟨c, hch, c0, c1, c2⟩, f0, f1, f2, hb, hlt⟩ := hrel
    have HC := Lib.hid hch
    have HB := Lib.hid hb
    have HL := Lib.hid hlt
    obtain ⟨nm, pa, pc, ps, ka, kc, ks⟩ := c
    replace c2 : _ = some (Value.slice ka ks.length kc) := c2
    clear hch hb hlt
    by_cases hjk : j < k
    · have g0 : ∀ o, (wr.alloc o).cell? ⟨w1.heap.size, 0, none⟩ = _ := fun o => Lib.cell?_alloc_some o c0
      have g1 : ∀ o, (wr.alloc o).cell? ⟨w1.heap.size, 1, none⟩ = _ := fun o => Lib.cell?_alloc_some o c1
      have g2 : ∀ o, (wr.alloc o).cell? ⟨w1.heap.size, 2, none⟩ = _ := fun o => Lib.cell?_alloc_some o c2
      have e0 : ∀ o, (wr.alloc o).frozen? ⟨w1.heap.size, 0, none⟩ = false := fun o => (World.frozen?_alloc_past o _ _ HL.out).trans f0
      have e1 : ∀ o, (wr.alloc o).frozen? ⟨w1.heap.size, 1, none⟩ = false := fun o => (World.frozen?_alloc_past o _ _ HL.out).trans f1
      have e2 : ∀ o, (wr.alloc o).frozen? ⟨w1.heap.size, 2, none⟩ = false := fun o => (World.frozen?_alloc_past o _ _ HL.out).trans f2
      have HF := Lib.hid (And.intro f0 (And.intro f1 f2))
      have HG := Lib.hid (And.intro c0 (And.intro c1 c2))
      go_wp2
      go_roundw
      case rel =>
        obtain ⟨t1, t2, t3, t4, t5, t6, t7, t8⟩ := chain_step wr w1.heap.size j _ HC.out HL.out HG.out.1 HG.out.2.1 HG.out.2.2 HF.out.1 HF.out.2.1 HF.out.2.2 _ rfl
        exact ⟨j + 1, by omega, by go_num, ⟨_, t1, t2, t3, t4⟩, t5, t6, t7, (((HB.out.alloc HB.out.size _).setCell (Nat.le_refl _) _).setCell (Nat.le_refl _) _).setCell (Nat.le_refl _) _, Nat.lt_of_lt_of_eq (Nat.lt_succ_of_lt HL.out) t8.symm⟩
      case measure => simp [intOf]; omega
    · have hjk' : j = k := by omega
      obtain ⟨E, hE⟩ : ∃ E, checkE (treeOf (rootOf (Nd.mk nm pa pc ps ka kc ks))) = E := ⟨_, rfl⟩
      have HE : Hid (E = if 16 < k + 1 then 6 else 0) := by rw [← hE, ← hjk']; exact check_chain HC.out (by omega)
      have HB2 := Lib.hid (HB1.out.trans ((HB.out.setCell (p := ⟨w1.heap.size, 0, none⟩) (Nat.le_refl _) (.string ⟨#[]⟩)).mono HB1.out.size))
      have hIN := (HC.out.keep (w' := wr.setCell ⟨w1.heap.size, 0, none⟩ (.string ⟨#[]⟩)) (by simp) (fun a h1 h2 => World.cell?_setCell_other _ _ _ _ (fun e => by rw [← e] at h1; exact absurd h1 (Nat.lt_irrefl _)))).lies
      have C := Lib.hid (check_any (treeOf (rootOf (Nd.mk nm pa pc ps ka kc ks))) _ (tree_in (root_in hIN)) E hE)
      obtain ⟨s1, s2, s3, s4⟩ := HC.out.shape
      replace s2 : pa = none := s2
      replace s3 : pc = 0 := s3
      replace s4 : ps = [] := s4
      subst s2 s3 s4
      clear hE hIN s1
      go_wp2_with fail
      refine C.out.mono ?_
      rintro e w2 ⟨rfl, hb⟩
      have HB3 := Lib.hid (HB2.out.trans (hb.mono HB2.out.size))
      clear hb c0 c1 c2 f0 f1 f2
      by_cases h16 : 16 < k + 1
      · obtain rfl : E = 6 := by rw [HE.out, if_pos h16]
        have h17 : decide ((k : Int) + 1 ≤ 16) = false := decide_eq_false (by omega)
        go_wp2
        go_ret
        exact ⟨rfl, HB3.out⟩
      · obtain rfl : E = 0 := by rw [HE.out, if_neg h16]
        have h17 : (k : Int) + 1 ≤ 16 := by omega
        go_wp2
        go_ret
        exact ⟨rfl, HB3.out⟩
end Go.Proofs.Ythfonfecangmcaa
