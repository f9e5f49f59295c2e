/-
  The document's blob: a node's tokens.
-/
import Derived.Test.YtnopcnbeklbfoaaDRow
import Derived.Test.YtnopcnbeklbfoaaDWhere
import Derived.Test.YtnopcnbeklbfoaaReg
namespace Go.Proofs.Ytnopcnbeklbfoaa
open Go.RowKit
set_option linter.unusedVariables false
set_option linter.unusedSimpArgs false

/-- A property's token. -/
def propT (l : List ByteArray) (p : PV) : List Int := [0, 0, 0, 3] ++ (four p.zs.length ++ (four (whereL l p.name) ++ padL p.zs))
mutual
/-- A node's tokens. -/
def nodeN (l : List ByteArray) : Nd → List Int
  | .mk nm _ _ ps _ _ ks => [0, 0, 0, 1] ++ padL (strB nm ++ [0]) ++ ps.flatMap (propT l) ++ nodeL l ks ++ [0, 0, 0, 2]
def nodeL (l : List ByteArray) : List Nd → List Int
  | [] => []
  | k :: r => nodeN l k ++ nodeL l r
end
theorem nodeL_append (l : List ByteArray) : ∀ a b : List Nd, nodeL l (a ++ b) = nodeL l a ++ nodeL l b
  | [], b => by simp [nodeL]
  | x :: a, b => by simp only [List.cons_append, nodeL, nodeL_append l a b, List.append_assoc]
theorem nodeL_next (l : List ByteArray) (ks : List Nd) (j : Nat) (h : j < ks.length) : nodeL l (ks.take (j + 1)) = nodeL l (ks.take j) ++ nodeN l ks[j] := by
  rw [take_next ks j h, nodeL_append]; simp [nodeL]
theorem props_next (l : List ByteArray) (ps : List PV) (j : Nat) (h : j < ps.length) : (ps.take (j + 1)).flatMap (propT l) = (ps.take j).flatMap (propT l) ++ propT l ps[j] := by
  rw [take_next ps j h, List.flatMap_append]; simp

/-- How heavy a node is: no less than its tokens, or its properties' names. -/
def heftP (p : PV) : Nat := 16 + p.name.size + p.zs.length
mutual
def heftN : Nd → Nat
  | .mk nm _ _ ps _ _ ks => 16 + nm.size + (ps.map heftP).sum + heftL ks
def heftL : List Nd → Nat
  | [] => 0
  | k :: r => heftN k + heftL r
end
theorem heftL_append : ∀ a b : List Nd, heftL (a ++ b) = heftL a + heftL b
  | [], b => by simp [heftL]
  | x :: a, b => by simp only [List.cons_append, heftL, heftL_append a b]; omega
theorem heftL_next (ks : List Nd) (j : Nat) (h : j < ks.length) : heftL (ks.take (j + 1)) = heftL (ks.take j) + heftN ks[j] := by
  rw [take_next ks j h, heftL_append]; simp [heftL]
theorem heftL_take (ks : List Nd) (j : Nat) : heftL (ks.take j) ≤ heftL ks := by
  conv => rhs; rw [← List.take_append_drop j ks, heftL_append]
  omega
theorem heftP_take (ps : List PV) (j : Nat) : ((ps.take j).map heftP).sum ≤ (ps.map heftP).sum := by
  conv => rhs; rw [← List.take_append_drop j ps, List.map_append, List.sum_append]
  omega
theorem heftP_next (ps : List PV) (j : Nat) (h : j < ps.length) : ((ps.take (j + 1)).map heftP).sum = ((ps.take j).map heftP).sum + heftP ps[j] := by
  rw [take_next ps j h, List.map_append, List.sum_append]; simp
theorem propT_length (l : List ByteArray) (p : PV) : (propT l p).length ≤ heftP p := by
  have h1 := padN_lt p.zs.length
  simp only [propT, List.length_append, padL_length, heftP, four, List.length_cons, List.length_nil]
  omega
theorem props_length (l : List ByteArray) : ∀ ps : List PV, (ps.flatMap (propT l)).length ≤ (ps.map heftP).sum
  | [] => by simp
  | p :: r => by
    have h1 := propT_length l p
    have h2 := props_length l r
    simp only [List.flatMap_cons, List.length_append, List.map_cons, List.sum_cons]
    omega
theorem nodeN_length (l : List ByteArray) : ∀ n : Nd, (nodeN l n).length ≤ heftN n := by
  refine Nd.ind ?_
  intro n ih
  obtain ⟨nm, pa, pc, ps, ka, kc, ks⟩ := n
  have hl : ∀ (r : List Nd), (∀ k ∈ r, k ∈ ks) → (nodeL l r).length ≤ heftL r := by
    intro r
    induction r with
    | nil => intro _; simp [nodeL]
    | cons k r ihr =>
      intro hr
      have h1 := ih k (hr k (by simp))
      have h2 := ihr (fun x hx => hr x (by simp [hx]))
      simp only [nodeL, heftL, List.length_append]
      omega
  have h1 := hl ks (fun _ h => h)
  have h2 := props_length l ps
  have h3 := padN_lt (strB nm ++ [0]).length
  simp only [nodeN, heftN, List.length_append, padL_length, List.length_cons, List.length_nil] at h3 ⊢
  rw [strB_length] at h3 ⊢
  omega
theorem nodeL_length (l : List ByteArray) : ∀ ks : List Nd, (nodeL l ks).length ≤ heftL ks
  | [] => by simp [nodeL]
  | k :: r => by
    have h1 := nodeN_length l k
    have h2 := nodeL_length l r
    simp only [nodeL, heftL, List.length_append]
    omega

/-- Behind a node's first statement. -/
def First (B : Nat) (W0 W : World) (nm : ByteArray) (v : Value) : Prop := Mid B W0 W v ([0, 0, 0, 1] ++ padL (strB nm ++ [0]))

set_option maxRecDepth 100000 in
set_option maxHeartbeats 8000000 in
theorem node_any (l : List ByteArray) : ∀ (n : Nd) (la : Option Addr) (ll lc : Nat) (w : World), n.In w w.heap.size → TRow w w.heap.size la l → l.length = ll → ll ≤ lc → lc ≤ 9223372036854775807 → heftN n ≤ 4294967295 → textSize l ≤ 4294967295 →
    Calls Try.prog 27 #[n.val, .slice la ll lc, .int .i64 0] w fun e w' => ∃ v, e = .returned v ∧ w'.ownsRow w.heap.size 5 1 v (nodeN l n).length (u8s (nodeN l n)) ∧ Below w.heap.size w w' ∧ ∀ z ∈ nodeN l n, 0 ≤ z ∧ z < 256 := by
  refine Nd.ind ?_
  intro n ih la ll lc w hin htr hll hlc hlm hheft htz
  obtain ⟨nm, pa, pc, ps, ka, kc, ks⟩ := n
  have HI := Lib.hid hin
  have IH := Lib.hid ih
  have HT := Lib.hid htr
  have HLL := Lib.hid hll
  obtain ⟨hl, hm⟩ : ks.length ≤ kc ∧ kc ≤ 9223372036854775807 := hin.klen
  obtain ⟨hl2, hm2⟩ : ps.length ≤ pc ∧ pc ≤ 9223372036854775807 := hin.plen
  have hnm : nm.size ≤ 140737488351200 := by simp only [heftN] at hheft; omega
  have hheft2 : 16 + nm.size + (ps.map heftP).sum + heftL ks ≤ 4294967295 := by simpa only [heftN] using hheft
  clear hin ih htr hll hheft
  show Calls _ _ #[.agg #[.string nm, .slice pa ps.length pc, .slice ka ks.length kc], .slice la ll lc, .int .i64 0] _ _
  have HB0 := Lib.hid ((Below.refl w.heap.size w).alloc (Nat.le_refl _) (.cells #[.string nm, .slice pa ps.length pc, .slice ka ks.length kc] 38))
  have x0 : ∀ W, Below (w.heap.size + 1) (w.alloc (.cells #[.string nm, .slice pa ps.length pc, .slice ka ks.length kc] 38)) W → W.cell? ⟨w.heap.size, 0, none⟩ = some (.string nm) ∧ W.cell? ⟨w.heap.size, 1, none⟩ = some (.slice pa ps.length pc) ∧ W.cell? ⟨w.heap.size, 2, none⟩ = some (.slice ka ks.length kc) := fun W h =>
    ⟨(h.cell (Nat.lt_succ_self _)).trans (World.cell?_alloc_new _ _ _ _), (h.cell (Nat.lt_succ_self _)).trans (World.cell?_alloc_new _ _ _ _), (h.cell (Nat.lt_succ_self _)).trans (World.cell?_alloc_new _ _ _ _)⟩
  have BX := Lib.hid x0
  clear x0
  go_enter Try.func27, Try.ntmps27
  go_wp2_with fail
  go_loop [7, 13] (fun sk i => sk = .slice none 0 0 ∧ i = .int .i64 0) (fun _ _ => 0)
  case atStart => exact ⟨rfl, rfl⟩
  case round =>
    obtain ⟨rfl, rfl⟩ := hrel
    go_wp2_with fail
    refine code_cut (R := fun a' W => ∃ v u19 u20 u21 u22 u23 u24 u25 u26 u27 u28 u29 u30, a' = { tmps := #[.agg #[.string nm, .slice pa ps.length pc, .slice ka ks.length kc], .slice la ll lc, .int .i64 0, .pointer (some ⟨w.heap.size, 0, none⟩), undef, undef, .slice none 0 0, .slice none 0 0, v, undef, undef, undef, .int .i64 0, .int .i64 0, .bool false, u15, u16, u17, u18, u19, u20, u21, u22, u23, u24, u25, u26, u27, u28, u29, u30, undef, undef, undef, undef, undef, undef, undef, undef, undef, undef, undef, undef, undef, undef, undef, undef, undef, undef, undef, undef, undef, undef, undef, undef, undef, undef, undef, undef, undef, undef, undef, undef, undef, undef, undef, undef, undef, undef, undef, undef, undef, undef, undef, undef, undef, undef, undef, undef, undef, undef, undef, undef, undef, undef, undef, undef], defers := [] } ∧ First (w.heap.size + 1) (w.alloc (.cells #[.string nm, .slice pa ps.length pc, .slice ka ks.length kc] 38)) W nm v) ?first ?rest
    case first =>
      refine wp_region_held_drew (S := fun W => W.cell? ⟨w.heap.size, 0, none⟩ = some (.string nm)) (by kernel_rfl) (BX.out _ (Below.refl _ _)).1 (fun hHeld => ?_)
      refine held_take 1 rfl (by kernel_rfl) (by kernel_rfl) (by kernel_rfl) (fun _ _ _ h => absurd h.1 (by intro h'; cases h')) (by rfl) hHeld (v := ?_) (fun w hSw => ?_) (fun _ => ?_)
      rotate_left
      · ((try dsimp only at hSw); go_simp; (try with_reducible rfl))
      simp only [Act.put, List.setIfInBounds_toArray, List.set_cons_zero, List.set_cons_succ]
      refine held_take 5 rfl (by kernel_rfl) (by kernel_rfl) (by kernel_rfl) (fun _ _ _ h => absurd h.1 (by intro h'; cases h')) (by rfl) hHeld (v := ?_) (fun w hSw => ?_) (fun _ => ?_)
      rotate_left
      · ((try dsimp only at hSw); go_simp; (try with_reducible rfl))
      simp only [Act.put, List.setIfInBounds_toArray, List.set_cons_zero, List.set_cons_succ]
      refine held_take 6 rfl (by kernel_rfl) (by kernel_rfl) (by kernel_rfl) (fun _ _ _ h => absurd h.1 (by intro h'; cases h')) (by rfl) hHeld (v := ?_) (fun w hSw => ?_) (fun _ => ?_)
      rotate_left
      · ((try dsimp only at hSw); go_simp; (try with_reducible rfl))
      simp only [Act.put, List.setIfInBounds_toArray, List.set_cons_zero, List.set_cons_succ]
      refine phase0 (I := fun a0 n L a W => ∃ b0 b2 b3 b4 b7 b8 u19 u21 u22 u23 u26 u27, L = #[b0, true, b2, b3, b4, true, true, b7, b8, false, false, false, false] ∧ n + (b0.toNat + b2.toNat + b3.toNat + b4.toNat + b7.toNat + b8.toNat) = 10 ∧ a = Six a0 u19 u21 u22 u23 u26 u27 ∧ NF (w.alloc (.cells #[.string nm, .slice pa ps.length pc, .slice ka ks.length kc] 38)) W (w.heap.size + 1) nm b0 b2 b3 b4 b7 b8 u19 u21 u22 u23 u26 u27) ?_ ?_
      · exact ⟨false, false, false, false, false, false, undef, undef, undef, undef, undef, undef, rfl, rfl, rfl, NF.start (Below.refl _ _).drew (by simp)⟩
      · rintro n L a W ⟨b0, b2, b3, b4, b7, b8, u19, u21, u22, u23, u26, u27, rfl, hn, rfl, hnf⟩ hih
        by_cases hall : (b0 && b2 && b3 && b4 && b7 && b8) = true
        · simp only [Bool.and_eq_true] at hall
          obtain ⟨⟨⟨⟨⟨rfl, rfl⟩, rfl⟩, rfl⟩, rfl⟩, rfl⟩ := hall
          obtain rfl : n = 4 := by simp only [Bool.toNat_true] at hn; omega
          obtain ⟨A, c, g, W1, hrun, hsh, hgr, hgB, hne⟩ := run_append_marked W (w.heap.size + 1) nm u26 (hnf.f7 rfl) hnf.size hnm u27 (hnf.f8 rfl) 26
          have hM : Mid (w.heap.size + 1) (w.alloc (.cells #[.string nm, .slice pa ps.length pc, .slice ka ks.length kc] 38)) W1 u23 [0, 0, 0, 1] := ⟨(hnf.f4 rfl).kept hgr (own_ne (hnf.f4 rfl) hne), hnf.below.grown hgr hnf.size (fun q hq => by injection hq with hq; omega), Nat.le_trans hnf.size hgr.size, by simp⟩
          clear hgr hgB hne hnf hih hn
          simp only [Six, Act.put, List.setIfInBounds_toArray, List.set_cons_zero, List.set_cons_succ]
          refine held_call 9 (by kernel_rfl) rfl (by rfl) (fun K hK => ?_)
          refine Lib.wp_append_run_sl _ _ _ _ rfl _ _ rfl rfl hrun ?_
          refine hK.out _ _ (BX.out _ hM.2.1).1 (fun _ => ?_)
          clear hK K hrun
          simp only [Act.put, List.setIfInBounds_toArray, List.set_cons_zero, List.set_cons_succ]
          refine held_call 10 (by kernel_rfl) rfl (by rfl) (fun K hK => ?_)
          go_simp
          refine (padded_any A (nm.size + 1) c _ W1 hsh (by omega)).mono ?_
          rintro e W2 ⟨A2, m2, c2, rfl, hsh2, hb2⟩
          have hM2 := hM.on hb2
          obtain ⟨v3, W3, hrun3, hM3, _⟩ := hM2.append c2 hsh2 (by rw [padL_length]; have := padN_lt (strB nm ++ [0]).length; simp only [List.length_append, strB_length, List.length_cons, List.length_nil] at this ⊢; omega) 26
          dsimp only
          refine hK.out _ _ (BX.out _ hM2.2.1).1 (fun _ => ?_)
          clear hK K hsh
          refine held_call 11 (by kernel_rfl) rfl (by rfl) (fun K hK => ?_)
          refine Lib.wp_append_run_sl _ _ _ _ rfl _ _ rfl rfl hrun3 ?_
          refine hK.out _ _ (BX.out _ hM3.2.1).1 (fun hHeld3 => ?_)
          clear hK K
          simp only [Act.put, List.setIfInBounds_toArray, List.set_cons_zero, List.set_cons_succ]
          refine held_take 12 rfl (by kernel_rfl) (by kernel_rfl) (by kernel_rfl) (fun _ _ _ h => absurd h.1 (by intro h'; cases h')) (by rfl) hHeld3 (v := ?_) (fun w hSw => ?_) (fun _ => ?_)
          rotate_left
          · ((try dsimp only at hSw); go_simp; (try with_reducible rfl))
          simp only [Act.put, List.setIfInBounds_toArray, List.set_cons_zero, List.set_cons_succ]
          refine wpAnyH_done (by kernel_rfl) ?_ _
          exact ⟨rfl, _, _, _, _, _, _, _, _, _, _, _, _, _, rfl, hM3⟩
        · have t0 := b0.toNat_le
          have t2 := b2.toNat_le
          have t3 := b3.toNat_le
          have t4 := b4.toNat_le
          have t7 := b7.toNat_le
          have t8 := b8.toNat_le
          obtain ⟨m, rfl⟩ : ∃ m, n = m + 1 := ⟨n - 1, by omega⟩
          refine any_step ?_ ?_
          · cases b0 <;> cases b2 <;> cases b3 <;> cases b4 <;> cases b7 <;> cases b8 <;> first | exact absurd rfl hall | exact ready_ne (by kernel_rfl)
          · intro i hi
            have hlt : i < 13 := ready_lt hi
            rcases (by omega : i = 0 ∨ i = 1 ∨ i = 2 ∨ i = 3 ∨ i = 4 ∨ i = 5 ∨ i = 6 ∨ i = 7 ∨ i = 8 ∨ i = 9 ∨ i = 10 ∨ i = 11 ∨ i = 12) with rfl | rfl | rfl | rfl | rfl | rfl | rfl | rfl | rfl | rfl | rfl | rfl | rfl
            · obtain rfl : b0 = false := not_come hi
              have hnf' := hnf.op0
              refine one_op rfl rfl (fun K hK => ?_)
              refine wp_run (v := .slice (some ⟨W.heap.size, 0, none⟩) 0 0) (w' := W.alloc (.cells #[] 5)) (by go_simp) ?_
              exact hK.out _ _ (BX.out _ hnf'.below).1 (fun _ => hih m (by omega) _ _ _ ⟨true, b2, b3, b4, b7, b8, _, _, _, _, _, _, rfl, (by simp only [Bool.toNat_true, Bool.toNat_false] at hn ⊢; omega), six19 _ _ _ _ _ _ _ _, hnf'⟩)
            · exact absurd (show true = false from not_come hi) (by decide)
            · obtain rfl : b2 = false := not_come hi
              obtain rfl : b0 = true := came (j := 0) (g := .data) rfl hi (by simp) (by rfl)
              have hnf' := hnf.op2
              have hrun := run_append_nil0 W u19 (hnf.f0 rfl) 26
              refine one_op rfl rfl (fun K hK => ?_)
              refine Lib.wp_append_run_sl _ _ _ _ rfl _ _ (six_at19 _ _ _ _ _ _ _ (show 19 < 87 by omega)) ((six_far _ _ _ _ _ _ _ 20 (by decide) (by decide) (by decide) (by decide) (by decide) (by decide)).trans rfl) hrun ?_
              exact hK.out _ _ (BX.out _ hnf'.below).1 (fun _ => hih m (by omega) _ _ _ ⟨true, true, b3, b4, b7, b8, _, _, _, _, _, _, rfl, (by simp only [Bool.toNat_true, Bool.toNat_false] at hn ⊢; omega), six21 _ _ _ _ _ _ _ _, hnf'⟩)
            · obtain rfl : b3 = false := not_come hi
              have hnf' := hnf.op3
              refine one_op rfl rfl (fun K hK => ?_)
              refine wp_run (v := .slice (some ⟨W.heap.size, 0, none⟩) 4 4) (w' := W.alloc (.cells #[.int .u8 0, .int .u8 0, .int .u8 0, .int .u8 1] 5)) (by go_simp) ?_
              exact hK.out _ _ (BX.out _ hnf'.below).1 (fun _ => hih m (by omega) _ _ _ ⟨b0, b2, true, b4, b7, b8, _, _, _, _, _, _, rfl, (by simp only [Bool.toNat_true, Bool.toNat_false] at hn ⊢; omega), six22 _ _ _ _ _ _ _ _, hnf'⟩)
            · obtain rfl : b4 = false := not_come hi
              obtain rfl : b2 = true := came (j := 2) (g := .data) rfl hi (by simp) (by rfl)
              obtain rfl : b3 = true := came (j := 3) (g := .data) rfl hi (by simp) (by rfl)
              obtain ⟨v', W', hrun, hnf'⟩ := hnf.op4 26
              refine one_op rfl rfl (fun K hK => ?_)
              refine Lib.wp_append_run_sl _ _ _ _ rfl _ _ (six_at21 _ _ _ _ _ _ _ (show 21 < 87 by omega)) (six_at22 _ _ _ _ _ _ _ (show 22 < 87 by omega)) hrun ?_
              exact hK.out _ _ (BX.out _ hnf'.below).1 (fun _ => hih m (by omega) _ _ _ ⟨b0, true, true, true, b7, b8, _, _, _, _, _, _, rfl, (by simp only [Bool.toNat_true, Bool.toNat_false] at hn ⊢; omega), six23 _ _ _ _ _ _ _ _, hnf'⟩)
            · exact absurd (show true = false from not_come hi) (by decide)
            · exact absurd (show true = false from not_come hi) (by decide)
            · obtain rfl : b7 = false := not_come hi
              obtain ⟨v', W', hrun, hnf'⟩ := hnf.op7 (by omega)
              refine one_op rfl rfl (fun K hK => ?_)
              (with_reducible refine wp_run (v := v') (w' := W') ?_ ?_)
              · refine conv_run (x := .string nm) ?_ hrun
                exact ((six_far _ _ _ _ _ _ _ 25 (by decide) (by decide) (by decide) (by decide) (by decide) (by decide)).trans rfl)
              exact hK.out _ _ (BX.out _ hnf'.below).1 (fun _ => hih m (by omega) _ _ _ ⟨b0, b2, b3, b4, true, b8, _, _, _, _, _, _, rfl, (by simp only [Bool.toNat_true, Bool.toNat_false] at hn ⊢; omega), six26 _ _ _ _ _ _ _ _, hnf'⟩)
            · obtain rfl : b8 = false := not_come hi
              have hnf' := hnf.op8
              refine one_op rfl rfl (fun K hK => ?_)
              refine wp_run (v := .slice (some ⟨W.heap.size, 0, none⟩) 1 1) (w' := W.alloc (.cells #[.int .u8 0] 5)) (by go_simp) ?_
              exact hK.out _ _ (BX.out _ hnf'.below).1 (fun _ => hih m (by omega) _ _ _ ⟨b0, b2, b3, b4, b7, true, _, _, _, _, _, _, rfl, (by simp only [Bool.toNat_true, Bool.toNat_false] at hn ⊢; omega), six27 _ _ _ _ _ _ _ _, hnf'⟩)
            · obtain rfl : b7 = true := came (j := 7) (g := .data) rfl hi (by simp) (by rfl)
              obtain rfl : b8 = true := came (j := 8) (g := .data) rfl hi (by simp) (by rfl)
              obtain rfl : b4 = true := came (j := 4) (g := .chain) rfl hi (by simp) (by rfl)
              obtain rfl := hnf.i42 rfl
              obtain rfl := hnf.i43 rfl
              obtain rfl := hnf.i20 rfl
              exact absurd rfl hall
            · exact absurd (show false = true from came (j := 9) (g := .data) rfl hi (by simp) (by rfl)) (by decide)
            · exact absurd (show false = true from came (j := 10) (g := .data) rfl hi (by simp) (by rfl)) (by decide)
            · exact absurd (show false = true from came (j := 11) (g := .data) rfl hi (by simp) (by rfl)) (by decide)
    case rest =>
      rintro a' W1 ⟨v, u19, u20, u21, u22, u23, u24, u25, u26, u27, u28, u29, u30, rfl, hF⟩
      have hF' : Mid (w.heap.size + 1) (w.alloc (.cells #[.string nm, .slice pa ps.length pc, .slice ka ks.length kc] 38)) W1 v ([0, 0, 0, 1] ++ padL (strB nm ++ [0])) := hF
      obtain ⟨x0, x1, x2⟩ := BX.out _ hF'.2.1
      have HF := Lib.hid hF'
      have hlz0 : ([0, 0, 0, 1] ++ padL (strB nm ++ [0])).length ≤ 8 + nm.size := by have := padN_lt (strB nm ++ [0]).length; simp only [padL_length, List.length_append, strB_length, List.length_cons, List.length_nil] at this ⊢; omega
      have HLZ := Lib.hid hlz0
      generalize hZ : ([0, 0, 0, 1] ++ padL (strB nm ++ [0])) = Z at HF HLZ
      have HZ := Lib.hid hZ
      have HBW := Lib.hid (fun W (h : Below (w.heap.size + 1) (w.alloc (.cells #[.string nm, .slice pa ps.length pc, .slice ka ks.length kc] 38)) W) => HB0.out.trans (h.mono (Nat.le_succ _)))
      have HTW := Lib.hid (fun W (h : Below (w.heap.size + 1) (w.alloc (.cells #[.string nm, .slice pa ps.length pc, .slice ka ks.length kc] 38)) W) => HT.out.under (HBW.out W h))
      clear hF hF' hlz0 hZ
      go_wp2_with fail
      go_loopw [8, 34] (fun v i wr => ∃ k : Nat, k ≤ ps.length ∧ i = .int .i64 k ∧ Mid (w.heap.size + 1) (w.alloc (.cells #[.string nm, .slice pa ps.length pc, .slice ka ks.length kc] 38)) wr v (Z ++ (ps.take k).flatMap (propT l))) (fun _ i _ => ps.length - (intOf i).toNat)
      case atStart => exact ⟨0, Nat.zero_le _, rfl, by simpa using HF.out⟩
      case round =>
        obtain ⟨k, hk, rfl, hmid⟩ := hrel
        obtain ⟨x0, x1, x2⟩ := BX.out _ hmid.2.1
        have HM := Lib.hid hmid
        have hbw := HBW.out _ hmid.2.1
        by_cases hlt : k < ps.length
        · obtain ⟨b, o, e, hb, c0, c1⟩ := (HI.out.under hbw).pcell (i := k) hlt
          have HPI := Lib.hid (fun W (h : Below (w.heap.size + 1) (w.alloc (.cells #[.string nm, .slice pa ps.length pc, .slice ka ks.length kc] 38)) W) => show ps[k].In W w.heap.size from (HI.out.under (HBW.out W h)).prop (List.getElem_mem hlt))
          obtain rfl : pa = _ := e
          have HNX := Lib.hid (props_next l ps k hlt)
          have hP : (Z ++ (ps.take k).flatMap (propT l)).length + (propT l ps[k]).length ≤ 8589934592 := by
            have h1 := props_length l (ps.take (k + 1))
            have h2 := heftP_take ps (k + 1)
            have h3 := HLZ.out
            rw [props_next l ps k hlt, List.length_append] at h1
            simp only [List.length_append] at h1 ⊢
            omega
          have hpl : ps[k].zs.length ≤ 4294967295 := by
            have h1 := heftP_next ps k hlt
            have h2 := heftP_take ps (k + 1)
            have h3 : heftP ps[k] = 16 + ps[k].name.size + ps[k].zs.length := rfl
            omega
          replace c0 : _ = some (Value.string ps[k].name) := c0
          replace c1 : _ = some (Value.slice ps[k].addr ps[k].zs.length ps[k].cap) := c1
          generalize hp : ps[k] = p at *
          generalize (ps.take k).flatMap (propT l) = ys at *
          clear hmid hp hbw
          obtain ⟨s, ad, cp, zs⟩ := p
          replace hpl : zs.length ≤ 4294967295 := hpl
          replace c0 : _ = some (Value.string s) := c0
          replace c1 : _ = some (Value.slice ad zs.length cp) := c1
          have hlen : (propT l ⟨s, ad, cp, zs⟩).length = 12 + (padL zs).length := by simp only [propT, List.length_append, four, List.length_cons, List.length_nil]; omega
          rw [hlen] at hP
          have hM1 := HM.out.on ((Below.refl _ _).alloc (Nat.le_refl _) (.cells #[.string s, .slice ad zs.length cp] 52))
          have hO1 := Other.new wr #[.string s, .slice ad zs.length cp] 52 (by decide)
          obtain ⟨v1, w1, hrun1, hM2, hk2⟩ := hM1.append (B' := 0) 0 (Shows.nil _ _) (by simp only [List.length_nil]; omega) 26
          have hO2 := hk2 _ _ _ hO1
          have hM3 := hM2.on ((Below.refl _ _).alloc (Nat.le_refl _) (.cells #[.int .u8 0, .int .u8 0, .int .u8 0, .int .u8 3] 5))
          have hO3 := hO2.on ((Below.refl _ _).alloc (Nat.le_refl _) (.cells #[.int .u8 0, .int .u8 0, .int .u8 0, .int .u8 3] 5))
          obtain ⟨v2, w2, hrun2, hM4, hk4⟩ := hM3.append 4 (four_new w1 0 0 0 3 (by simp)) (by simp only [List.length_append, List.length_cons, List.length_nil] at hP ⊢; omega) 26
          have hO4 := hk4 _ _ _ hO3
          have HM4 := Lib.hid (And.intro hM4.drew hO4)
          have y0 := hO4.cell 0
          have y1 := hO4.cell 1
          replace y0 : _ = some (Value.string s) := y0
          replace y1 : _ = some (Value.slice ad zs.length cp) := y1
          have HP := Lib.hid hP
          clear hM1 hO1 hM2 hk2 hO2 hM3 hO3 hM4 hk4 hO4 hlen hP
          go_wp2_with (at_builtin; first | (refine Lib.wpList_append_run_sl _ rfl _ _ _ rfl _ _ rfl rfl hrun1 ?_) | (refine Lib.wpList_append_run_sl _ rfl _ _ _ rfl _ _ rfl rfl hrun2 ?_))
          refine wp_region_held_drew (S := fun W => W.cell? ⟨wr.heap.size, 0, none⟩ = some (.string s) ∧ W.cell? ⟨wr.heap.size, 1, none⟩ = some (.slice ad zs.length cp)) (by kernel_rfl) ⟨y0, y1⟩ (fun hHeld => ?_)
          clear hrun1 hrun2
          refine held_take 0 rfl (by kernel_rfl) (by kernel_rfl) (by kernel_rfl) (fun _ _ _ h => h) (by rfl) hHeld (v := ?_) (fun w hSw => ?_) (fun _ => ?_)
          rotate_left
          · ((try dsimp only at hSw); go_simp; (try with_reducible rfl))
          simp only [Act.put, List.setIfInBounds_toArray, List.set_cons_zero, List.set_cons_succ]
          refine held_take 1 rfl (by kernel_rfl) (by kernel_rfl) (by kernel_rfl) (fun _ _ _ h => h) (by rfl) hHeld (v := ?_) (fun w hSw => ?_) (fun _ => ?_)
          rotate_left
          · ((try dsimp only at hSw); go_simp; (try with_reducible rfl))
          simp only [Act.put, List.setIfInBounds_toArray, List.set_cons_zero, List.set_cons_succ]
          refine held_take 2 rfl (by kernel_rfl) (by kernel_rfl) (by kernel_rfl) (fun _ _ _ h => h) (by rfl) hHeld (v := ?_) (fun w hSw => ?_) (fun _ => ?_)
          rotate_left
          · ((try dsimp only at hSw); go_simp; (try with_reducible rfl))
          simp only [Act.put, List.setIfInBounds_toArray, List.set_cons_zero, List.set_cons_succ]
          refine held_take 3 rfl (by kernel_rfl) (by kernel_rfl) (by kernel_rfl) (fun _ _ _ h => h) (by rfl) hHeld (v := ?_) (fun w hSw => ?_) (fun _ => ?_)
          rotate_left
          · ((try dsimp only at hSw); go_simp; (try with_reducible rfl))
          simp only [Act.put, List.setIfInBounds_toArray, List.set_cons_zero, List.set_cons_succ]
          refine held_take 6 rfl (by kernel_rfl) (by kernel_rfl) (by kernel_rfl) (fun _ _ _ h => h) (by rfl) hHeld (v := ?_) (fun w hSw => ?_) (fun _ => ?_)
          rotate_left
          · ((try dsimp only at hSw); go_simp; (try with_reducible rfl))
          simp only [Act.put, List.setIfInBounds_toArray, List.set_cons_zero, List.set_cons_succ]
          refine held_take 7 rfl (by kernel_rfl) (by kernel_rfl) (by kernel_rfl) (fun _ _ _ h => h) (by rfl) hHeld (v := ?_) (fun w hSw => ?_) (fun _ => ?_)
          rotate_left
          · ((try dsimp only at hSw); go_simp; (try with_reducible rfl))
          simp only [Act.put, List.setIfInBounds_toArray, List.set_cons_zero, List.set_cons_succ]
          refine held_take 8 rfl (by kernel_rfl) (by kernel_rfl) (by kernel_rfl) (fun _ _ _ h => h) (by rfl) hHeld (v := ?_) (fun w hSw => ?_) (fun _ => ?_)
          rotate_left
          · ((try dsimp only at hSw); go_simp; (try with_reducible rfl))
          simp only [Act.put, List.setIfInBounds_toArray, List.set_cons_zero, List.set_cons_succ]
          refine held_call 4 (by kernel_rfl) rfl (by rfl) (fun K hK => ?_)
          go_simp
          refine (doccell_any zs.length _ hpl).mono ?_
          rintro e w3 ⟨g1, rfl, hs1, hb1⟩
          have hM5 := HM4.out.1.on hb1
          have hO5 := Other.on (W := w2.drew) HM4.out.2 hb1
          dsimp only
          refine hK.out _ _ ⟨hO5.cell 0, hO5.cell 1⟩ (fun _ => ?_)
          clear hK K
          obtain ⟨v6, w6, hrun6, hM6, hk6⟩ := hM5.append 4 hs1 (by have := HP.out; simp only [List.length_append, List.length_cons, List.length_nil, four] at this ⊢; omega) 26
          have hO6 := hk6 _ _ _ hO5
          clear hk6 hs1 hb1
          refine held_call 5 (by kernel_rfl) rfl (by rfl) (fun K hK => ?_)
          refine Lib.wp_append_run_sl _ _ _ _ rfl _ _ rfl rfl hrun6 ?_
          refine hK.out _ _ ⟨hO6.cell 0, hO6.cell 1⟩ (fun hHeld => ?_)
          clear hK K hrun6
          simp only [Act.put, List.setIfInBounds_toArray, List.set_cons_zero, List.set_cons_succ]
          refine held_call 9 (by kernel_rfl) rfl (by rfl) (fun K hK => ?_)
          go_simp
          refine (where_any la ll lc l s _ w.heap.size (HTW.out _ hM6.2.1) HLL.out hlc hlm (by omega)).mono ?_
          rintro e w7 ⟨rfl, rfl⟩
          dsimp only
          refine hK.out _ _ ⟨hO6.cell 0, hO6.cell 1⟩ (fun hHeld => ?_)
          clear hK K
          refine held_call 10 (by kernel_rfl) rfl (by rfl) (fun K hK => ?_)
          go_simp
          refine (doccell_any (whereL l s) _ (Nat.le_trans (whereL_le l s) htz)).mono ?_
          rintro e w8 ⟨g2, rfl, hs2, hb2⟩
          have hM8 := hM6.on hb2
          have hO8 := hO6.on hb2
          dsimp only
          refine hK.out _ _ ⟨hO8.cell 0, hO8.cell 1⟩ (fun _ => ?_)
          clear hK K
          obtain ⟨v9, w9, hrun9, hM9, hk9⟩ := hM8.append 4 hs2 (by have := HP.out; simp only [List.length_append, List.length_cons, List.length_nil, four] at this ⊢; omega) 26
          have hO9 := hk9 _ _ _ hO8
          clear hk9 hs2 hb2 hM5 hM6 hO6 hO5
          refine held_call 11 (by kernel_rfl) rfl (by rfl) (fun K hK => ?_)
          refine Lib.wp_append_run_sl _ _ _ _ rfl _ _ rfl rfl hrun9 ?_
          refine hK.out _ _ ⟨hO9.cell 0, hO9.cell 1⟩ (fun hHeld => ?_)
          clear hK K hrun9 hM8 hO8 y0 y1
          simp only [Act.put, List.setIfInBounds_toArray, List.set_cons_zero, List.set_cons_succ]
          refine held_take 12 rfl (by kernel_rfl) (by kernel_rfl) (by kernel_rfl) (fun _ _ _ h => h) (by rfl) hHeld (v := ?_) (fun w hSw => ?_) (fun _ => ?_)
          rotate_left
          · ((try dsimp only at hSw); go_simp; (try with_reducible rfl))
          simp only [Act.put, List.setIfInBounds_toArray, List.set_cons_zero, List.set_cons_succ]
          refine wpAnyH_done (by kernel_rfl) ?_ _
          have z0 := hO9.cell 0
          have z1 := hO9.cell 1
          replace z0 : _ = some (Value.string s) := z0
          replace z1 : _ = some (Value.slice ad zs.length cp) := z1
          have hsv := (HPI.out _ hM9.2.1).2.1
          replace hsv : Shows w9 w.heap.size ad zs.length zs := hsv
          have hpd := padded_any ad zs.length cp zs w9 (hsv.more (Nat.le_trans (Nat.le_succ _) hM9.2.2.1)) (by omega)
          have HM9 := Lib.hid hM9
          have HPD := Lib.hid hpd
          clear hO9 hsv hpd hM9 HM4 c0 c1
          go_wp2_with fail
          refine HPD.out.mono ?_
          rintro e w10 ⟨A10, m10, c10, rfl, hs10, hb10⟩
          have hM10 := HM9.out.on hb10
          obtain ⟨v11, w11, hrun11, hM11, _⟩ := hM10.append c10 hs10 (by have := HP.out; simp only [List.length_append, List.length_cons, List.length_nil, four] at this ⊢; omega) 26
          have HM11 := Lib.hid hM11
          clear hM10 hM11 hs10 hb10 z0 z1
          go_wp2_with (at_builtin; refine Lib.wpList_append_run_sl _ rfl _ _ _ rfl _ _ rfl rfl hrun11 ?_)
          clear hrun11
          go_roundw
          case rel => exact ⟨k + 1, by omega, by go_num, by
            have e : Z ++ (ys ++ propT l ⟨s, ad, cp, zs⟩) = ((((((Z ++ ys) ++ []) ++ [0, 0, 0, 3]) ++ four zs.length) ++ four (whereL l s)) ++ padL zs) := by simp [propT, List.append_assoc]
            rw [HNX.out, e]; exact HM11.out⟩
          case measure => simp [intOf]; omega
        · obtain rfl : k = ps.length := by omega
          have hte : ps.take ps.length = ps := List.take_length
          rw [hte] at HM
          have HZP := Lib.hid (show (Z ++ ps.flatMap (propT l)).length ≤ 8 + nm.size + (ps.map heftP).sum by
            have h1 := props_length l ps
            have h3 := HLZ.out
            rw [List.length_append]
            omega)
          generalize hY : Z ++ ps.flatMap (propT l) = Y at HM HZP
          have HY := Lib.hid hY
          clear hmid hbw hte hY x0 x1
          go_wp2_with fail
          go_loopw [8, 68] (fun v i wr => ∃ k : Nat, k ≤ ks.length ∧ i = .int .i64 k ∧ Mid (w.heap.size + 1) (w.alloc (.cells #[.string nm, .slice pa ps.length pc, .slice ka ks.length kc] 38)) wr v (Y ++ nodeL l (ks.take k))) (fun _ i _ => ks.length - (intOf i).toNat)
          case atStart => exact ⟨0, Nat.zero_le _, rfl, by simpa [nodeL] using HM.out⟩
          case round =>
            obtain ⟨k, hk, rfl, hmid⟩ := hrel
            obtain ⟨x0, x1, x2⟩ := BX.out _ hmid.2.1
            have HM := Lib.hid hmid
            have hbw := HBW.out _ hmid.2.1
            by_cases hlt : k < ks.length
            · obtain ⟨b, o, e, hb, c0, c1, c2⟩ := (HI.out.under hbw).kcell (i := k) hlt
              obtain rfl : ka = _ := e
              replace c0 : _ = some (Value.string ks[k].name) := c0
              replace c1 : _ = some (Value.slice ks[k].pa ks[k].props.length ks[k].pc) := c1
              replace c2 : _ = some (Value.slice ks[k].ka ks[k].kids.length ks[k].kc) := c2
              have hheftk : heftL (ks.take k) + heftN ks[k] ≤ heftL ks := by
                have h1 := heftL_next ks k hlt
                have h2 := heftL_take ks (k + 1)
                omega
              have HKL := Lib.hid (show (Y ++ nodeL l (ks.take k)).length + (nodeN l ks[k]).length ≤ 140737488351232 by
                have h1 := nodeL_length l (ks.take k)
                have h2 := nodeN_length l ks[k]
                have h3 := HZP.out
                rw [List.length_append]
                omega)
              have HC := Lib.hid (IH.out ks[k] (List.getElem_mem hlt) la ll lc wr (((HI.out.under hbw).kid (List.getElem_mem hlt)).more hbw.size) ((HTW.out _ hmid.2.1).more hbw.size) HLL.out hlc hlm (by omega) htz)
              have HNX := Lib.hid (nodeL_next l ks k hlt)
              clear hmid hbw
              go_wp2_with fail
              refine HC.out.mono ?_
              rintro e w3 ⟨v3, rfl, hown3, hb3, hz3⟩
              obtain ⟨A3, c3, rfl, hs3, _, _⟩ := owned_shows hown3 hz3
              obtain ⟨v4, w4, hrun4, hM4, _⟩ := (HM.out.on hb3).append c3 hs3 HKL.out 26
              have HM4 := Lib.hid hM4
              clear hown3 hb3 hs3 hM4
              go_wp2_with (at_builtin; refine Lib.wpList_append_run_sl _ rfl _ _ _ rfl _ _ rfl rfl hrun4 ?_)
              clear hrun4
              go_roundw
              case rel => exact ⟨k + 1, by omega, by go_num, by rw [HNX.out, ← List.append_assoc]; exact HM4.out⟩
              case measure => simp [intOf]; omega
            · obtain rfl : k = ks.length := by omega
              have hte : ks.take ks.length = ks := List.take_length
              rw [hte] at HM
              have hYL : (Y ++ nodeL l ks).length ≤ 8589934592 := by
                have h1 := nodeL_length l ks
                have h3 := HZP.out
                rw [List.length_append]
                omega
              obtain ⟨v1, w1, hrun1, hM2, _⟩ := HM.out.append (B' := 0) 0 (Shows.nil _ _) (by simp only [List.length_nil]; omega) 26
              have hM3 := hM2.on ((Below.refl _ _).alloc (Nat.le_refl _) (.cells #[.int .u8 0, .int .u8 0, .int .u8 0, .int .u8 2] 5))
              obtain ⟨v2, w2, hrun2, hM4, _⟩ := hM3.append 4 (four_new w1 0 0 0 2 (by simp)) (by rw [List.append_nil]; simp only [List.length_cons, List.length_nil] at hYL ⊢; omega) 26
              have HM4 := Lib.hid hM4
              have HE := Lib.hid (show nodeN l (.mk nm pa pc ps ka kc ks) = ((Y ++ nodeL l ks) ++ []) ++ [0, 0, 0, 2] by rw [nodeN, HZ.out, HY.out]; simp)
              clear hmid hbw hte hM2 hM3 hM4 x0 x1 x2
              go_wp2_with (at_builtin; first | (refine Lib.wpList_append_run_sl _ rfl _ _ _ rfl _ _ rfl rfl hrun1 ?_) | (refine Lib.wpList_append_run_sl _ rfl _ _ _ rfl _ _ rfl rfl hrun2 ?_))
              go_ret
              refine ⟨_, rfl, ?_, HBW.out _ HM4.out.2.1, ?_⟩
              · rw [HE.out]
                exact own_base HM4.out.1 (Nat.le_succ _)
              · rw [HE.out]
                exact HM4.out.2.2.2
end Go.Proofs.Ytnopcnbeklbfoaa
