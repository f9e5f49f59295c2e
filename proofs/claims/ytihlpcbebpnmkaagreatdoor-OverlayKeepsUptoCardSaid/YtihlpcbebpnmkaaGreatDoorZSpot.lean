/-
  Layer 11: the program's spotOf: maps of its own, which lead to the values of a node, and of all below it.
-/
import Derived.Test.YtihlpcbebpnmkaaGreatDoorZMap
import Derived.Test.YtihlpcbebpnmkaaGreatDoorZBack
import Derived.Test.YtihlpcbebpnmkaaGreatDoorBase7
namespace Go.Proofs.YtihlpcbebpnmkaaGreatDoor
open Go.RowKit
set_option linter.unusedVariables false
set_option linter.unusedSimpArgs false
attribute [local go_sem] Oper.semAt_some

/-- What stands behind the first statement: the spot's box at gs, its two maps. -/
structure LaidS (W0 W : World) (gs gv gk : Nat) : Prop where
  bel : Below W0.heap.size W0 W
  lgs : W0.heap.size ≤ gs
  lgv : W0.heap.size ≤ gv
  lgk : W0.heap.size ≤ gk
  ne : gs ≠ gv ∧ gs ≠ gk ∧ gv ≠ gk
  box : W.heap[gs]? = some (Obj.cells #[.map (some gv), .map (some gk)] 87 (0, 0))
  mv : W.heap[gv]? = some (Obj.map #[] 0)
  mkk : W.heap[gk]? = some (Obj.map #[] 0)

theorem Chg.turn {E T T' : Nat → Prop} {W A C : World} (h : Chg E W A) (ht : Turn T T' A C) (hT : Ups W.heap.size T A) : Chg E W C :=
  ⟨ht.os.trans h.os, ht.tape.trans h.tape, ht.output.trans h.output, Nat.le_trans h.size ht.size, fun g hg hn => (ht.same g (Nat.lt_of_lt_of_le hg h.size) (fun e => by have := (hT g e).1; omega)).trans (h.block g hg hn)⟩
theorem allocs3d (w : World) (o0 o1 o2 : Obj) : Below w.heap.size w (((w.alloc o0).alloc o1).alloc o2).drew ∧ (((w.alloc o0).alloc o1).alloc o2).drew.heap[w.heap.size]? = some o0 ∧ (((w.alloc o0).alloc o1).alloc o2).drew.heap[w.heap.size + 1]? = some o1 ∧ (((w.alloc o0).alloc o1).alloc o2).drew.heap[w.heap.size + 1 + 1]? = some o2 := by
  obtain ⟨w1, h1⟩ : ∃ w1, w.alloc o0 = w1 := ⟨_, rfl⟩
  obtain ⟨w2, h2⟩ : ∃ w2, w1.alloc o1 = w2 := ⟨_, rfl⟩
  obtain ⟨w3, h3⟩ : ∃ w3, w2.alloc o2 = w3 := ⟨_, rfl⟩
  have z1 : w1.heap.size = w.heap.size + 1 := by rw [← h1]; simp
  have z2 : w2.heap.size = w.heap.size + 2 := by rw [← h2]; simp [z1]
  have b1 : Below w.heap.size w w1 := by rw [← h1]; exact (Below.refl _ _).alloc (Nat.le_refl _) _
  have b2 : Below w1.heap.size w1 w2 := by rw [← h2]; exact (Below.refl _ _).alloc (Nat.le_refl _) _
  have b3 : Below w2.heap.size w2 w3 := by rw [← h3]; exact (Below.refl _ _).alloc (Nat.le_refl _) _
  have n1 : w1.heap[w.heap.size]? = some o0 := by rw [← h1]; exact heap_alloc_new _ _
  have n2 : w2.heap[w.heap.size + 1]? = some o1 := by rw [← z1, ← h2]; exact heap_alloc_new _ _
  have n3 : w3.heap[w.heap.size + 1 + 1]? = some o2 := by
    have e : w.heap.size + 1 + 1 = w2.heap.size := by omega
    rw [e, ← h3]; exact heap_alloc_new _ _
  rw [h1, h2, h3]
  exact ⟨(b1.trans ((b2.mono (by omega)).trans (b3.mono (by omega)))).drew, (b3.block _ (by omega)).trans ((b2.block _ (by omega)).trans n1), (b3.block _ (by omega)).trans n2, n3⟩
set_option maxRecDepth 20000 in
set_option maxHeartbeats 8000000 in
theorem spotOf_any (D : Nat → Prop) (w0 : World) : ∀ (n : Nd), Lies w0 D n → ∀ w : World, Below w0.heap.size w0 w → Calls Tryz.prog 38 #[n.val] w fun e w' =>
    (∃ v TV TK, e = .returned v ∧ SpV TV TK v ∧ Spots w' (SlB w0 D) TV TK ∧ ∀ g, TV g ∨ TK g → w.heap.size ≤ g) ∧ Below w.heap.size w w' := by
  refine Nd.ind ?_
  intro n ih hlies w hbw
  have HIH := Lib.hid (fun k hk hl => ih k hk hl)
  obtain ⟨h1, h2, h3, h4, h5, h6, _, _, h9⟩ := hlies.parts
  have HPR := Lib.hid h4
  have HPV := Lib.hid h5
  have HKR := Lib.hid h6
  have HKL := Lib.hid h9
  have HBW := Lib.hid hbw
  have HSZ := Lib.hid h1
  clear ih hlies h4 h5 h6 h9 hbw
  obtain ⟨nm, pa, pc, ps, ka, kc, ks⟩ := n
  simp only [Nd.val, Nd.pv, Nd.kv, Nd.name, Nd.pa, Nd.pc, Nd.props, Nd.ka, Nd.kc, Nd.kids] at HIH HPR HPV HKR HKL HSZ h1 h2 h3 ⊢
  obtain ⟨W0, hW0⟩ : ∃ W0, ((w.alloc (.cells #[Value.string nm, .slice pa ps.length pc, .slice ka ks.length kc] 27)).alloc (.cells #[.map none, .map none] 87)) = W0 := ⟨_, rfl⟩
  have HB0 : Hid (Below w.heap.size w W0) := Lib.hid (by rw [← hW0]; exact ((Below.refl w.heap.size w).alloc (Nat.le_refl _) _).alloc (by simp) _)
  have S0 : Hid (W0.heap.size = w.heap.size + 2) := Lib.hid (by rw [← hW0]; simp)
  have X0 : Hid (W0.heap[w.heap.size]? = some (.cells #[Value.string nm, .slice pa ps.length pc, .slice ka ks.length kc] 27 (0, 0)) ∧ W0.heap[w.heap.size + 1]? = some (.cells #[.map none, .map none] 87 (0, 0))) := Lib.hid (by rw [← hW0]; exact ⟨heap_alloc2_old _ _ _, heap_alloc2_new _ _ _⟩)
  refine (callsIn_wide (n := 0)).1 ?_
  refine callsIn_of_wp_marks Tryz.func38 rfl trivial ?_ rfl
  simp only [Tryz.ntmps38, List.size_toArray, List.length_cons, List.length_nil, Nat.reduceAdd, Nat.reduceSub, Array.replicate_succ, Array.replicate_zero, List.push_toArray, List.append_toArray, List.nil_append, List.cons_append]
  gi_wp2_with fail
  have hmV := makeMapV
  have hmK := makeMapK
  refine wpIn_wide.2 ?_
  refine code_cut (R := fun a' W => ∃ gs gv gk, a' = { tmps := #[.agg #[.string nm, .slice pa ps.length pc, .slice ka ks.length kc], .pointer (some ⟨w.heap.size, 0, none⟩), .pointer (some ⟨w.heap.size + 1, 0, none⟩), .pointer (some ⟨gs, 0, none⟩), undef, undef, undef, undef, .pointer (some ⟨w.heap.size, 1, none⟩), .slice pa ps.length pc, .int .i64 ps.length, .map (some gv), .pointer (some ⟨w.heap.size, 2, none⟩), .slice ka ks.length kc, .int .i64 ks.length, .map (some gk), .agg #[.map (some gv), .map (some gk)], undef, undef, undef, undef, undef, undef, undef, undef, undef, undef, undef, undef, undef, undef, undef, undef, undef, undef, undef, undef, undef, undef, undef], defers := [] } ∧ LaidS W0 W gs gv gk) ?first ?rest
  case first =>
    have SP : Hid (∀ W : World, Below W0.heap.size W0 W → W.cell? ⟨w.heap.size, 1, none⟩ = some (.slice pa ps.length pc) ∧ W.cell? ⟨w.heap.size, 2, none⟩ = some (.slice ka ks.length kc)) := Lib.hid (fun W hb => by
      have e := (hb.block w.heap.size (by have := S0.out; omega)).trans X0.out.1
      exact ⟨by rw [Lib.cell_of_heap e]; rfl, by rw [Lib.cell_of_heap e]; rfl⟩)
    refine wp_region_held_drew (S := fun W => W.cell? ⟨w.heap.size, 1, none⟩ = some (.slice pa ps.length pc) ∧ W.cell? ⟨w.heap.size, 2, none⟩ = some (.slice ka ks.length kc)) (by kernel_rfl) (SP.out W0 (Below.refl _ _)) (fun hHeld => ?_)
    refine held_take 0 rfl (by kernel_rfl) (by kernel_rfl) (by kernel_rfl) (fun _ _ _ h => absurd h.1 (by intro h'; cases h')) (by rfl) hHeld (v := ?_) (fun w hSw => ?_) (fun _ => ?_)
    rotate_left
    · ((try dsimp only at hSw); go_simp; (try with_reducible rfl))
    simp only [Act.put, List.setIfInBounds_toArray, List.set_cons_zero, List.set_cons_succ]
    refine held_take 1 rfl (by kernel_rfl) (by kernel_rfl) (by kernel_rfl) (fun _ _ _ h => absurd h.1 (by intro h'; cases h')) (by rfl) hHeld (v := ?_) (fun w hSw => ?_) (fun _ => ?_)
    rotate_left
    · ((try dsimp only at hSw); go_simp; (try with_reducible rfl))
    simp only [Act.put, List.setIfInBounds_toArray, List.set_cons_zero, List.set_cons_succ]
    refine held_take 2 rfl (by kernel_rfl) (by kernel_rfl) (by kernel_rfl) (fun _ _ _ h => absurd h.1 (by intro h'; cases h')) (by rfl) hHeld (v := ?_) (fun w hSw => ?_) (fun _ => ?_)
    rotate_left
    · ((try dsimp only at hSw); go_simp; (try with_reducible rfl))
    simp only [Act.put, List.setIfInBounds_toArray, List.set_cons_zero, List.set_cons_succ]
    refine held_take 4 rfl (by kernel_rfl) (by kernel_rfl) (by kernel_rfl) (fun _ _ _ h => absurd h.1 (by intro h'; cases h')) (by rfl) hHeld (v := ?_) (fun w hSw => ?_) (fun _ => ?_)
    rotate_left
    · ((try dsimp only at hSw); go_simp; (try with_reducible rfl))
    simp only [Act.put, List.setIfInBounds_toArray, List.set_cons_zero, List.set_cons_succ]
    refine held_take 5 rfl (by kernel_rfl) (by kernel_rfl) (by kernel_rfl) (fun _ _ _ h => absurd h.1 (by intro h'; cases h')) (by rfl) hHeld (v := ?_) (fun w hSw => ?_) (fun _ => ?_)
    rotate_left
    · ((try dsimp only at hSw); go_simp; (try with_reducible rfl))
    simp only [Act.put, List.setIfInBounds_toArray, List.set_cons_zero, List.set_cons_succ]
    refine held_take 6 rfl (by kernel_rfl) (by kernel_rfl) (by kernel_rfl) (fun _ _ _ h => absurd h.1 (by intro h'; cases h')) (by rfl) hHeld (v := ?_) (fun w hSw => ?_) (fun _ => ?_)
    rotate_left
    · ((try dsimp only at hSw); go_simp; (try with_reducible rfl))
    simp only [Act.put, List.setIfInBounds_toArray, List.set_cons_zero, List.set_cons_succ]
    refine held_three 3 7 9 (by kernel_rfl) rfl rfl rfl (by rfl) (by rfl) (by rfl) (fun K hK => ?_) (fun K hK => ?_) (fun K hK => ?_)
    · go_simp
      refine hK.out _ _ (SP.out _ (((Below.refl W0.heap.size W0).alloc (by simp <;> omega) (Obj.map #[] 0)).drew)) (fun hHeld => ?_)
      clear hK K
      (try simp only [Act.put, List.setIfInBounds_toArray, List.set_cons_zero, List.set_cons_succ])
      refine held_two 7 9 (by kernel_rfl) rfl rfl (by rfl) (by rfl) (fun K hK => ?_) (fun K hK => ?_)
      · go_simp
        refine hK.out _ _ (SP.out _ ((((Below.refl W0.heap.size W0).alloc (by simp <;> omega) (Obj.map #[] 0)).alloc (by simp <;> omega) (Obj.map #[] 0)).drew)) (fun hHeld => ?_)
        clear hK K
        (try simp only [Act.put, List.setIfInBounds_toArray, List.set_cons_zero, List.set_cons_succ])
        refine held_take 8 rfl (by kernel_rfl) (by kernel_rfl) (by kernel_rfl) (fun _ _ _ h => absurd h.1 (by intro h'; cases h')) (by rfl) hHeld (v := ?_) (fun w hSw => ?_) (fun _ => ?_)
        rotate_left
        · ((try dsimp only at hSw); go_simp; (try with_reducible rfl))
        simp only [Act.put, List.setIfInBounds_toArray, List.set_cons_zero, List.set_cons_succ]
        refine held_call 9 (by kernel_rfl) rfl (by rfl) (fun K hK => ?_)
        go_simp
        refine hK.out _ _ (SP.out _ (((((Below.refl W0.heap.size W0).alloc (by simp <;> omega) (Obj.map #[] 0)).alloc (by simp <;> omega) (Obj.map #[] 0)).alloc (by simp <;> omega) (Obj.cells #[.map none, .map none] 87)).drew)) (fun hHeld => ?_)
        clear hK K
        (try simp only [Act.put, List.setIfInBounds_toArray, List.set_cons_zero, List.set_cons_succ])
        refine held_call 10 (by kernel_rfl) rfl (by rfl) (fun K hK => ?_)
        go_simp
        refine hK.out _ _ (SP.out _ (((((Below.refl W0.heap.size W0).alloc (by simp <;> omega) (Obj.map #[] 0)).alloc (by simp <;> omega) (Obj.map #[] 0)).alloc (by simp <;> omega) (Obj.cells #[.map (some (W0.heap.size)), .map (some (W0.heap.size + 1))] 87)).drew)) (fun hHeld => ?_)
        clear hK K
        refine wpAnyH_done (by kernel_rfl) ?_ _
        obtain ⟨a0, a1, a2, a3⟩ := allocs3d W0 (Obj.map #[] 0) (Obj.map #[] 0) (Obj.cells #[.map (some (W0.heap.size)), .map (some (W0.heap.size + 1))] 87)
        exact ⟨rfl, W0.heap.size + 1 + 1, W0.heap.size, W0.heap.size + 1, rfl, ⟨a0, by omega, by omega, by omega, by omega, a3, a1, a2⟩⟩
      · go_simp
        refine hK.out _ _ (SP.out _ ((((Below.refl W0.heap.size W0).alloc (by simp <;> omega) (Obj.map #[] 0)).alloc (by simp <;> omega) (Obj.cells #[.map none, .map none] 87)).drew)) (fun hHeld => ?_)
        clear hK K
        (try simp only [Act.put, List.setIfInBounds_toArray, List.set_cons_zero, List.set_cons_succ])
        refine held_call 7 (by kernel_rfl) rfl (by rfl) (fun K hK => ?_)
        go_simp
        refine hK.out _ _ (SP.out _ (((((Below.refl W0.heap.size W0).alloc (by simp <;> omega) (Obj.map #[] 0)).alloc (by simp <;> omega) (Obj.cells #[.map none, .map none] 87)).alloc (by simp <;> omega) (Obj.map #[] 0)).drew)) (fun hHeld => ?_)
        clear hK K
        (try simp only [Act.put, List.setIfInBounds_toArray, List.set_cons_zero, List.set_cons_succ])
        refine held_take 8 rfl (by kernel_rfl) (by kernel_rfl) (by kernel_rfl) (fun _ _ _ h => absurd h.1 (by intro h'; cases h')) (by rfl) hHeld (v := ?_) (fun w hSw => ?_) (fun _ => ?_)
        rotate_left
        · ((try dsimp only at hSw); go_simp; (try with_reducible rfl))
        simp only [Act.put, List.setIfInBounds_toArray, List.set_cons_zero, List.set_cons_succ]
        refine held_call 10 (by kernel_rfl) rfl (by rfl) (fun K hK => ?_)
        go_simp
        refine hK.out _ _ (SP.out _ (((((Below.refl W0.heap.size W0).alloc (by simp <;> omega) (Obj.map #[] 0)).alloc (by simp <;> omega) (Obj.cells #[.map (some (W0.heap.size)), .map (some (W0.heap.size + 1 + 1))] 87)).alloc (by simp <;> omega) (Obj.map #[] 0)).drew)) (fun hHeld => ?_)
        clear hK K
        refine wpAnyH_done (by kernel_rfl) ?_ _
        obtain ⟨a0, a1, a2, a3⟩ := allocs3d W0 (Obj.map #[] 0) (Obj.cells #[.map (some (W0.heap.size)), .map (some (W0.heap.size + 1 + 1))] 87) (Obj.map #[] 0)
        exact ⟨rfl, W0.heap.size + 1, W0.heap.size, W0.heap.size + 1 + 1, rfl, ⟨a0, by omega, by omega, by omega, by omega, a2, a1, a3⟩⟩
    · go_simp
      refine hK.out _ _ (SP.out _ (((Below.refl W0.heap.size W0).alloc (by simp <;> omega) (Obj.map #[] 0)).drew)) (fun hHeld => ?_)
      clear hK K
      (try simp only [Act.put, List.setIfInBounds_toArray, List.set_cons_zero, List.set_cons_succ])
      refine held_two 3 9 (by kernel_rfl) rfl rfl (by rfl) (by rfl) (fun K hK => ?_) (fun K hK => ?_)
      · go_simp
        refine hK.out _ _ (SP.out _ ((((Below.refl W0.heap.size W0).alloc (by simp <;> omega) (Obj.map #[] 0)).alloc (by simp <;> omega) (Obj.map #[] 0)).drew)) (fun hHeld => ?_)
        clear hK K
        (try simp only [Act.put, List.setIfInBounds_toArray, List.set_cons_zero, List.set_cons_succ])
        refine held_take 8 rfl (by kernel_rfl) (by kernel_rfl) (by kernel_rfl) (fun _ _ _ h => absurd h.1 (by intro h'; cases h')) (by rfl) hHeld (v := ?_) (fun w hSw => ?_) (fun _ => ?_)
        rotate_left
        · ((try dsimp only at hSw); go_simp; (try with_reducible rfl))
        simp only [Act.put, List.setIfInBounds_toArray, List.set_cons_zero, List.set_cons_succ]
        refine held_call 9 (by kernel_rfl) rfl (by rfl) (fun K hK => ?_)
        go_simp
        refine hK.out _ _ (SP.out _ (((((Below.refl W0.heap.size W0).alloc (by simp <;> omega) (Obj.map #[] 0)).alloc (by simp <;> omega) (Obj.map #[] 0)).alloc (by simp <;> omega) (Obj.cells #[.map none, .map none] 87)).drew)) (fun hHeld => ?_)
        clear hK K
        (try simp only [Act.put, List.setIfInBounds_toArray, List.set_cons_zero, List.set_cons_succ])
        refine held_call 10 (by kernel_rfl) rfl (by rfl) (fun K hK => ?_)
        go_simp
        refine hK.out _ _ (SP.out _ (((((Below.refl W0.heap.size W0).alloc (by simp <;> omega) (Obj.map #[] 0)).alloc (by simp <;> omega) (Obj.map #[] 0)).alloc (by simp <;> omega) (Obj.cells #[.map (some (W0.heap.size + 1)), .map (some (W0.heap.size))] 87)).drew)) (fun hHeld => ?_)
        clear hK K
        refine wpAnyH_done (by kernel_rfl) ?_ _
        obtain ⟨a0, a1, a2, a3⟩ := allocs3d W0 (Obj.map #[] 0) (Obj.map #[] 0) (Obj.cells #[.map (some (W0.heap.size + 1)), .map (some (W0.heap.size))] 87)
        exact ⟨rfl, W0.heap.size + 1 + 1, W0.heap.size + 1, W0.heap.size, rfl, ⟨a0, by omega, by omega, by omega, by omega, a3, a2, a1⟩⟩
      · go_simp
        refine hK.out _ _ (SP.out _ ((((Below.refl W0.heap.size W0).alloc (by simp <;> omega) (Obj.map #[] 0)).alloc (by simp <;> omega) (Obj.cells #[.map none, .map none] 87)).drew)) (fun hHeld => ?_)
        clear hK K
        (try simp only [Act.put, List.setIfInBounds_toArray, List.set_cons_zero, List.set_cons_succ])
        refine held_call 3 (by kernel_rfl) rfl (by rfl) (fun K hK => ?_)
        go_simp
        refine hK.out _ _ (SP.out _ (((((Below.refl W0.heap.size W0).alloc (by simp <;> omega) (Obj.map #[] 0)).alloc (by simp <;> omega) (Obj.cells #[.map none, .map none] 87)).alloc (by simp <;> omega) (Obj.map #[] 0)).drew)) (fun hHeld => ?_)
        clear hK K
        (try simp only [Act.put, List.setIfInBounds_toArray, List.set_cons_zero, List.set_cons_succ])
        refine held_take 8 rfl (by kernel_rfl) (by kernel_rfl) (by kernel_rfl) (fun _ _ _ h => absurd h.1 (by intro h'; cases h')) (by rfl) hHeld (v := ?_) (fun w hSw => ?_) (fun _ => ?_)
        rotate_left
        · ((try dsimp only at hSw); go_simp; (try with_reducible rfl))
        simp only [Act.put, List.setIfInBounds_toArray, List.set_cons_zero, List.set_cons_succ]
        refine held_call 10 (by kernel_rfl) rfl (by rfl) (fun K hK => ?_)
        go_simp
        refine hK.out _ _ (SP.out _ (((((Below.refl W0.heap.size W0).alloc (by simp <;> omega) (Obj.map #[] 0)).alloc (by simp <;> omega) (Obj.cells #[.map (some (W0.heap.size + 1 + 1)), .map (some (W0.heap.size))] 87)).alloc (by simp <;> omega) (Obj.map #[] 0)).drew)) (fun hHeld => ?_)
        clear hK K
        refine wpAnyH_done (by kernel_rfl) ?_ _
        obtain ⟨a0, a1, a2, a3⟩ := allocs3d W0 (Obj.map #[] 0) (Obj.cells #[.map (some (W0.heap.size + 1 + 1)), .map (some (W0.heap.size))] 87) (Obj.map #[] 0)
        exact ⟨rfl, W0.heap.size + 1, W0.heap.size + 1 + 1, W0.heap.size, rfl, ⟨a0, by omega, by omega, by omega, by omega, a2, a3, a1⟩⟩
    · go_simp
      refine hK.out _ _ (SP.out _ (((Below.refl W0.heap.size W0).alloc (by simp <;> omega) (Obj.cells #[.map none, .map none] 87)).drew)) (fun hHeld => ?_)
      clear hK K
      (try simp only [Act.put, List.setIfInBounds_toArray, List.set_cons_zero, List.set_cons_succ])
      refine held_two 3 7 (by kernel_rfl) rfl rfl (by rfl) (by rfl) (fun K hK => ?_) (fun K hK => ?_)
      · go_simp
        refine hK.out _ _ (SP.out _ ((((Below.refl W0.heap.size W0).alloc (by simp <;> omega) (Obj.cells #[.map none, .map none] 87)).alloc (by simp <;> omega) (Obj.map #[] 0)).drew)) (fun hHeld => ?_)
        clear hK K
        (try simp only [Act.put, List.setIfInBounds_toArray, List.set_cons_zero, List.set_cons_succ])
        refine held_call 7 (by kernel_rfl) rfl (by rfl) (fun K hK => ?_)
        go_simp
        refine hK.out _ _ (SP.out _ (((((Below.refl W0.heap.size W0).alloc (by simp <;> omega) (Obj.cells #[.map none, .map none] 87)).alloc (by simp <;> omega) (Obj.map #[] 0)).alloc (by simp <;> omega) (Obj.map #[] 0)).drew)) (fun hHeld => ?_)
        clear hK K
        (try simp only [Act.put, List.setIfInBounds_toArray, List.set_cons_zero, List.set_cons_succ])
        refine held_take 8 rfl (by kernel_rfl) (by kernel_rfl) (by kernel_rfl) (fun _ _ _ h => absurd h.1 (by intro h'; cases h')) (by rfl) hHeld (v := ?_) (fun w hSw => ?_) (fun _ => ?_)
        rotate_left
        · ((try dsimp only at hSw); go_simp; (try with_reducible rfl))
        simp only [Act.put, List.setIfInBounds_toArray, List.set_cons_zero, List.set_cons_succ]
        refine held_call 10 (by kernel_rfl) rfl (by rfl) (fun K hK => ?_)
        go_simp
        refine hK.out _ _ (SP.out _ (((((Below.refl W0.heap.size W0).alloc (by simp <;> omega) (Obj.cells #[.map (some (W0.heap.size + 1)), .map (some (W0.heap.size + 1 + 1))] 87)).alloc (by simp <;> omega) (Obj.map #[] 0)).alloc (by simp <;> omega) (Obj.map #[] 0)).drew)) (fun hHeld => ?_)
        clear hK K
        refine wpAnyH_done (by kernel_rfl) ?_ _
        obtain ⟨a0, a1, a2, a3⟩ := allocs3d W0 (Obj.cells #[.map (some (W0.heap.size + 1)), .map (some (W0.heap.size + 1 + 1))] 87) (Obj.map #[] 0) (Obj.map #[] 0)
        exact ⟨rfl, W0.heap.size, W0.heap.size + 1, W0.heap.size + 1 + 1, rfl, ⟨a0, by omega, by omega, by omega, by omega, a1, a2, a3⟩⟩
      · go_simp
        refine hK.out _ _ (SP.out _ ((((Below.refl W0.heap.size W0).alloc (by simp <;> omega) (Obj.cells #[.map none, .map none] 87)).alloc (by simp <;> omega) (Obj.map #[] 0)).drew)) (fun hHeld => ?_)
        clear hK K
        (try simp only [Act.put, List.setIfInBounds_toArray, List.set_cons_zero, List.set_cons_succ])
        refine held_call 3 (by kernel_rfl) rfl (by rfl) (fun K hK => ?_)
        go_simp
        refine hK.out _ _ (SP.out _ (((((Below.refl W0.heap.size W0).alloc (by simp <;> omega) (Obj.cells #[.map none, .map none] 87)).alloc (by simp <;> omega) (Obj.map #[] 0)).alloc (by simp <;> omega) (Obj.map #[] 0)).drew)) (fun hHeld => ?_)
        clear hK K
        (try simp only [Act.put, List.setIfInBounds_toArray, List.set_cons_zero, List.set_cons_succ])
        refine held_take 8 rfl (by kernel_rfl) (by kernel_rfl) (by kernel_rfl) (fun _ _ _ h => absurd h.1 (by intro h'; cases h')) (by rfl) hHeld (v := ?_) (fun w hSw => ?_) (fun _ => ?_)
        rotate_left
        · ((try dsimp only at hSw); go_simp; (try with_reducible rfl))
        simp only [Act.put, List.setIfInBounds_toArray, List.set_cons_zero, List.set_cons_succ]
        refine held_call 10 (by kernel_rfl) rfl (by rfl) (fun K hK => ?_)
        go_simp
        refine hK.out _ _ (SP.out _ (((((Below.refl W0.heap.size W0).alloc (by simp <;> omega) (Obj.cells #[.map (some (W0.heap.size + 1 + 1)), .map (some (W0.heap.size + 1))] 87)).alloc (by simp <;> omega) (Obj.map #[] 0)).alloc (by simp <;> omega) (Obj.map #[] 0)).drew)) (fun hHeld => ?_)
        clear hK K
        refine wpAnyH_done (by kernel_rfl) ?_ _
        obtain ⟨a0, a1, a2, a3⟩ := allocs3d W0 (Obj.cells #[.map (some (W0.heap.size + 1 + 1)), .map (some (W0.heap.size + 1))] 87) (Obj.map #[] 0) (Obj.map #[] 0)
        exact ⟨rfl, W0.heap.size, W0.heap.size + 1 + 1, W0.heap.size + 1, rfl, ⟨a0, by omega, by omega, by omega, by omega, a1, a3, a2⟩⟩
  case rest =>
    rintro a' W1 ⟨gs, gv, gk, rfl, hl⟩
    have HL := Lib.hid hl
    have S1 := Lib.hid hl.bel.size
    have hBX := (hl.bel.block w.heap.size (by have := S0.out; omega)).trans X0.out.1
    have HBX := Lib.hid hBX
    have HR1 := Lib.hid ((hl.bel.block (w.heap.size + 1) (by have := S0.out; omega)).trans X0.out.2)
    have c1 : W1.cell? ⟨w.heap.size, 1, none⟩ = some (.slice pa ps.length pc) := by rw [Lib.cell_of_heap hBX]; rfl
    have HBP := Lib.hid (fun W => backP_any pa ps.length pc W)
    have HBW1 : Hid (Below w.heap.size w W1) := Lib.hid (HB0.out.trans (hl.bel.mono HB0.out.size))
    clear hl hBX hmV hmK
    dsimp only
    gi_wp2_with (refine ⟨trivial, rfl, (callsIn_wide.2 (HBP.out _)).mono ?_⟩; rintro e W4 ⟨rfl, hW4⟩)
    clear hW4 HBP c1 W4
    obtain ⟨k, hk⟩ : ∃ k, W1.heap.size = k := ⟨_, rfl⟩
    obtain ⟨W2, hW2⟩ : ∃ W2, W1.alloc (Obj.cells #[Value.slice pa ps.length pc] 24) = W2 := ⟨_, rfl⟩
    have Z2 : Hid (W2.heap.size = k + 1) := Lib.hid (by rw [← hW2]; simp [hk])
    have B12 : Hid (Below k W1 W2) := Lib.hid (by rw [← hW2, ← hk]; exact (Below.refl _ _).alloc (Nat.le_refl _) _)
    have X2 : Hid (W2.heap[k]? = some (.cells #[Value.slice pa ps.length pc] 24 (0, 0))) := Lib.hid (by rw [← hW2, ← hk]; exact heap_alloc_new _ _)
    have S1k : Hid (W0.heap.size ≤ k ∧ gs < k ∧ gv < k ∧ gk < k) := Lib.hid (by
      rw [← hk]
      exact ⟨S1.out, (Array.getElem?_eq_some_iff.1 HL.out.box).1, (Array.getElem?_eq_some_iff.1 HL.out.mv).1, (Array.getElem?_eq_some_iff.1 HL.out.mkk).1⟩)
    have HBW2 : Hid (Below w.heap.size w W2) := Lib.hid (HBW1.out.trans (B12.out.mono (by rw [← hk]; exact HBW1.out.size)))
    rw [hW2, hk]
    clear hW2
    have Hn : Hid (w0.heap.size ≤ w.heap.size) := Lib.hid HBW.out.size
    have HBn : Hid (Below w0.heap.size w0 W2) := Lib.hid (HBW.out.trans (HBW2.out.mono Hn.out))
    have HW2 := Lib.hid (backP_walks pa pc ps w0.heap.size k W2 (HPR.out.keep (fun a ha => HBn.out.cell ha)) (by have h1 := HBn.out.size; exact h1) (by have := Z2.out; omega) ⟨h2.1, h2.2, by omega⟩)
    have HI0 : Hid (MOK W2 (SlB w0 D) gv ([] : List PV).length ∧ Chg (fun g => g = gv) W2 W2) := Lib.hid ⟨MOK.new ((B12.out.block gv S1k.out.2.2.1).trans HL.out.mv), Chg.refl _ _⟩
    have BX2 : Hid (W2.heap[gs]? = some (Obj.cells #[.map (some gv), .map (some gk)] 87 (0, 0)) ∧ W2.heap[gk]? = some (Obj.map #[] 0) ∧ W2.heap[w.heap.size]? = some (.cells #[Value.string nm, .slice pa ps.length pc, .slice ka ks.length kc] 27 (0, 0))) := Lib.hid ⟨(B12.out.block gs S1k.out.2.1).trans HL.out.box, (B12.out.block gk S1k.out.2.2.2).trans HL.out.mkk, (B12.out.block _ (by have h1 := S1k.out.1; have h2 := S0.out; omega)).trans HBX.out⟩
    have HR2 := Lib.hid ((B12.out.block (w.heap.size + 1) (by have h1 := S1k.out.1; have h2 := S0.out; omega)).trans HR1.out)
    have LG := Lib.hid (And.intro HL.out.lgs (And.intro HL.out.lgv (And.intro HL.out.lgk HL.out.ne)))
    clear hk HL HBX S1
    refine rangeFunc_iterX (gf := 87) (lb := #[.pointer (some ⟨k, 0, none⟩)]) rfl (enters_of Tryz.func87 (by kernel_rfl) rfl) HW2.out (Below.refl _ _) HBn.out.size (fun Wx p args h => by obtain ⟨i, rfl⟩ := h; rfl) (k + 1) (by have := Z2.out; omega) (fun _ => False) (fun k h => h.elim)
      (fun M pre Wx => MOK Wx (SlB w0 D) gv pre.length ∧ Chg (fun g => g = gv) W2 Wx) (fun c M pre Wx => False)
      (fun T T' s A C hs hB hT ht hst => ⟨hs.1.keep (ht.same _ hs.1.lt (fun h => by have h1 := (hT gv h).1; have h2 := S1k.out.2.2.1; omega)), hs.2.turn ht (by rw [Z2.out]; exact hT)⟩)
      (fun c T T' s A C hs hB hT ht hst => hs) (fun M s W h => (h.2.block k (by have := Z2.out; omega) (fun e => by have := S1k.out.2.2.1; omega)).trans X2.out) HI0.out ?round ?done ?stop
    case round =>
      rintro l2 M pre p args Wr hM hu hsz hbn ⟨hmok, hchg⟩ ⟨i, rfl⟩ hpre
      have hpp : p ∈ ps := by
        obtain ⟨r, hr⟩ := hpre
        have : p ∈ ps.reverse := by rw [← hr]; simp
        simpa using this
      obtain ⟨hpn, hpv⟩ := HPV.out p hpp
      have hgr : k + 1 ≤ Wr.heap.size := by have := Z2.out; omega
      have hpl : pre.length ≤ 140737488351232 := by
        have h1 := hpre.length_le
        have h2 : ps.length * 40 ≤ 140737488351232 := HSZ.out.2.1
        simp at h1
        omega
      have HPP := Lib.hid (And.intro hpn (And.intro hpv hpl))
      obtain ⟨Wc, hWc⟩ : ∃ Wc, Wc = Wr.alloc (.cells #[.string p.name, p.val] 61) := ⟨_, rfl⟩
      have hcs : Wc.heap.size = Wr.heap.size + 1 := by rw [hWc]; simp
      have hbc : Below Wr.heap.size Wr Wc := by rw [hWc]; exact (Below.refl _ _).alloc (Nat.le_refl _) _
      have hcn : Wc.heap[Wr.heap.size]? = some (.cells #[.string p.name, p.val] 61 (0, 0)) := by rw [hWc]; exact heap_alloc_new _ _
      have HIC : Hid (MOK Wc (SlB w0 D) gv pre.length ∧ Chg (fun g => g = gv) W2 Wc) := Lib.hid ⟨hmok.keep (hbc.block _ hmok.lt), hchg.trans (F' := fun _ => False) (Chg.ofBelow hbc) (fun _ _ e => e.elim)⟩
      have HN0 : Hid (w0.heap.size ≤ k) := Lib.hid (by have h1 := Hn.out; have h2 := S1k.out.1; have h3 := S0.out; omega)
      have HKC : Hid (Kp w0.heap.size M Wr Wc) := Lib.hid (Kp.of_below hbc (by have := HN0.out; omega) hu)
      have HUC := Lib.hid (hu.more (W' := Wc) (by omega))
      have HCN := Lib.hid hcn
      have HCS := Lib.hid hcs
      have HGR := Lib.hid hgr
      clear hpp hpn hpv hpl hpre hmok hchg hu hsz hbn hM hcs hbc hcn hgr
      obtain ⟨pn, pad, pcp, pz⟩ := p
      simp only [PV.pair, PV.val] at hWc HCN HPP ⊢
      gi_wp2
      rw [← hWc]
      refine ⟨HIC.out, HKC.out, ?_⟩
      clear hWc
      rintro W3 ⟨hm3, hc3⟩ ht3 hcl3 hfz3
      have hW3s : Wc.heap.size ≤ W3.heap.size := ht3.size
      have b0 := (hcl3 ⟨Wr.heap.size, 0, none⟩).trans (Lib.cell_of_heap HCN.out 0)
      have b1 := (hcl3 ⟨Wr.heap.size, 1, none⟩).trans (Lib.cell_of_heap HCN.out 1)
      replace b0 : _ = some (Value.string pn) := b0
      replace b1 : _ = some (Value.slice pad pz.length pcp) := b1
      have hgs3 := (hc3.block gs (by have h1 := S1k.out.2.1; have h2 := Z2.out; omega) LG.out.2.2.2.1).trans BX2.out.1
      have s0 : W3.cell? ⟨gs, 0, none⟩ = some (.map (some gv)) := by rw [Lib.cell_of_heap hgs3]; rfl
      obtain ⟨w5, hr5, hm5, hg5⟩ := hm3.store Tryz.underlying84 HPP.out.2.1 HPP.out.1 (by have := HPP.out.2.2; unfold maxLen; omega)
      have HFIN : Hid (Kp w0.heap.size M W3 w5 ∧ MOK w5 (SlB w0 D) gv (pre ++ [PV.mk pn pad pcp pz]).length ∧ Chg (fun g => g = gv) W2 w5) := Lib.hid ⟨Kp.grown hg5 (HUC.out.more hW3s) (by have h1 := HN0.out; have h2 := HGR.out; have h3 := HCS.out; omega) (fun q e => by
          cases e
          exact ⟨by have h1 := LG.out.2.1; have h2 := Hn.out; have h3 := S0.out; omega, fun h => by have h1 := (HUC.out gv h).1; have h2 := S1k.out.2.2.1; omega⟩), by rw [List.length_append]; exact hm5, hc3.trans (F' := fun g => g = gv) (Chg.ofGrown hg5 (fun g e => by cases e; rfl)) (fun _ _ e => e)⟩
      clear hm3 hc3 ht3 hcl3 hfz3 hm5 hg5 hgs3
      gi_wp2
      exact HFIN.out
    case done =>
      rintro D1 M Wd hM hu hsz hD ⟨hmok, hchg⟩ hd
      have HD1 := Lib.hid (hu D1 hD)
      have HDD := Lib.hid hd
      have HMV := Lib.hid hmok
      have HCD := Lib.hid hchg
      have HBWd : Hid (Below w.heap.size w Wd) := Lib.hid (HBW2.out.trans (hchg.below (by exact HBW2.out.size) (fun g e => by have h1 := LG.out.2.1; have h2 := S0.out; omega)))
      have hzd : k + 1 ≤ Wd.heap.size := by have := Z2.out; omega
      have HZD := Lib.hid hzd
      have BXd : Hid (Wd.heap[gs]? = some (Obj.cells #[.map (some gv), .map (some gk)] 87 (0, 0)) ∧ Wd.heap[gk]? = some (Obj.map #[] 0) ∧ Wd.heap[w.heap.size]? = some (.cells #[Value.string nm, .slice pa ps.length pc, .slice ka ks.length kc] 27 (0, 0))) := Lib.hid ⟨(hchg.block gs (by have h1 := S1k.out; have h2 := Z2.out; omega) (fun e => LG.out.2.2.2.1 e)).trans BX2.out.1, (hchg.block gk (by have h1 := S1k.out; have h2 := Z2.out; omega) (fun e => LG.out.2.2.2.2.2 e.symm)).trans BX2.out.2.1, (hchg.block _ (by have h1 := S1k.out; have h2 := Z2.out; have h3 := S0.out; omega) (fun e => by have h1 := LG.out.2.1; have h3 := S0.out; omega)).trans BX2.out.2.2⟩
      have HRd := Lib.hid ((hchg.block (w.heap.size + 1) (by have h1 := S1k.out; have h2 := Z2.out; have h3 := S0.out; omega) (fun e => by have h1 := LG.out.2.1; have h3 := S0.out; omega)).trans HR2.out)
      have c2 : Wd.cell? ⟨w.heap.size, 2, none⟩ = some (.slice ka ks.length kc) := by rw [Lib.cell_of_heap BXd.out.2.2]; rfl
      have HBK := Lib.hid (fun W => backK_any ka ks.length kc W)
      clear hM hu hsz hD hmok hchg hd hzd HW2 HI0 HBn BX2 X2 HBW2 B12
      dsimp only
      gi_wp2_with (refine ⟨trivial, rfl, (callsIn_wide.2 (HBK.out _)).mono ?_⟩; rintro e W4 ⟨rfl, hW4⟩)
      clear hW4 HBK c2 W4
      obtain ⟨k2, hk2⟩ : ∃ k2, Wd.heap.size = k2 := ⟨_, rfl⟩
      obtain ⟨W5, hW5⟩ : ∃ W5, Wd.alloc (Obj.cells #[Value.slice ka ks.length kc] 25) = W5 := ⟨_, rfl⟩
      have Z5 : Hid (W5.heap.size = k2 + 1) := Lib.hid (by rw [← hW5]; simp [hk2])
      have B5 : Hid (Below k2 Wd W5) := Lib.hid (by rw [← hW5, ← hk2]; exact (Below.refl _ _).alloc (Nat.le_refl _) _)
      have X5 : Hid (W5.heap[k2]? = some (.cells #[Value.slice ka ks.length kc] 25 (0, 0))) := Lib.hid (by rw [← hW5, ← hk2]; exact heap_alloc_new _ _)
      have HZK : Hid (k + 1 ≤ k2) := Lib.hid (by rw [← hk2]; exact HZD.out)
      have HD1k : Hid (k + 1 ≤ D1 ∧ D1 < k2) := Lib.hid (by rw [← hk2]; exact HD1.out)
      rw [hW5, hk2]
      clear hW5
      have HBW5 : Hid (Below w.heap.size w W5) := Lib.hid (HBWd.out.trans (B5.out.mono (by rw [← hk2]; exact HBWd.out.size)))
      have HBn5 : Hid (Below w0.heap.size w0 W5) := Lib.hid (HBW.out.trans (HBW5.out.mono Hn.out))
      have HN0 : Hid (w0.heap.size ≤ k2) := Lib.hid (by have h1 := Hn.out; have h2 := S1k.out.1; have h3 := S0.out; have h4 := HZK.out; omega)
      have HW5 := Lib.hid (backK_walks ka kc ks w0.heap.size k2 W5 (HKR.out.keep (fun a ha => HBn5.out.cell ha)) (by have h1 := HBn5.out.size; exact h1) (by have := Z5.out; omega) ⟨h3.1, h3.2, by omega⟩)
      have BX5 : Hid (W5.heap[gs]? = some (Obj.cells #[.map (some gv), .map (some gk)] 87 (0, 0)) ∧ W5.heap[gk]? = some (Obj.map #[] 0) ∧ W5.heap[D1]? = some (Obj.deferred (some []))) := Lib.hid ⟨(B5.out.block gs (by have h1 := S1k.out; have h2 := HZK.out; omega)).trans BXd.out.1, (B5.out.block gk (by have h1 := S1k.out; have h2 := HZK.out; omega)).trans BXd.out.2.1, (B5.out.block D1 HD1k.out.2).trans HDD.out⟩
      have HR5 := Lib.hid ((B5.out.block (w.heap.size + 1) (by have h1 := S1k.out; have h2 := HZK.out; have h3 := S0.out; omega)).trans HRd.out)
      have HMV5 : Hid (MOK W5 (SlB w0 D) gv ps.reverse.length) := Lib.hid (HMV.out.keep (B5.out.block gv (by have h1 := S1k.out; have h2 := HZK.out; omega)))
      have HI0 : Hid (∃ TV TK, MOK W5 (SpV TV TK) gk ([] : List Nd).length ∧ Spots W5 (SlB w0 D) TV TK ∧ (∀ g, TV g ∨ TK g → k2 + 1 ≤ g ∧ ¬ False) ∧ Chg (fun g => g = gk) W5 W5) := Lib.hid ⟨fun _ => False, fun _ => False, MOK.new BX5.out.2.1, Spots.none _ _, fun g h => h.elim False.elim False.elim, Chg.refl _ _⟩
      clear hk2 HBWd BXd HCD HMV HDD HD1 HZD
      refine rangeFunc_iterX (gf := 88) (lb := #[.pointer (some ⟨k2, 0, none⟩)]) rfl (enters_of Tryz.func88 (by kernel_rfl) rfl) HW5.out (Below.refl _ _) HBn5.out.size (fun Wx p args h => by obtain ⟨i, rfl⟩ := h; rfl) (k2 + 1) (by have := Z5.out; omega) (fun _ => False) (fun k h => h.elim)
        (fun M pre Wx => ∃ TV TK, MOK Wx (SpV TV TK) gk pre.length ∧ Spots Wx (SlB w0 D) TV TK ∧ (∀ g, TV g ∨ TK g → k2 + 1 ≤ g ∧ ¬ M g) ∧ Chg (fun g => g = gk) W5 Wx) (fun c M pre Wx => False)
        (fun T T' s A C hs hB hT ht hst => by
          obtain ⟨TV, TK, m1, m2, m3, m4⟩ := hs
          exact ⟨TV, TK, m1.keep (ht.same _ m1.lt (fun h => by have h1 := (hT gk h).1; have h2 := S1k.out; have h3 := HZK.out; omega)), m2.keep (fun g hg => ht.same g (m2.lt g hg) (m3 g hg).2), fun g hg => ⟨(m3 g hg).1, fun h => (ht.fresh g h).elim (m3 g hg).2 (fun h => by have := m2.lt g hg; omega)⟩, m4.turn ht (by rw [Z5.out]; exact hT)⟩)
        (fun c T T' s A C hs hB hT ht hst => hs) (fun M s W h => by
          obtain ⟨TV, TK, m1, m2, m3, m4⟩ := h
          exact (m4.block k2 (by have := Z5.out; omega) (fun e => by have h1 := S1k.out; have h2 := HZK.out; omega)).trans X5.out) HI0.out ?round2 ?done2 ?stop2
      case round2 =>
        rintro l2 M pre x args Wr hM hu hsz hbn ⟨TV, TK, m1, m2, m3, m4⟩ ⟨i, rfl⟩ hpre
        have hxx : x ∈ ks := by
          obtain ⟨r, hr⟩ := hpre
          have : x ∈ ks.reverse := by rw [← hr]; simp
          simpa using this
        have hxl := HKL.out x hxx
        have hxn : x.name.size ≤ 140737488351232 := hxl.parts.1.1
        have hgr : k2 + 1 ≤ Wr.heap.size := by have := Z5.out; omega
        have hpl : pre.length ≤ 140737488351232 := by
          have h1 := hpre.length_le
          have h2 : ks.length * 64 ≤ 140737488351232 := HSZ.out.2.2
          simp at h1
          omega
        have HIHX := Lib.hid (HIH.out x hxx hxl)
        have HPP := Lib.hid (And.intro hxn hpl)
        obtain ⟨Wc, hWc⟩ : ∃ Wc, Wc = Wr.alloc (.cells #[.string x.name, x.pv, x.kv] 27) := ⟨_, rfl⟩
        have hcs : Wc.heap.size = Wr.heap.size + 1 := by rw [hWc]; simp
        have hbc : Below Wr.heap.size Wr Wc := by rw [hWc]; exact (Below.refl _ _).alloc (Nat.le_refl _) _
        have hcn : Wc.heap[Wr.heap.size]? = some (.cells #[.string x.name, x.pv, x.kv] 27 (0, 0)) := by rw [hWc]; exact heap_alloc_new _ _
        have HIC : Hid (∃ TV TK, MOK Wc (SpV TV TK) gk pre.length ∧ Spots Wc (SlB w0 D) TV TK ∧ (∀ g, TV g ∨ TK g → k2 + 1 ≤ g ∧ ¬ M g) ∧ Chg (fun g => g = gk) W5 Wc) := Lib.hid ⟨TV, TK, m1.keep (hbc.block _ m1.lt), m2.below hbc, m3, m4.trans (F' := fun _ => False) (Chg.ofBelow hbc) (fun _ _ e => e.elim)⟩
        have HKC : Hid (Kp w0.heap.size M Wr Wc) := Lib.hid (Kp.of_below hbc (by have := HN0.out; omega) hu)
        have HUC := Lib.hid (hu.more (W' := Wc) (by omega))
        have HCN := Lib.hid hcn
        have HCS := Lib.hid hcs
        have HGR := Lib.hid hgr
        obtain ⟨xr, hxr⟩ : ∃ xr, Wr.heap.size = xr := ⟨_, rfl⟩
        clear hxx hxl hxn hpl hpre m1 m2 m3 m4 hu hsz hbn hM hcs hbc hcn hgr HIH TV TK
        obtain ⟨xn, xpa, xpc, xps, xka, xkc, xks⟩ := x
        simp only [Nd.val, Nd.pv, Nd.kv, Nd.name, Nd.pa, Nd.pc, Nd.props, Nd.ka, Nd.kc, Nd.kids] at hWc HCN HPP HIHX ⊢
        gi_wp2
        rw [← hWc]
        refine ⟨HIC.out, HKC.out, ?_⟩
        clear hWc
        rintro W3 ⟨TV, TK, m1, m2, m3, m4⟩ ht3 hcl3 hfz3
        have hW3s : Wc.heap.size ≤ W3.heap.size := ht3.size
        have b0 := (hcl3 ⟨Wr.heap.size, 0, none⟩).trans (Lib.cell_of_heap HCN.out 0)
        have b1 := (hcl3 ⟨Wr.heap.size, 1, none⟩).trans (Lib.cell_of_heap HCN.out 1)
        have b2 := (hcl3 ⟨Wr.heap.size, 2, none⟩).trans (Lib.cell_of_heap HCN.out 2)
        replace b0 : _ = some (Value.string xn) := b0
        replace b1 : _ = some (Value.slice xpa xps.length xpc) := b1
        replace b2 : _ = some (Value.slice xka xks.length xkc) := b2
        have hgs3 := (m4.block gs (by have h1 := S1k.out.2.1; have h2 := Z5.out; have h3 := HZK.out; omega) LG.out.2.2.2.2.1).trans BX5.out.1
        have s1 : W3.cell? ⟨gs, 1, none⟩ = some (.map (some gk)) := by rw [Lib.cell_of_heap hgs3]; rfl
        have HM := Lib.hid (And.intro m1 (And.intro m2 (And.intro m3 m4)))
        have HW3S := Lib.hid hW3s
        have HU3 := Lib.hid (HUC.out.more hW3s)
        have HS3 : Hid (W3.cell? ⟨gs, 1, none⟩ = some (.map (some gk)) ∧ W3.cell? ⟨xr, 0, none⟩ = some (Value.string xn) ∧ W3.cell? ⟨xr, 1, none⟩ = some (Value.slice xpa xps.length xpc) ∧ W3.cell? ⟨xr, 2, none⟩ = some (Value.slice xka xks.length xkc)) := Lib.hid (by rw [← hxr]; exact ⟨s1, b0, b1, b2⟩)
        have HXR : Hid (xr < W3.heap.size ∧ k2 + 1 ≤ xr) := Lib.hid (by have h1 := HCS.out; have h2 := HGR.out; omega)
        try rw [hxr]
        clear m1 m2 m3 m4 ht3 hcl3 hfz3 hgs3 s1 b0 b1 b2 hxr hW3s
        gi_wp2_with fail
        refine in_begin (S := fun W => W.cell? ⟨gs, 1, none⟩ = some (.map (some gk)) ∧ W.cell? ⟨xr, 0, none⟩ = some (Value.string xn) ∧ W.cell? ⟨xr, 1, none⟩ = some (Value.slice xpa xps.length xpc) ∧ W.cell? ⟨xr, 2, none⟩ = some (Value.slice xka xks.length xkc)) (by kernel_rfl) HS3.out (fun hHeld => ?_)
        refine in_take 0 (fun _ => trivial) rfl (by kernel_rfl) (by kernel_rfl) (by kernel_rfl) (by kernel_rfl) (fun _ _ _ h => h) (by rfl) (by kernel_rfl) hHeld (v := ?_) (fun w hSw => ?_) (fun _ => ?_)
        rotate_left
        · ((try dsimp only at hSw); go_simp; (try with_reducible rfl))
        simp only [Act.put, List.setIfInBounds_toArray, List.set_cons_zero, List.set_cons_succ]
        refine in_take 1 (fun _ => trivial) rfl (by kernel_rfl) (by kernel_rfl) (by kernel_rfl) (by kernel_rfl) (fun _ _ _ h => h) (by rfl) (by kernel_rfl) hHeld (v := ?_) (fun w hSw => ?_) (fun _ => ?_)
        rotate_left
        · ((try dsimp only at hSw); go_simp; (try with_reducible rfl))
        simp only [Act.put, List.setIfInBounds_toArray, List.set_cons_zero, List.set_cons_succ]
        refine in_take 2 (fun _ => trivial) rfl (by kernel_rfl) (by kernel_rfl) (by kernel_rfl) (by kernel_rfl) (fun _ _ _ h => h) (by rfl) (by kernel_rfl) hHeld (v := ?_) (fun w hSw => ?_) (fun _ => ?_)
        rotate_left
        · ((try dsimp only at hSw); go_simp; (try with_reducible rfl))
        simp only [Act.put, List.setIfInBounds_toArray, List.set_cons_zero, List.set_cons_succ]
        refine in_take 3 (fun _ => trivial) rfl (by kernel_rfl) (by kernel_rfl) (by kernel_rfl) (by kernel_rfl) (fun _ _ _ h => h) (by rfl) (by kernel_rfl) hHeld (v := ?_) (fun w hSw => ?_) (fun _ => ?_)
        rotate_left
        · ((try dsimp only at hSw); go_simp; (try with_reducible rfl))
        simp only [Act.put, List.setIfInBounds_toArray, List.set_cons_zero, List.set_cons_succ]
        refine in_take 4 (fun _ => trivial) rfl (by kernel_rfl) (by kernel_rfl) (by kernel_rfl) (by kernel_rfl) (fun _ _ _ h => h) (by rfl) (by kernel_rfl) hHeld (v := ?_) (fun w hSw => ?_) (fun _ => ?_)
        rotate_left
        · ((try dsimp only at hSw); go_simp; (try with_reducible rfl))
        simp only [Act.put, List.setIfInBounds_toArray, List.set_cons_zero, List.set_cons_succ]
        refine in_call 5 (by kernel_rfl) rfl (by rfl) (fun K hK => ?_)
        have HBC : Hid (Below w0.heap.size w0 W3.drew) := Lib.hid ((HBn5.out.trans ((HM.out.2.2.2.below (by exact HBn5.out.size) (fun g e => by have h1 := LG.out.2.2.1; have h2 := Hn.out; have h3 := S0.out; omega)))).drew)
        refine ⟨fun _ _ => trivial, ?_⟩
        go_simp
        refine ⟨by simp [Fence.wide], ((callsIn_wide.2 (HIHX.out W3.drew HBC.out)).inRound l2).mono ?_⟩
        rintro e W6 ⟨⟨v, TV', TK', rfl, hv, hsp, hge⟩, hb6⟩
        obtain ⟨va, vb, rfl, hva, hvb⟩ := hv
        have hb6' : Below W3.heap.size W3 W6 := (Below.refl _ W3).drew.trans hb6
        have HB6 := Lib.hid hb6'
        have hge' : ∀ g, TV' g ∨ TK' g → W3.heap.size ≤ g := hge
        obtain ⟨m1, m2, m3, m4⟩ := HM.out
        have hk6 : gk < W3.heap.size := m1.lt
        have n1 : MOK W6 (SpV (fun g => TV g ∨ TV' g) (fun g => TK g ∨ TK' g)) gk pre.length := (m1.keep (hb6'.block _ hk6)).weaken (fun u hu => hu.mono (fun _ => .inl) (fun _ => .inl))
        have n2 : Spots W6 (SlB w0 D) (fun g => TV g ∨ TV' g) (fun g => TK g ∨ TK' g) := (m2.below hb6').both hsp
        have n3 : ∀ g, (TV g ∨ TV' g) ∨ (TK g ∨ TK' g) → k2 + 1 ≤ g ∧ ¬ M g := fun g hg => by
          have key : (TV g ∨ TK g) ∨ (TV' g ∨ TK' g) := by
            rcases hg with (h | h) | (h | h)
            · exact .inl (.inl h)
            · exact .inr (.inl h)
            · exact .inl (.inr h)
            · exact .inr (.inr h)
          rcases key with h | h
          · exact m3 g h
          · have h1 := hge' g h
            have h2 := HXR.out
            exact ⟨by omega, fun hMg => by have := (HU3.out g hMg).2; omega⟩
        have n4 : Chg (fun g => g = gk) W5 W6 := m4.trans (F' := fun _ => False) (Chg.ofBelow hb6') (fun _ _ e => e.elim)
        obtain ⟨w7, hr7, hm7, hg7⟩ := n1.store Tryz.underlying85 (v := .agg #[.map va, .map vb]) ⟨va, vb, rfl, fun g e => .inr (hva g e), fun g e => .inr (hvb g e)⟩ HPP.out.1 (by have := HPP.out.2; unfold maxLen; omega)
        have hk7 : k2 + 1 ≤ W3.heap.size := by have := HXR.out; omega
        have HFIN : Hid (Kp w0.heap.size M W3 w7 ∧ ∃ TV TK, MOK w7 (SpV TV TK) gk (pre ++ [Nd.mk xn xpa xpc xps xka xkc xks]).length ∧ Spots w7 (SlB w0 D) TV TK ∧ (∀ g, TV g ∨ TK g → k2 + 1 ≤ g ∧ ¬ M g) ∧ Chg (fun g => g = gk) W5 w7) := Lib.hid ⟨(Kp.of_below hb6' (by have := HN0.out; omega) HU3.out).trans (Kp.grown hg7 (HU3.out.more hb6'.size) (by have h1 := HN0.out; have h2 := hb6'.size; omega) (fun q e => by
          cases e
          exact ⟨by have h1 := LG.out.2.2.1; have h2 := Hn.out; have h3 := S0.out; omega, fun h => by have h1 := (HU3.out gk h).1; have h2 := S1k.out; have h3 := HZK.out; omega⟩)), _, _, by rw [List.length_append]; exact hm7, n2.chg (Chg.ofGrown (F := fun g => g = gk) hg7 (fun g e => by cases e; rfl)) (fun g hg e => by
            have h1 := (n3 g (by
              rcases hg with (h | h) | (h | h)
              · exact .inl (.inl h)
              · exact .inl (.inr h)
              · exact .inr (.inl h)
              · exact .inr (.inr h))).1
            have h2 := S1k.out
            have h3 := HZK.out
            omega), n3, n4.trans (F' := fun g => g = gk) (Chg.ofGrown hg7 (fun g e => by cases e; rfl)) (fun _ _ e => e)⟩
        have HS6 : Hid (∀ V : World, V.heap[gs]? = W3.heap[gs]? → V.heap[xr]? = W3.heap[xr]? → V.cell? ⟨gs, 1, none⟩ = some (.map (some gk)) ∧ V.cell? ⟨xr, 0, none⟩ = some (Value.string xn) ∧ V.cell? ⟨xr, 1, none⟩ = some (Value.slice xpa xps.length xpc) ∧ V.cell? ⟨xr, 2, none⟩ = some (Value.slice xka xks.length xkc)) := Lib.hid (fun V e1 e2 => by
          obtain ⟨q0, q1, q2, q3⟩ := HS3.out
          exact ⟨(World.cell?_of_block (a := ⟨gs, 1, none⟩) e1).trans q0, (World.cell?_of_block (a := ⟨xr, 0, none⟩) e2).trans q1, (World.cell?_of_block (a := ⟨xr, 1, none⟩) e2).trans q2, (World.cell?_of_block (a := ⟨xr, 2, none⟩) e2).trans q3⟩)
        have HS6a := Lib.hid (HS6.out W6 (hb6'.block gs (by have h1 := S1k.out; have h2 := HZK.out; omega)) (hb6'.block xr HXR.out.1))
        have HS7a := Lib.hid (HS6.out w7 ((hg7.block gs (by have h1 := S1k.out; have h2 := HZK.out; have h3 := hb6'.size; omega) (fun e => LG.out.2.2.2.2.1 (Option.some.inj e))).trans (hb6'.block gs (by have h1 := S1k.out; have h2 := HZK.out; omega))) ((hg7.block xr (by have h1 := HXR.out; have h3 := hb6'.size; omega) (fun e => by have h0 := Option.some.inj e; have h1 := S1k.out; have h2 := HZK.out; have h3 := HXR.out; omega)).trans (hb6'.block xr HXR.out.1)))
        clear hsp hge hge' hb6 hb6' m1 m2 m3 m4 hk6 n1 n2 n3 n4 hm7 hg7 hk7 hva hvb
        dsimp only
        refine hK.out _ _ HS6a.out (fun hHeld => ?_)
        clear hK K
        refine in_call 6 (by kernel_rfl) rfl (by rfl) (fun K hK => ?_)
        refine ⟨fun _ _ => trivial, ?_⟩
        go_simp
        refine hK.out _ _ HS7a.out (fun hHeld => ?_)
        clear hK K
        refine in_done (by kernel_rfl) ?_ _
        clear hHeld
        gi_wp2
        exact HFIN.out
      case done2 =>
        rintro D2 M Wd2 hM hu hsz hD ⟨TV, TK, m1, m2, m3, m4⟩ hd
        have hz5 := Z5.out
        have hs1 := S1k.out
        have hzk := HZK.out
        have hs0 := S0.out
        have hlg := LG.out
        have hgs := (m4.block gs (by omega) (fun e => hlg.2.2.2.2.1 e)).trans BX5.out.1
        have s0 : Wd2.cell? ⟨gs, 0, none⟩ = some (.map (some gv)) := by rw [Lib.cell_of_heap hgs]; rfl
        have s1 : Wd2.cell? ⟨gs, 1, none⟩ = some (.map (some gk)) := by rw [Lib.cell_of_heap hgs]; rfl
        have hr2 := (m4.block (w.heap.size + 1) (by omega) (fun e => by omega)).trans HR5.out
        have r0 : Wd2.cell? ⟨w.heap.size + 1, 0, none⟩ = some (.map none) := by rw [Lib.cell_of_heap hr2]; rfl
        have r1 : Wd2.cell? ⟨w.heap.size + 1, 1, none⟩ = some (.map none) := by rw [Lib.cell_of_heap hr2]; rfl
        have f0 := Lib.frozen_of_heap hr2 0
        have f1 := Lib.frozen_of_heap hr2 1
        have hd1 := (m4.block D1 (by have := HD1k.out; omega) (fun e => by have := HD1k.out; omega)).trans BX5.out.2.2
        have HDB := Lib.hid (hu D2 hD)
        have hD1 := HD1k.out
        have hD2 := (hu D2 hD).1
        obtain ⟨Wf, hWf⟩ : ∃ Wf, ((Wd2.setCell ⟨w.heap.size + 1, 0, none⟩ (.map (some gv))).setCell ⟨w.heap.size + 1, 1, none⟩ (.map (some gk))) = Wf := ⟨_, rfl⟩
        have hbx : Wf.heap[w.heap.size + 1]? = some (.cells #[.map (some gv), .map (some gk)] 87 (0, 0)) := by
          rw [← hWf]; exact heap_setCell_same _ (w.heap.size + 1) 1 _ _ (.map (some gk)) (heap_setCell_same _ (w.heap.size + 1) 0 _ _ (.map (some gv)) hr2)
        have hoth : ∀ q, q ≠ w.heap.size + 1 → Wf.heap[q]? = Wd2.heap[q]? := fun q hq => by
          rw [← hWf, heap_setCell_other _ _ _ _ (fun e => hq e), heap_setCell_other _ _ _ _ (fun e => hq e)]
        have hszf : Wf.heap.size = Wd2.heap.size := by rw [← hWf]; simp
        have hbf : Below w.heap.size w Wf := by
          rw [← hWf]
          exact (((HBW5.out.trans (m4.below (by exact HBW5.out.size) (fun g e => by omega))).setCell (p := ⟨w.heap.size + 1, 0, none⟩) (by show w.heap.size ≤ w.heap.size + 1; omega) _).setCell (p := ⟨w.heap.size + 1, 1, none⟩) (by show w.heap.size ≤ w.heap.size + 1; omega) _)
        obtain ⟨Wg, hWg⟩ : ∃ Wg, (Wf.putObj D2 (.deferred none)).putObj D1 (.deferred none) = Wg := ⟨_, rfl⟩
        have hothg : ∀ q, q ≠ D1 → q ≠ D2 → Wg.heap[q]? = Wf.heap[q]? := fun q h1 h2 => by
          rw [← hWg]; exact (World.putObj_heap_other h1).trans (World.putObj_heap_other h2)
        have hgen : ∀ q, q ≠ D1 → q ≠ D2 → q ≠ w.heap.size + 1 → Wg.heap[q]? = Wd2.heap[q]? := fun q h1 h2 h3 => (hothg q h1 h2).trans (hoth q h3)
        have hbg : Below w.heap.size w Wg := by
          have e1 : Below w.heap.size Wf (Wf.putObj D2 (.deferred none)) := ⟨rfl, rfl, rfl, by simp, fun q hq => World.putObj_heap_other (by omega)⟩
          have e2 : Below w.heap.size (Wf.putObj D2 (.deferred none)) ((Wf.putObj D2 (.deferred none)).putObj D1 (.deferred none)) := ⟨rfl, rfl, rfl, by simp, fun q hq => World.putObj_heap_other (by omega)⟩
          rw [← hWg]
          exact (hbf.trans e1).trans e2
        have hdA : Wf.heap[D2]? = some (.deferred (some [])) := (hoth D2 (by omega)).trans hd
        have hdB : (Wf.putObj D2 (.deferred none)).heap[D1]? = some (.deferred (some [])) := (World.putObj_heap_other (by omega)).trans ((hoth D1 (by omega)).trans hd1)
        have hbxg : Wg.heap[w.heap.size + 1]? = some (.cells #[.map (some gv), .map (some gk)] 87 (0, 0)) := (hothg _ (by omega) (by omega)).trans hbx
        have hmv := (HMV5.out.keep (w' := Wd2) (m4.block gv (by omega) (fun e => hlg.2.2.2.2.2 e))).keep (w' := Wg) (hgen gv (by omega) (by omega) (by omega))
        have hmk := m1.keep (w' := Wg) (hgen gk (by omega) (by omega) (by omega))
        have hsp := m2.keep (w' := Wg) (fun g hg => hgen g (by have := (m3 g hg).1; omega) (fun e => (m3 g hg).2 (e ▸ hD)) (by have := (m3 g hg).1; omega))
        have HSP := Lib.hid (hsp.more hmv hmk)
        have HGE : Hid (∀ g, (TV g ∨ g = gv) ∨ (TK g ∨ g = gk) → w.heap.size ≤ g) := Lib.hid (fun g hg => by
          rcases hg with (h | h) | (h | h)
          · have := (m3 g (.inl h)).1; omega
          · omega
          · have := (m3 g (.inr h)).1; omega
          · omega)
        have HBG := Lib.hid hbg
        have HWG := Lib.hid hWg
        have HBXG := Lib.hid hbxg
        clear hM hu hsz hD m1 m2 m3 m4 hbx hoth hszf hbf hothg hgen hbg hbxg hmv hmk hsp hgs hr2 hd1 hd hz5 hs1 hzk hs0 hlg hWg
        dsimp only
        gi_wp2
        try rw [hWf]
        refine ⟨by simp, .inl ⟨_, _, rfl, run_takeDeferred hdA, ?_⟩⟩
        refine ⟨by simp, .inl ⟨_, _, rfl, run_takeDeferred hdB, ?_⟩⟩
        rw [HWG.out]
        have x0 : Wg.cell? ⟨w.heap.size + 1, 0, none⟩ = some (.map (some gv)) := by rw [Lib.cell_of_heap HBXG.out]; rfl
        have x1 : Wg.cell? ⟨w.heap.size + 1, 1, none⟩ = some (.map (some gk)) := by rw [Lib.cell_of_heap HBXG.out]; rfl
        exact ⟨.agg #[.map (some gv), .map (some gk)], by simp [results, Tryz.results38, go_sem, x0, x1], ⟨_, _, _, rfl, ⟨some gv, some gk, rfl, fun g e => .inr (Option.some.inj e).symm, fun g e => .inr (Option.some.inj e).symm⟩, HSP.out, HGE.out⟩, HBG.out⟩
      case stop2 =>
        rintro D c M pre Wd hM hu hsz hD hpre h hd
        exact h.elim
    case stop =>
      rintro D c M pre Wd hM hu hsz hD hpre h hd
      exact h.elim
end Go.Proofs.YtihlpcbebpnmkaaGreatDoor
