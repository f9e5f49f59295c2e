/-
  The document's UART: what it answers, and what it becomes.
-/
import Derived.Test.YtjilkifecdigfaaVUartS
import Derived.Test.YtjilkifecdigfaaVRef
import Derived.Test.YtjilkifecdigfaaDStr
import Derived.Test.YtjilkifecdigfaaQProp
import Derived.Laws.BitsAllLaws
namespace Go.Proofs.Ytjilkifecdigfaa
open Go.RowKit
set_option linter.unusedVariables false
set_option linter.unusedSimpArgs false

/-- A row of bytes, as it lies, in blocks that F has not. -/
def RowB (F : Nat → Prop) (W : World) (v : Value) (zs : List Int) : Prop := ∃ A c, v = .slice A zs.length c ∧ Shows W W.heap.size A zs.length zs ∧ zs.length ≤ c ∧ c ≤ 9223372036854775807 ∧ ∀ p, A = some p → ¬ F p.block ∧ p.block < W.heap.size
theorem shows_block {W W' : World} {B B' n : Nat} {A : Option Addr} {zs : List Int} (h : Shows W B A n zs) (hk : ∀ p, A = some p → W'.heap[p.block]? = W.heap[p.block]?) (hB : B ≤ B') : Shows W' B' A n zs :=
  ⟨h.1, h.2.1, fun h0 => by
    obtain ⟨b, o, e, hb, hc⟩ := h.2.2 h0
    exact ⟨b, o, e, by omega, fun i hi => (World.cell?_of_block (a := ⟨b, o + i, none⟩) (hk ⟨b, o, none⟩ e)).trans (hc i hi)⟩⟩
theorem RowB.keep {F F' : Nat → Prop} {W W' : World} {v : Value} {zs : List Int} (h : RowB F W v zs) (hk : ∀ k, k < W.heap.size → ¬ F k → W'.heap[k]? = W.heap[k]?) (hs : W.heap.size ≤ W'.heap.size) (hF : ∀ k, F' k → F k ∨ W.heap.size ≤ k) : RowB F' W' v zs := by
  obtain ⟨A, c, e, h1, h2, h3, h4⟩ := h
  refine ⟨A, c, e, shows_block h1 (fun p hp => hk _ (h4 p hp).2 (h4 p hp).1) hs, h2, h3, fun p hp => ⟨fun hf => ?_, by have := (h4 p hp).2; omega⟩⟩
  rcases hF _ hf with h | h
  · exact (h4 p hp).1 h
  · have := (h4 p hp).2; omega
theorem RowB.on {F : Nat → Prop} {W W' : World} {v : Value} {zs : List Int} (h : RowB F W v zs) (hb : Below W.heap.size W W') : RowB F W' v zs := h.keep (fun k hk _ => hb.block k hk) hb.size (fun k h => .inl h)
theorem RowB.nil (F : Nat → Prop) (W : World) : RowB F W (.slice none 0 0) [] := ⟨none, 0, rfl, Shows.nil _ _, Nat.le_refl _, by simp, fun p h => by cases h⟩
/-- A row that the call has made, while a cell of block b is set. -/
theorem RowB.made {F : Nat → Prop} {w w' : World} {v : Value} {zs : List Int} {n : Nat} (hown : w'.ownsRow w.heap.size 5 1 v n (u8s zs)) (hn : zs.length = n) (hz : ∀ z ∈ zs, 0 ≤ z ∧ z < 256) (hF : ∀ k, F k → k < w.heap.size) : RowB F w' v zs := by
  obtain ⟨A, c, rfl, h1, h2, h3⟩ := owned_shows hown hz
  subst hn
  exact ⟨A, c, rfl, h1, h2, h3, fun p hp => by
    have := hown.lt p.block (by rw [hp]; rfl)
    exact ⟨fun hf => by have := hF _ hf; omega, this.2⟩⟩
/-- The document's UART is the program's; its rows lie in blocks that are neither the program's nor its own. -/
def R3 (F : Nat → Prop) (b : Nat) (s : UartS) (d : DevR) (W : World) : Prop := d.kind = 3 ∧ d.lost = s.lost ∧ d.may = s.raises ∧ RowB (fun k => F k ∨ k = b) W d.inn s.inn ∧ RowB (fun k => F k ∨ k = b) W d.out s.out
theorem R3.on {F : Nat → Prop} {b : Nat} {s : UartS} {d : DevR} {W W' : World} (h : R3 F b s d W) (hb : Below W.heap.size W W') : R3 F b s d W' := ⟨h.1, h.2.1, h.2.2.1, h.2.2.2.1.on hb, h.2.2.2.2.on hb⟩
/-- The program's UART has done something. -/
theorem R3.chgF {F F' : Nat → Prop} {b : Nat} {s : UartS} {d : DevR} {W W' : World} (h : R3 F b s d W) (hc : ChgF F F' W W') : R3 F' b s d W' := by
  have hF : ∀ k, (F' k ∨ k = b) → (F k ∨ k = b) ∨ W.heap.size ≤ k := fun k hk => hk.elim (fun h => (hc.fresh k h).elim (fun h => .inl (.inl h)) .inr) (fun h => .inl (.inr h))
  have hk : ∀ k, k < W.heap.size → ¬ (F k ∨ k = b) → W'.heap[k]? = W.heap[k]? := fun k h1 h2 => hc.block k h1 (fun h => h2 (.inl h))
  exact ⟨h.1, h.2.1, h.2.2.1, h.2.2.2.1.keep hk hc.size hF, h.2.2.2.2.keep hk hc.size hF⟩
/-- A row while a cell of block b is set. -/
theorem RowB.set {F : Nat → Prop} {b : Nat} {W : World} {v : Value} {zs : List Int} (h : RowB (fun k => F k ∨ k = b) W v zs) (i : Nat) (u : Value) : RowB (fun k => F k ∨ k = b) (W.setCell ⟨b, i, none⟩ u) v zs :=
  h.keep (fun k _ hn => Below.heap_setCell _ _ _ _ (fun e => hn (.inr e))) (by simp [World.setCell]) (fun k h => .inl h)
theorem chgB_of {b : Nat} {w w' : World} (hb : Below w.heap.size w w') (i : Nat) (v : Value) : ChgB b w (w'.setCell ⟨b, i, none⟩ v) := (ChgB.ofBelow hb).set i v
theorem info_u8r : (Try.prog.info? 5).map (fun i => (i.zero, i.size, i.bytes)) = some (some (.int .u8 0), 1, 1) := by kernel_rfl
/-- append([]byte{}, row...): a row of its own. -/
theorem app_own {w : World} {n c : Nat} {A : Option Addr} {zs : List Int} (hs : Shows w w.heap.size A n zs) (hn : n ≤ 1048576) :
    ∃ v' w', (Builtin.append_ #[33, 33] 33 #[.slice (some ⟨w.heap.size, 0, none⟩) 0 0, .slice A n c]).run Try.prog (w.alloc (.cells #[] 5)) = .ok v' w' ∧ w'.ownsRow w.heap.size 5 1 v' n (u8s zs) ∧ Below w.heap.size w w' := by
  obtain ⟨i0, hi0, hz0, hz1, hz2⟩ := info_any info_u8r
  have hb0 : Below w.heap.size w (w.alloc (.cells #[] 5)) := (Below.refl w.heap.size w).alloc (Nat.le_refl _) _
  obtain ⟨v', w', hrun, hown, hgr, _⟩ := run_append_shown (w.alloc (.cells #[] 5)) i0 hi0 hz0 hz1 hz2 w.heap.size (.slice (some ⟨w.heap.size, 0, none⟩) 0 0) 0 [] (World.ownsRow_made w #[] 0 (Nat.le_refl _) (Nat.zero_le _) rfl) w.heap.size A n c zs (hs.below hb0) (by omega) (by simp) 33
  exact ⟨v', w', hrun, by simpa using hown, hb0.grown hgr (by simp) (fun q hq => by simp [Value.ownBlock] at hq; omega)⟩

set_option maxRecDepth 20000 in
set_option maxHeartbeats 8000000 in
theorem refload3 (F : Nat → Prop) (b : Nat) (s : UartS) (d : DevR) (off : Int) (w : World) (h : RefAt w b d) (hr : R3 F b s d w) (hF : ∀ k, F k → k < w.heap.size) (ho : off = 0 ∨ off = 4 ∨ off = 8 ∨ off = 12) (hl : s.inn.length ≤ 16) :
    Calls Try.prog 9 #[.pointer (some ⟨b, 0, none⟩), .int .u64 off] w fun e w' => e = .returned (.int .u64 (uartLoad s off)) ∧ (∃ d', RefAt w' b d' ∧ R3 F b (uartRead s off) d' w') ∧ ChgB b w w' := by
  have HH := Lib.hid h
  have HR := Lib.hid hr
  have hbl := h.lt
  have HFB : Hid (∀ k, (F k ∨ k = b) → k < w.heap.size) := Lib.hid (fun k hk => hk.elim (hF k) (fun h => by omega))
  obtain ⟨hk, hlo, hma, ⟨A, c, hin, hsh, hc1, hc2, _⟩, _⟩ := hr
  obtain ⟨kind, mem, inn, out, lost, may, r0, r1, r2, r3, r4, r5, r6, r7⟩ := d
  obtain ⟨zs, os, slost, sraise⟩ := s
  simp only at hk hlo hma hin hsh hc1 hc2 hl
  subst hk hlo hma hin
  have c0 : w.cell? ⟨b, 0, none⟩ = some (.int .i64 3) := dev_cell h rfl
  have c2 : w.cell? ⟨b, 2, none⟩ = some (.slice A zs.length c) := dev_cell h rfl
  have c4 : w.cell? ⟨b, 4, none⟩ = some (.bool lost) := dev_cell h rfl
  have c5 : w.cell? ⟨b, 5, none⟩ = some (.bool may) := dev_cell h rfl
  have f2 := dev_frozen 2 h
  clear h hF
  rcases ho with rfl | rfl | rfl | rfl
  · rcases zs with _ | ⟨z, zs⟩
    · clear hsh
      go_enter Try.func9, Try.ntmps9
      go_wp2
      go_ret
      exact ⟨rfl, ⟨_, HH.out, HR.out⟩, ChgB.refl b w⟩
    · obtain ⟨ab, ao, rfl, _, hcell⟩ := hsh.2.2 (by simp)
      have z0 : w.cell? ⟨ab, ao, none⟩ = some (.int .u8 z) := by simpa using hcell 0 (by simp)
      have hz := hsh.2.1 z (by simp)
      have e0 : IntKind.u64.wrap z = z := IntWalk.u64_in _ (by omega)
      have hsT : Shows w w.heap.size (cutAt (some ⟨ab, ao, none⟩) c 1) zs.length zs := by
        have h := hsh.from_ (l := 1) (c := c) (by simp) hc1
        simpa using h
      have hzz := fun y hy => hsh.2.1 y (List.mem_cons_of_mem z hy)
      obtain ⟨v', w', hrun, hown, hb'⟩ := app_own (c := c - 1) hsT (by simp at hl; omega)
      have hrb := RowB.made (F := fun k => F k ∨ k = b) hown rfl hzz HFB.out
      obtain ⟨A', c', e, hrest⟩ := id hrb
      subst e
      have HRB := Lib.hid hrb
      have HB' := Lib.hid hb'
      have HRUN := Lib.hid hrun
      obtain ⟨m, hm⟩ : ∃ m, zs.length = m := ⟨_, rfl⟩
      obtain ⟨N, hN⟩ : ∃ N, (z :: zs).length = N := ⟨_, rfl⟩
      have hNm : N = m + 1 := by rw [← hN, ← hm]; rfl
      have hA : Hid (R3 F b ⟨zs, os, lost, may⟩ ⟨3, mem, .slice A' zs.length c', out, lost, may, r0, r1, r2, r3, r4, r5, r6, r7⟩ (w'.setCell ⟨b, 2, none⟩ (.slice A' zs.length c'))) := Lib.hid ⟨rfl, rfl, rfl, HRB.out.set 2 _, (HR.out.2.2.2.2.on HB'.out).set 2 _⟩
      have hset := dev_set (HH.out.on HB'.out) 2 (.slice A' zs.length c')
      have HSET : Hid (RefAt (w'.setCell ⟨b, 2, none⟩ (.slice A' zs.length c')) b ⟨3, mem, .slice A' zs.length c', out, lost, may, r0, r1, r2, r3, r4, r5, r6, r7⟩) := Lib.hid hset
      have g2 := dev_frozen 2 (HH.out.on HB'.out)
      have x2 : w'.cell? ⟨b, 2, none⟩ = some (.slice (some ⟨ab, ao, none⟩) (z :: zs).length c) := dev_cell (HH.out.on HB'.out) rfl
      rw [hm] at HRUN hA HSET
      rw [hN] at c2 x2
      have R1 : ∀ W : World, (Instr.slice 33 (.slice (some ⟨ab, ao, none⟩) N c) (some (.int .i64 1)) none none).run Try.prog W = .ok (.slice (cutAt (some ⟨ab, ao, none⟩) c 1) m (c - 1)) W := fun W => by
        have h := run_from Try.underlying33 (fun w => by kernel_rfl) (some ⟨ab, ao, none⟩) N c 1 1 rfl (by omega) W
        rwa [show N - 1 = m by omega] at h
      have hN0 : ((N : Int) == 0) = false := by rw [beq_eq_false_iff_ne]; omega
      have hN1 : 0 < N := by omega
      obtain ⟨A2, hA2⟩ : ∃ A2, cutAt (some ⟨ab, ao, none⟩) c 1 = A2 := ⟨_, rfl⟩
      rw [hA2] at R1 HRUN
      clear hcell hsT hzz hrun hown hb' hrb hrest hset hN hm hNm hsh hA2 hl
      go_enter Try.func9, Try.ntmps9
      go_wp2_with (at_builtin; refine Lib.wpList_append_run_sl _ rfl _ _ _ rfl _ _ rfl rfl HRUN.out ?_)
      go_ret
      exact ⟨rfl, ⟨_, HSET.out, hA.out⟩, chgB_of HB'.out 2 _⟩
  · obtain ⟨n, hn⟩ : ∃ n, zs.length = n := ⟨_, rfl⟩
    rw [hn] at c2
    have HS : Hid (w.drew.cell? ⟨b, 2, none⟩ = some (.slice A n c) ∧ w.drew.cell? ⟨b, 4, none⟩ = some (.bool lost)) := Lib.hid ⟨c2, c4⟩
    have HV : Hid (uartLoad ⟨zs, os, lost, may⟩ 4 = bitI (decide (0 < n)) + 2 * bitI lost) := Lib.hid (by rw [← hn]; rfl)
    obtain ⟨q, hq⟩ : ∃ q, decide (0 < n) = q := ⟨_, rfl⟩
    rw [hq] at HV
    have hqi : decide ((0 : Int) < (n : Int)) = q := by rw [← hq]; simp
    clear c2 c4 c5 f2 hsh hc1 hn
    go_enter Try.func9, Try.ntmps9
    go_wp2_with fail
    refine wp_region_held_drew (S := fun W => W.cell? ⟨b, 2, none⟩ = some (.slice A n c) ∧ W.cell? ⟨b, 4, none⟩ = some (.bool lost)) (by kernel_rfl) HS.out (fun hHeld => ?_)
    refine held_take 0 rfl (by kernel_rfl) (by kernel_rfl) (by kernel_rfl) (fun _ _ _ h => h) (by rfl) hHeld (v := ?_) (fun w hSw => ?_) (fun _ => ?_)
    rotate_left
    · ((try dsimp only at hSw); go_simp; (try with_reducible rfl))
    simp only [Act.put, List.setIfInBounds_toArray, List.set_cons_zero, List.set_cons_succ]
    refine held_take 1 rfl (by kernel_rfl) (by kernel_rfl) (by kernel_rfl) (fun _ _ _ h => h) (by rfl) hHeld (v := ?_) (fun w hSw => ?_) (fun _ => ?_)
    rotate_left
    · ((try dsimp only at hSw); go_simp; (try with_reducible rfl))
    simp only [Act.put, List.setIfInBounds_toArray, List.set_cons_zero, List.set_cons_succ]
    refine held_take 2 rfl (by kernel_rfl) (by kernel_rfl) (by kernel_rfl) (fun _ _ _ h => h) (by rfl) hHeld (v := ?_) (fun w hSw => ?_) (fun _ => ?_)
    rotate_left
    · ((try dsimp only at hSw); go_simp; (try with_reducible rfl))
    simp only [Act.put, List.setIfInBounds_toArray, List.set_cons_zero, List.set_cons_succ]
    refine held_take 3 rfl (by kernel_rfl) (by kernel_rfl) (by kernel_rfl) (fun _ _ _ h => h) (by rfl) hHeld (v := ?_) (fun w hSw => ?_) (fun _ => ?_)
    rotate_left
    · ((try dsimp only at hSw); go_simp; (try with_reducible rfl))
    simp only [Act.put, List.setIfInBounds_toArray, List.set_cons_zero, List.set_cons_succ]
    refine held_take 4 rfl (by kernel_rfl) (by kernel_rfl) (by kernel_rfl) (fun _ _ _ h => h) (by rfl) hHeld (v := ?_) (fun w hSw => ?_) (fun _ => ?_)
    rotate_left
    · ((try dsimp only at hSw); go_simp; (try with_reducible rfl))
    simp only [Act.put, List.setIfInBounds_toArray, List.set_cons_zero, List.set_cons_succ]
    refine held_take 5 rfl (by kernel_rfl) (by kernel_rfl) (by kernel_rfl) (fun _ _ _ h => h) (by rfl) hHeld (v := ?_) (fun w hSw => ?_) (fun _ => ?_)
    rotate_left
    · ((try dsimp only at hSw); go_simp; (try with_reducible rfl))
    simp only [Act.put, List.setIfInBounds_toArray, List.set_cons_zero, List.set_cons_succ]
    refine held_take 7 rfl (by kernel_rfl) (by kernel_rfl) (by kernel_rfl) (fun _ _ _ h => h) (by rfl) hHeld (v := ?_) (fun w hSw => ?_) (fun _ => ?_)
    rotate_left
    · ((try dsimp only at hSw); go_simp; (try with_reducible rfl))
    simp only [Act.put, List.setIfInBounds_toArray, List.set_cons_zero, List.set_cons_succ]
    refine held_take 8 rfl (by kernel_rfl) (by kernel_rfl) (by kernel_rfl) (fun _ _ _ h => h) (by rfl) hHeld (v := ?_) (fun w hSw => ?_) (fun _ => ?_)
    rotate_left
    · ((try dsimp only at hSw); go_simp; (try with_reducible rfl))
    simp only [Act.put, List.setIfInBounds_toArray, List.set_cons_zero, List.set_cons_succ]
    refine held_take 9 rfl (by kernel_rfl) (by kernel_rfl) (by kernel_rfl) (fun _ _ _ h => h) (by rfl) hHeld (v := ?_) (fun w hSw => ?_) (fun _ => ?_)
    rotate_left
    · ((try dsimp only at hSw); go_simp; (try with_reducible rfl))
    simp only [Act.put, List.setIfInBounds_toArray, List.set_cons_zero, List.set_cons_succ]
    refine held_take 10 rfl (by kernel_rfl) (by kernel_rfl) (by kernel_rfl) (fun _ _ _ h => h) (by rfl) hHeld (v := ?_) (fun w hSw => ?_) (fun _ => ?_)
    rotate_left
    · ((try dsimp only at hSw); go_simp; (try with_reducible rfl))
    simp only [Act.put, List.setIfInBounds_toArray, List.set_cons_zero, List.set_cons_succ]
    refine held_call 6 (by kernel_rfl) rfl (by rfl) (fun K hK => ?_)
    go_simp
    refine (one_any q _).mono ?_
    rintro e w3 ⟨rfl, rfl⟩
    dsimp only
    refine hK.out _ _ HS.out (fun hHeld => ?_)
    clear hK K
    refine held_call 11 (by kernel_rfl) rfl (by rfl) (fun K hK => ?_)
    go_simp
    refine (one_any lost _).mono ?_
    rintro e w3 ⟨rfl, rfl⟩
    dsimp only
    refine hK.out _ _ HS.out (fun hHeld => ?_)
    clear hK K
    refine held_take 12 rfl (by kernel_rfl) (by kernel_rfl) (by kernel_rfl) (fun _ _ _ h => h) (by rfl) hHeld (v := ?_) (fun w hSw => ?_) (fun _ => ?_)
    rotate_left
    · ((try dsimp only at hSw); go_simp; (try with_reducible rfl))
    simp only [Act.put, List.setIfInBounds_toArray, List.set_cons_zero, List.set_cons_succ]
    refine held_take 13 rfl (by kernel_rfl) (by kernel_rfl) (by kernel_rfl) (fun _ _ _ h => h) (by rfl) hHeld (v := ?_) (fun w hSw => ?_) (fun _ => ?_)
    rotate_left
    · ((try dsimp only at hSw); go_simp; (try with_reducible rfl))
    simp only [Act.put, List.setIfInBounds_toArray, List.set_cons_zero, List.set_cons_succ]
    refine held_take 14 rfl (by kernel_rfl) (by kernel_rfl) (by kernel_rfl) (fun _ _ _ h => h) (by rfl) hHeld (v := ?_) (fun w hSw => ?_) (fun _ => ?_)
    rotate_left
    · ((try dsimp only at hSw); go_simp; (try with_reducible rfl))
    simp only [Act.put, List.setIfInBounds_toArray, List.set_cons_zero, List.set_cons_succ]
    refine wpAnyH_done (by kernel_rfl) ?_ _
    clear hHeld
    go_wp2
    go_ret
    refine ⟨?_, ⟨_, HH.out, HR.out⟩, (ChgB.refl b w).drew⟩
    rw [HV.out]
    cases q <;> cases lost <;> rfl
  · have HV : Hid (uartLoad ⟨zs, os, lost, may⟩ 8 = bitI may) := Lib.hid rfl
    clear c2 c4 f2 hsh hc1
    go_enter Try.func9, Try.ntmps9
    go_wp2_with fail
    refine (one_any may _).mono ?_
    rintro e w3 ⟨rfl, rfl⟩
    go_wp2
    go_ret
    exact ⟨by (rw [HV.out] <;> rfl), ⟨_, HH.out, HR.out⟩, ChgB.refl b w⟩
  · obtain ⟨n, hn⟩ : ∃ n, zs.length = n := ⟨_, rfl⟩
    rw [hn] at c2
    have HV : Hid (uartLoad ⟨zs, os, lost, may⟩ 12 = (n : Int)) := Lib.hid (by rw [← hn]; rfl)
    have e0 : IntKind.u64.wrap (n : Int) = (n : Int) := IntWalk.u64_in _ (by omega)
    clear c4 c5 f2 hsh hc1 hn
    go_enter Try.func9, Try.ntmps9
    go_wp2
    go_ret
    exact ⟨by (rw [HV.out] <;> rfl), ⟨_, HH.out, HR.out⟩, ChgB.refl b w⟩
/-- append(append([]byte{}, row...), z): a row of its own. -/
theorem app_more {w : World} {n c : Nat} {A : Option Addr} {zs : List Int} (hs : Shows w w.heap.size A n zs) (hn : n ≤ 1048576) (z : Int) :
    ∃ A1 c1 w1 A' c' w', (Builtin.append_ #[33, 33] 33 #[.slice (some ⟨w.heap.size, 0, none⟩) 0 0, .slice A n c]).run Try.prog (w.alloc (.cells #[] 5)) = .ok (.slice A1 n c1) w1 ∧
      (Builtin.append_ #[33, 33] 33 #[.slice A1 n c1, .slice (some ⟨w1.heap.size, 0, none⟩) 1 1]).run Try.prog (w1.alloc (.cells #[.int .u8 z] 5)) = .ok (.slice A' (n + 1) c') w' ∧ w'.ownsRow w.heap.size 5 1 (.slice A' (n + 1) c') (n + 1) (u8s (zs ++ [z])) ∧ Below w.heap.size w w1 ∧ Below w.heap.size w w' := by
  obtain ⟨v1, w1, h1, h2, h3⟩ := app_own (c := c) hs hn
  obtain ⟨i0, hi0, hz0, hz1, hz2⟩ := info_any info_u8r
  obtain ⟨A', c', w', r1, r2, r3⟩ := app_lit Try.underlying33 hi0 hz0 hz1 hz2 rfl h2 (.int .u8 z) rfl (by omega) (by omega) h3.size 33
  obtain ⟨A1, c1, e, _⟩ := owned_shows h2 hs.2.1
  subst e
  exact ⟨A1, c1, w1, A', c', w', h1, r1, by simpa [u8s] using r2, h3, h3.trans r3⟩

set_option maxRecDepth 20000 in
set_option maxHeartbeats 8000000 in
theorem refcome3 (F : Nat → Prop) (b : Nat) (s : UartS) (d : DevR) (z : Int) (w : World) (h : RefAt w b d) (hr : R3 F b s d w) (hF : ∀ k, F k → k < w.heap.size) (hl : s.inn.length ≤ 16) (hz : 0 ≤ z ∧ z ≤ 255) :
    Calls Try.prog 13 #[.pointer (some ⟨b, 0, none⟩), .int .u8 z] w fun e w' => e = .returned (.bool (decide (s.inn.length < 16))) ∧ (∃ d', RefAt w' b d' ∧ R3 F b (uartCome s z) d' w') ∧ ChgB b w w' := by
  have HH := Lib.hid h
  have HR := Lib.hid hr
  have hbl := h.lt
  have HFB : Hid (∀ k, (F k ∨ k = b) → k < w.heap.size) := Lib.hid (fun k hk => hk.elim (hF k) (fun h => by omega))
  obtain ⟨hk, hlo, hma, ⟨A, c, hin, hsh, hc1, hc2, _⟩, _⟩ := hr
  obtain ⟨kind, mem, inn, out, lost, may, r0, r1, r2, r3, r4, r5, r6, r7⟩ := d
  obtain ⟨zs, os, slost, sraise⟩ := s
  simp only at hk hlo hma hin hsh hc1 hc2 hl
  subst hk hlo hma hin
  have c2 : w.cell? ⟨b, 2, none⟩ = some (.slice A zs.length c) := dev_cell h rfl
  have c4 : w.cell? ⟨b, 4, none⟩ = some (.bool lost) := dev_cell h rfl
  have f4 := dev_frozen 4 h
  clear h hF
  by_cases h16 : zs.length < 16
  · have HV : Hid (decide (zs.length < 16) = true ∧ uartCome ⟨zs, os, lost, may⟩ z = ⟨zs ++ [z], os, lost, may⟩) := Lib.hid ⟨decide_eq_true h16, by rw [uartCome, if_pos h16]⟩
    have q : decide ((16 : Int) ≤ (zs.length : Int)) = false := decide_eq_false (by omega)
    have q' : decide ((zs.length : Int) ≥ (16 : Int)) = false := decide_eq_false (by omega)
    obtain ⟨A1, c1, w1, A', c', w', r1', r2', hown, hb1, hb'⟩ := app_more (c := c) hsh (by omega) z
    have hrb := RowB.made (F := fun k => F k ∨ k = b) hown (by simp) (by
      intro y hy
      rcases List.mem_append.1 hy with h | h
      · exact hsh.2.1 y h
      · rw [List.mem_singleton.1 h]; omega) HFB.out
    have HB' := Lib.hid hb'
    have HR1 := Lib.hid r1'
    have HR2 := Lib.hid r2'
    have hA : Hid (R3 F b ⟨zs ++ [z], os, lost, may⟩ ⟨3, mem, .slice A' (zs.length + 1) c', out, lost, may, r0, r1, r2, r3, r4, r5, r6, r7⟩ (w'.setCell ⟨b, 2, none⟩ (.slice A' (zs.length + 1) c'))) := Lib.hid ⟨rfl, rfl, rfl, hrb.set 2 _, (HR.out.2.2.2.2.on HB'.out).set 2 _⟩
    have HSET : Hid (RefAt (w'.setCell ⟨b, 2, none⟩ (.slice A' (zs.length + 1) c')) b ⟨3, mem, .slice A' (zs.length + 1) c', out, lost, may, r0, r1, r2, r3, r4, r5, r6, r7⟩) := Lib.hid (dev_set (HH.out.on HB'.out) 2 (.slice A' (zs.length + 1) c'))
    have g2 := dev_frozen 2 (HH.out.on HB'.out)
    have x2 : w'.cell? ⟨b, 2, none⟩ = some (.slice A zs.length c) := dev_cell (HH.out.on HB'.out) rfl
    obtain ⟨n, hn⟩ : ∃ n, zs.length = n := ⟨_, rfl⟩
    rw [hn] at c2 x2 HR1 HR2 hA HSET HV q q' 
    rw [hn]
    clear r1' r2' hown hb1 hb' hrb hsh hn h16 hl hc1 c4 f4
    go_enter Try.func13, Try.ntmps13
    go_wp2_with (at_builtin; first | refine Lib.wpList_append_run_sl _ rfl _ _ _ rfl _ _ rfl rfl HR1.out ?_ | refine Lib.wpList_append_run_sl _ rfl _ _ _ rfl _ _ rfl rfl HR2.out ?_)
    go_ret
    exact ⟨by (rw [HV.out.1] <;> rfl), ⟨_, HSET.out, by rw [HV.out.2]; exact hA.out⟩, chgB_of HB'.out 2 _⟩
  · have HV : Hid (decide (zs.length < 16) = false ∧ uartCome ⟨zs, os, lost, may⟩ z = ⟨zs, os, true, may⟩) := Lib.hid ⟨decide_eq_false h16, by rw [uartCome, if_neg h16]⟩
    have q : decide ((16 : Int) ≤ (zs.length : Int)) = true := decide_eq_true (by omega)
    have q' : decide ((zs.length : Int) ≥ (16 : Int)) = true := decide_eq_true (by omega)
    have HSET : Hid (RefAt (w.setCell ⟨b, 4, none⟩ (.bool true)) b ⟨3, mem, .slice A zs.length c, out, true, may, r0, r1, r2, r3, r4, r5, r6, r7⟩) := Lib.hid (dev_set HH.out 4 (.bool true))
    have hA : Hid (R3 F b ⟨zs, os, true, may⟩ ⟨3, mem, .slice A zs.length c, out, true, may, r0, r1, r2, r3, r4, r5, r6, r7⟩ (w.setCell ⟨b, 4, none⟩ (.bool true))) := Lib.hid ⟨rfl, rfl, rfl, HR.out.2.2.2.1.set 4 _, HR.out.2.2.2.2.set 4 _⟩
    clear hsh h16 hl hc1
    go_enter Try.func13, Try.ntmps13
    go_wp2
    go_ret
    exact ⟨by (rw [HV.out.1] <;> rfl), ⟨_, HSET.out, by rw [HV.out.2]; exact hA.out⟩, (ChgB.refl b w).set _ _⟩

set_option maxHeartbeats 2000000 in
theorem refhigh3 (F : Nat → Prop) (b : Nat) (s : UartS) (d : DevR) (w : World) (h : RefAt w b d) (hr : R3 F b s d w) :
    Calls Try.prog 15 #[.pointer (some ⟨b, 0, none⟩)] w fun e w' => e = .returned (.bool (s.raises && decide (0 < s.inn.length))) ∧ w = w' := by
  obtain ⟨hk, hlo, hma, ⟨A, c, hin, hsh, hc1, hc2, _⟩, _⟩ := hr
  obtain ⟨kind, mem, inn, out, lost, may, r0, r1, r2, r3, r4, r5, r6, r7⟩ := d
  obtain ⟨zs, os, slost, sraise⟩ := s
  simp only at hk hlo hma hin hsh hc1 hc2
  subst hk hlo hma hin
  have c0 : w.cell? ⟨b, 0, none⟩ = some (.int .i64 3) := dev_cell h rfl
  have c2 : w.cell? ⟨b, 2, none⟩ = some (.slice A zs.length c) := dev_cell h rfl
  have c5 : w.cell? ⟨b, 5, none⟩ = some (.bool may) := dev_cell h rfl
  have q : decide ((0 : Int) < (zs.length : Int)) = decide (0 < zs.length) := by rw [Bool.eq_iff_iff]; simp
  obtain ⟨r, hrr⟩ : ∃ r, decide (0 < zs.length) = r := ⟨_, rfl⟩
  rw [hrr] at q
  have HRR := Lib.hid hrr
  clear h hsh
  cases may
  · go_enter Try.func15, Try.ntmps15
    go_wp2
    go_ret
    exact ⟨rfl, rfl⟩
  · go_enter Try.func15, Try.ntmps15
    go_wp2
    go_ret
    exact ⟨rfl, rfl⟩

set_option maxRecDepth 20000 in
set_option maxHeartbeats 8000000 in
theorem refstore3 (F : Nat → Prop) (b : Nat) (s : UartS) (d : DevR) (off v : Int) (w : World) (h : RefAt w b d) (hr : R3 F b s d w) (hF : ∀ k, F k → k < w.heap.size) (ho : off = 0 ∨ off = 4 ∨ off = 8 ∨ off = 12) (hl : s.out.length ≤ 1048576) (hv : U32v v) :
    Calls Try.prog 11 #[.pointer (some ⟨b, 0, none⟩), .int .u64 off, .int .u32 v] w fun e w' => e = .returned (.tuple #[]) ∧ (∃ d', RefAt w' b d' ∧ R3 F b (uartStore s off v) d' w') ∧ ChgB b w w' := by
  obtain ⟨v0, v1⟩ := hv
  have HH := Lib.hid h
  have HR := Lib.hid hr
  have hbl := h.lt
  have HFB : Hid (∀ k, (F k ∨ k = b) → k < w.heap.size) := Lib.hid (fun k hk => hk.elim (hF k) (fun h => by omega))
  obtain ⟨hk, hlo, hma, _, ⟨A, c, hin, hsh, hc1, hc2, _⟩⟩ := hr
  obtain ⟨kind, mem, inn, out, lost, may, r0, r1, r2, r3, r4, r5, r6, r7⟩ := d
  obtain ⟨is, zs, slost, sraise⟩ := s
  simp only at hk hlo hma hin hsh hc1 hc2 hl
  subst hk hlo hma hin
  have c0 : w.cell? ⟨b, 0, none⟩ = some (.int .i64 3) := dev_cell h rfl
  have c3 : w.cell? ⟨b, 3, none⟩ = some (.slice A zs.length c) := dev_cell h rfl
  have c4 : w.cell? ⟨b, 4, none⟩ = some (.bool lost) := dev_cell h rfl
  have c5 : w.cell? ⟨b, 5, none⟩ = some (.bool may) := dev_cell h rfl
  have f4 := dev_frozen 4 h
  have f5 := dev_frozen 5 h
  clear h hF
  rcases ho with rfl | rfl | rfl | rfl
  · obtain ⟨z, hz⟩ : ∃ z, v % 256 = z := ⟨_, rfl⟩
    have hz2 : 0 ≤ z ∧ z < 256 := by omega
    have ez : IntKind.u8.wrap z = z := IntWalk.u8_in _ (by omega)
    obtain ⟨A1, c1, w1, A', c', w', r1', r2', hown, hb1, hb'⟩ := app_more (c := c) hsh hl z
    have hrb := RowB.made (F := fun k => F k ∨ k = b) hown (by simp) (by
      intro y hy
      rcases List.mem_append.1 hy with h | h
      · exact hsh.2.1 y h
      · rw [List.mem_singleton.1 h]; exact hz2) HFB.out
    have HB' := Lib.hid hb'
    have HR1 := Lib.hid r1'
    have HR2 := Lib.hid r2'
    have hA : Hid (R3 F b (uartStore ⟨is, zs, lost, may⟩ 0 v) ⟨3, mem, inn, .slice A' (zs.length + 1) c', lost, may, r0, r1, r2, r3, r4, r5, r6, r7⟩ (w'.setCell ⟨b, 3, none⟩ (.slice A' (zs.length + 1) c'))) := Lib.hid (by
      rw [uartStore, if_pos rfl, hz]
      exact ⟨rfl, rfl, rfl, (HR.out.2.2.2.1.on HB'.out).set 3 _, hrb.set 3 _⟩)
    have HSET : Hid (RefAt (w'.setCell ⟨b, 3, none⟩ (.slice A' (zs.length + 1) c')) b ⟨3, mem, inn, .slice A' (zs.length + 1) c', lost, may, r0, r1, r2, r3, r4, r5, r6, r7⟩) := Lib.hid (dev_set (HH.out.on HB'.out) 3 (.slice A' (zs.length + 1) c'))
    have g2 := dev_frozen 3 (HH.out.on HB'.out)
    have x2 : w'.cell? ⟨b, 3, none⟩ = some (.slice A zs.length c) := dev_cell (HH.out.on HB'.out) rfl
    obtain ⟨n, hn⟩ : ∃ n, zs.length = n := ⟨_, rfl⟩
    rw [hn] at c3 x2 HR1 HR2 hA HSET
    clear r1' r2' hown hb1 hb' hrb hsh hn hl hc1 c4 c5 f4 f5 hz2
    go_enter Try.func11, Try.ntmps11
    go_wp2_with (at_builtin; first | refine Lib.wpList_append_run_sl _ rfl _ _ _ rfl _ _ rfl rfl HR1.out ?_ | refine Lib.wpList_append_run_sl _ rfl _ _ _ rfl _ _ rfl rfl HR2.out ?_)
    go_end0
    exact ⟨rfl, ⟨_, HSET.out, hA.out⟩, chgB_of HB'.out 3 _⟩
  · obtain ⟨m, rfl⟩ := Int.eq_ofNat_of_zero_le v0
    have hand : bits .and .u32 (m : Int) 2 = ((m &&& 2 : Nat) : Int) := u32_and_nat m 2 (by omega) (by omega)
    by_cases h2 : m / 2 % 2 = 0
    · have hm : m &&& 2 = 0 := by
        apply Nat.eq_of_testBit_eq
        intro i
        rw [Nat.testBit_and]
        by_cases hi : i = 1
        · subst hi; simp [Nat.testBit, Nat.shiftRight_succ, h2]
        · rw [show (2 : Nat) = 2 ^ 1 from rfl, Nat.testBit_two_pow_of_ne (by omega)]; simp
      rw [hm] at hand
      have HV : Hid (uartStore ⟨is, zs, lost, may⟩ 4 (m : Int) = ⟨is, zs, lost, may⟩) := Lib.hid (by
        rw [uartStore, if_neg (by omega), if_pos rfl, decide_eq_true (by omega)]; simp)
      clear hsh hl hc1 c5 f5 h2 hm
      go_enter Try.func11, Try.ntmps11
      go_wp2
      go_end0
      exact ⟨rfl, ⟨_, HH.out, by rw [HV.out]; exact HR.out⟩, ChgB.refl b w⟩
    · have hm : m &&& 2 = 2 := by
        apply Nat.eq_of_testBit_eq
        intro i
        rw [Nat.testBit_and]
        by_cases hi : i = 1
        · subst hi; simp [Nat.testBit, Nat.shiftRight_succ]; omega
        · rw [show (2 : Nat) = 2 ^ 1 from rfl, Nat.testBit_two_pow_of_ne (by omega)]; simp
      rw [hm] at hand
      have HV : Hid (uartStore ⟨is, zs, lost, may⟩ 4 (m : Int) = ⟨is, zs, false, may⟩) := Lib.hid (by
        rw [uartStore, if_neg (by omega), if_pos rfl, decide_eq_false (by omega)]; simp)
      have HSET : Hid (RefAt (w.setCell ⟨b, 4, none⟩ (.bool false)) b ⟨3, mem, inn, .slice A zs.length c, false, may, r0, r1, r2, r3, r4, r5, r6, r7⟩) := Lib.hid (dev_set HH.out 4 (.bool false))
      have hA : Hid (R3 F b ⟨is, zs, false, may⟩ ⟨3, mem, inn, .slice A zs.length c, false, may, r0, r1, r2, r3, r4, r5, r6, r7⟩ (w.setCell ⟨b, 4, none⟩ (.bool false))) := Lib.hid ⟨rfl, rfl, rfl, HR.out.2.2.2.1.set 4 _, HR.out.2.2.2.2.set 4 _⟩
      clear hsh hl hc1 c5 f5 h2 hm
      go_enter Try.func11, Try.ntmps11
      go_wp2
      go_end0
      exact ⟨rfl, ⟨_, HSET.out, by rw [HV.out]; exact hA.out⟩, (ChgB.refl b w).set _ _⟩
  · obtain ⟨q, hq⟩ : ∃ q, decide (v % 2 = 1) = q := ⟨_, rfl⟩
    have hq2 : (v % 2 == 1) = q := by rw [← hq, Bool.eq_iff_iff]; simp
    have HV : Hid (uartStore ⟨is, zs, lost, may⟩ 8 v = ⟨is, zs, lost, q⟩) := Lib.hid (by
      rw [uartStore, if_neg (by omega), if_neg (by omega), if_pos rfl, hq])
    have HSET : Hid (RefAt (w.setCell ⟨b, 5, none⟩ (.bool q)) b ⟨3, mem, inn, .slice A zs.length c, lost, q, r0, r1, r2, r3, r4, r5, r6, r7⟩) := Lib.hid (dev_set HH.out 5 (.bool q))
    have hA : Hid (R3 F b ⟨is, zs, lost, q⟩ ⟨3, mem, inn, .slice A zs.length c, lost, q, r0, r1, r2, r3, r4, r5, r6, r7⟩ (w.setCell ⟨b, 5, none⟩ (.bool q))) := Lib.hid ⟨rfl, rfl, rfl, HR.out.2.2.2.1.set 5 _, HR.out.2.2.2.2.set 5 _⟩
    clear hsh hl hc1 c4 f4 hq
    go_enter Try.func11, Try.ntmps11
    go_wp2
    go_end0
    exact ⟨rfl, ⟨_, HSET.out, by rw [HV.out]; exact hA.out⟩, (ChgB.refl b w).set _ _⟩
  · have HV : Hid (uartStore ⟨is, zs, lost, may⟩ 12 v = ⟨is, zs, lost, may⟩) := Lib.hid (by
      rw [uartStore, if_neg (by omega), if_neg (by omega), if_neg (by omega)])
    clear hsh hl hc1 c4 f4 c5 f5
    go_enter Try.func11, Try.ntmps11
    go_wp2
    go_end0
    exact ⟨rfl, ⟨_, HH.out, by rw [HV.out]; exact HR.out⟩, ChgB.refl b w⟩
end Go.Proofs.Ytjilkifecdigfaa
