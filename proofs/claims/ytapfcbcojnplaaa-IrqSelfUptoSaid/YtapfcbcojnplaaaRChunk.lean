/-
  Layer 12: slices.Chunk over cells: the iterator has its contract.
-/
import Derived.Test.YtapfcbcojnplaaaBase1
import Derived.Test.YtapfcbcojnplaaaRInH
import Derived.Laws.EntriesVeiled
namespace Go.Proofs.Ytapfcbcojnplaaa
open Go.RowKit
set_option linter.unusedVariables false
set_option linter.unusedSimpArgs false
attribute [local go_sem] Oper.semAt_some

theorem run_cut3 {P : Program} {t e : TypeId} (ht : P.underlying t = some (.slice e)) (he : ∀ w, (Go.sizeOf e).run P w = .ok 1 w) (A : Option Addr) (n c : Nat) (L H M : Int) (l h : Nat) (hL : L = l) (hH : H = h) (hM : M = h) (hl : l ≤ h) (hh : h ≤ c) (W : World) :
    (Instr.slice t (.slice A n c) (some (.int .i64 L)) (some (.int .i64 H)) (some (.int .i64 M))).run P W = .ok (.slice (cutAt A h l) (h - l) (h - l)) W := by
  subst hL hH hM
  have ht' : P.underlying t = some (.slice (P.elem t)) := by simp [Program.elem, ht]
  have he' : P.elem t = e := by simp [Program.elem, ht]
  rw [run_slice_lhm W t _ _ _ ht' .i64 .i64 .i64 _ _ _ (by omega) (by omega) (by omega) (by omega), he', he]
  simp [Result.andThen, sliced, cutAt]
theorem size_u32c (w : World) : (Go.sizeOf 22).run Try.prog w = .ok 1 w := by kernel_rfl
/-- What comes: the next k values. -/
def EncC (n k : Nat) (vs : List Value) (W : World) (j : Nat) (args : Array Value) : Prop := ∃ A, args = #[.slice A k k] ∧ Cel W n A k ((vs.drop (j * k)).take k)
theorem Cel.chunk {w : World} {B n l k : Nat} {A : Option Addr} {xs : List Value} (h : Cel w B A n xs) (hk : l + k ≤ n) : Cel w B (cutAt A (l + k) l) k ((xs.drop l).take k) :=
  ⟨by rw [List.length_take, List.length_drop, h.1]; omega, fun h0 => by
    obtain ⟨b, o, e, hb, hcc⟩ := h.2 (by omega)
    subst e
    have e : cutAt (some ⟨b, o, none⟩) (l + k) l = some ⟨b, o + l, none⟩ := by
      unfold cutAt
      rw [if_neg (by omega)]
      simp [addr_add]
    exact ⟨b, o + l, e, hb, fun i hi => by rw [List.getElem?_take_of_lt hi, List.getElem?_drop, Nat.add_assoc]; exact hcc (l + i) (by omega)⟩⟩

set_option maxRecDepth 20000 in
set_option maxHeartbeats 2000000 in
theorem chunk_any (A : Option Addr) (n c k : Nat) (hk : 1 ≤ k) (w : World) : Calls Try.prog 35 #[.slice A n c, .int .i64 k] w fun e w' => e = .returned (.func (.func 43) #[] #[.pointer (some ⟨w.heap.size, 0, none⟩), .pointer (some ⟨w.heap.size + 1, 0, none⟩)]) ∧ w' = (w.alloc (.cells #[.slice A n c] 76)).alloc (.cells #[.int .i64 k] 3) := by
  have q1 : decide ((k : Int) < 1) = false := decide_eq_false (by omega)
  refine (callsIn_wide (n := 0)).1 ?_
  refine callsIn_of_wp Try.func35 rfl trivial ?_ rfl
  simp only [Try.ntmps35, List.size_toArray, List.length_cons, List.length_nil, Nat.reduceAdd, Nat.reduceSub, Array.replicate_succ, Array.replicate_zero, List.push_toArray, List.append_toArray, List.nil_append, List.cons_append]
  gi_wp2
  go_ret
  exact ⟨rfl, rfl⟩

set_option maxRecDepth 20000 in
set_option maxHeartbeats 4000000 in
theorem chunk_walks (A : Option Addr) (c L k m n kb : Nat) (vs : List Value) (w : World) (hcel : Cel w n A L vs) (hn : n ≤ w.heap.size) (hk : 1 ≤ k) (hL : L = m * k) (hc : L ≤ c ∧ c ≤ 9223372036854775807 ∧ L ≤ 140737488351232) :
    WalksX (fun W => W.heap[kb]? = some (.cells #[.slice A L c] 76 (0, 0)) ∧ W.heap[kb + 1]? = some (.cells #[.int .i64 k] 3 (0, 0))) Try.prog 43 #[.pointer (some ⟨kb, 0, none⟩), .pointer (some ⟨kb + 1, 0, none⟩)] n (EncC n k vs) (List.range m) w := by
  intro ld J Jx W hW hJ hJx hJX hY h0
  have HCEL := Lib.hid (fun (wr : World) (hb : Below n W wr) => (hcel.below (hW.mono hn)).below hb)
  have HKW : Hid (∀ (T : Nat → Prop) (s : List Nat) (wr : World), J T s wr → wr.cell? ⟨kb, 0, none⟩ = some (.slice A L c) ∧ wr.cell? ⟨kb + 1, 0, none⟩ = some (.int .i64 k)) := Lib.hid (fun T s wr h => ⟨by rw [Lib.cell_of_heap (hJX T s wr h).1]; rfl, by rw [Lib.cell_of_heap (hJX T s wr h).2]; rfl⟩)
  have HY := Lib.hid hY
  have HJ := Lib.hid hJ
  have HNW : Hid (n ≤ W.heap.size) := Lib.hid (Nat.le_trans hn hW.size)
  have HJ0 := Lib.hid h0
  have HL := Lib.hid hL
  have HST : Hid (∀ j, j < m → List.range j ++ [j] = List.range (j + 1) ∧ List.range (j + 1) <+: List.range m) := Lib.hid (fun j hj => ⟨List.range_succ.symm, by
    obtain ⟨d, rfl⟩ := Nat.exists_eq_add_of_le hj
    exact ⟨(List.range d).map (j + 1 + ·), (List.range_add ..).symm⟩⟩)
  obtain ⟨hl1, hl2, hl3⟩ := hc
  have hkL : m = 0 ∨ k ≤ L := by
    rcases Nat.eq_zero_or_pos m with h | h
    · exact .inl h
    · exact .inr (by rw [hL]; exact Nat.le_mul_of_pos_left k h)
  clear hcel hn hW hY hJ hJx h0 hL hJX
  refine (callsIn_wide (n := 0)).1 ?_
  refine callsIn_of_wp Try.func43 rfl trivial ?_ rfl
  simp only [Try.ntmps43, List.size_toArray, List.length_cons, List.length_nil, Nat.reduceAdd, Nat.reduceSub, Array.replicate_succ, Array.replicate_zero, List.push_toArray, List.append_toArray, List.nil_append, List.cons_append]
  gi_wp2_with fail
  gi_loopw [4, 5] (fun i _ wr => ∃ j p : Nat, j ≤ m ∧ p = j * k ∧ i = .int .i64 (p : Int) ∧ J (fun _ => False) (List.range j) wr ∧ W.heap.size ≤ wr.heap.size ∧ Below n W wr) (fun i _ _ => L - (intOf i).toNat)
  case atStart => exact ⟨0, 0, Nat.zero_le _, by omega, rfl, HJ0.out, Nat.le_refl _, Below.refl _ _⟩
  case round =>
    obtain ⟨j, p, hj, hp, rfl, hjj, hsz, hbw⟩ := hrel
    obtain ⟨d0, d1⟩ := HKW.out _ _ _ hjj
    by_cases hjm : j < m
    · have hpk : p + k ≤ L := by
        rw [hp, HL.out, ← Nat.succ_mul]
        exact Nat.mul_le_mul_right k hjm
      have hpl : p < L := by omega
      obtain ⟨q1, q2⟩ := HST.out j hjm
      have hj2 : J (fun _ => False) (List.range j) wr.drew := HJ.out _ _ _ _ _ hjj hsz (fun _ h => h.elim) (Turn.of_below (Below.refl _ _).drew)
      have hbw2 : Below n W wr.drew := hbw.drew
      obtain ⟨fn, tmps, asg, bd, hyr, hR⟩ := HY.out (fun _ => False) (List.range j) j #[.slice (cutAt A (p + k) p) k k] wr.drew hj2 (fun _ h => h.elim) hsz hbw2 ⟨_, rfl, by rw [← hp]; exact (HCEL.out _ hbw2).chunk hpk⟩ (by rw [q1]; exact q2)
      rw [q1] at hR
      have HR : Hid (RoundIn Fence.wide 0 Try.prog ld fn tmps asg bd wr.drew fun e W' => Kp n (fun _ => False) wr.drew W' ∧ ((e = .returned (.bool true) ∧ J (fun _ => False) (List.range (j + 1)) W' ∧ W'.cell? ⟨kb, 0, none⟩ = some (.slice A L c) ∧ W'.cell? ⟨kb + 1, 0, none⟩ = some (.int .i64 k)) ∨ (e = .returned (.bool false) ∧ Jx (fun _ => False) (List.range (j + 1)) W'))) := Lib.hid (RoundIn.mono hR (fun e W' ⟨h1, h2⟩ => ⟨h1, h2.imp (fun ⟨h3, h4⟩ => ⟨h3, h4, HKW.out _ _ _ h4⟩) id⟩))
      have HSZ := Lib.hid hsz
      have HBW := Lib.hid hbw2
      have HP : Hid (p + k = (j + 1) * k) := Lib.hid (by rw [Nat.succ_mul, hp])
      have HQ2 := Lib.hid q2
      obtain ⟨d2, d3⟩ := HKW.out _ _ _ hj2
      obtain ⟨q, hq⟩ : ∃ q, p + k = q := ⟨_, rfl⟩
      have hqk : q - p = k := by omega
      obtain ⟨r, hr⟩ : ∃ r, L - p = r := ⟨_, rfl⟩
      have R1 : ∀ W : World, (Instr.slice 76 (.slice A L c) (some (.int .i64 (p : Int))) none none).run Try.prog W = .ok (.slice (cutAt A c p) r (c - p)) W := fun W => by
        have h := run_from Try.underlying76 size_u32c A L c (p : Int) p rfl (by omega) W
        rwa [hr] at h
      have R2 : ∀ W : World, (Instr.slice 76 (.slice A L c) (some (.int .i64 (p : Int))) (some (.int .i64 (q : Int))) (some (.int .i64 (q : Int)))).run Try.prog W = .ok (.slice (cutAt A q p) k k) W := fun W => by
        have h := run_cut3 Try.underlying76 size_u32c A L c (p : Int) (q : Int) (q : Int) p q rfl rfl rfl (by omega) (by omega) W
        rwa [hqk] at h
      have e1 : IntKind.i64.wrap ((p : Int) + (k : Int)) = (q : Int) := by rw [IntWalk.i64_in _ (by omega)]; omega
      have e2 : min (k : Int) (r : Int) = (k : Int) := Int.min_eq_left (by omega)
      rw [hq] at hyr HP hpk
      have HJ2 := Lib.hid hj2
      clear hjj hbw hsz q1 q2 hR hbw2 hj2 hp
      gi_wp2_with fail
      refine in_begin (S := fun W => W.cell? ⟨kb, 0, none⟩ = some (.slice A L c) ∧ W.cell? ⟨kb + 1, 0, none⟩ = some (.int .i64 k)) (by kernel_rfl) ⟨d2, d3⟩ (fun hHeld => ?_)
      refine in_take 0 (fun _ => trivial) rfl (by kernel_rfl) (by kernel_rfl) (by kernel_rfl) (by kernel_rfl) (fun _ _ _ h => h) (by rfl) (by kernel_rfl) hHeld (v := ?_) (fun w hSw => ?_) (fun _ => ?_)
      rotate_left
      · ((try dsimp only at hSw); go_simp; (try with_reducible rfl))
      simp only [Act.put, List.setIfInBounds_toArray, List.set_cons_zero, List.set_cons_succ]
      refine in_take 1 (fun _ => trivial) rfl (by kernel_rfl) (by kernel_rfl) (by kernel_rfl) (by kernel_rfl) (fun _ _ _ h => h) (by rfl) (by kernel_rfl) hHeld (v := ?_) (fun w hSw => ?_) (fun _ => ?_)
      rotate_left
      · ((try dsimp only at hSw); go_simp; (try with_reducible rfl))
      simp only [Act.put, List.setIfInBounds_toArray, List.set_cons_zero, List.set_cons_succ]
      refine in_take 2 (fun _ => trivial) rfl (by kernel_rfl) (by kernel_rfl) (by kernel_rfl) (by kernel_rfl) (fun _ _ _ h => h) (by rfl) (by kernel_rfl) hHeld (v := ?_) (fun w hSw => ?_) (fun _ => ?_)
      rotate_left
      · ((try dsimp only at hSw); go_simp; (try with_reducible rfl))
      simp only [Act.put, List.setIfInBounds_toArray, List.set_cons_zero, List.set_cons_succ]
      refine in_take 3 (fun _ => trivial) rfl (by kernel_rfl) (by kernel_rfl) (by kernel_rfl) (by kernel_rfl) (fun _ _ _ h => h) (by rfl) (by kernel_rfl) hHeld (v := ?_) (fun w hSw => ?_) (fun _ => ?_)
      rotate_left
      · ((try dsimp only at hSw); go_simp; (try with_reducible rfl))
      simp only [Act.put, List.setIfInBounds_toArray, List.set_cons_zero, List.set_cons_succ]
      refine in_take 4 (fun _ => trivial) rfl (by kernel_rfl) (by kernel_rfl) (by kernel_rfl) (by kernel_rfl) (fun _ _ _ h => h) (by rfl) (by kernel_rfl) hHeld (v := ?_) (fun w hSw => ?_) (fun _ => ?_)
      rotate_left
      · ((try dsimp only at hSw); go_simp; (try with_reducible rfl))
      simp only [Act.put, List.setIfInBounds_toArray, List.set_cons_zero, List.set_cons_succ]
      refine in_take 5 (fun _ => trivial) rfl (by kernel_rfl) (by kernel_rfl) (by kernel_rfl) (by kernel_rfl) (fun _ _ _ h => h) (by rfl) (by kernel_rfl) hHeld (v := ?_) (fun w hSw => ?_) (fun _ => ?_)
      rotate_left
      · ((try dsimp only at hSw); go_simp; (try with_reducible rfl))
      simp only [Act.put, List.setIfInBounds_toArray, List.set_cons_zero, List.set_cons_succ]
      refine in_take 6 (fun _ => trivial) rfl (by kernel_rfl) (by kernel_rfl) (by kernel_rfl) (by kernel_rfl) (fun _ _ _ h => h) (by rfl) (by kernel_rfl) hHeld (v := ?_) (fun w hSw => ?_) (fun _ => ?_)
      rotate_left
      · ((try dsimp only at hSw); go_simp; (try with_reducible rfl))
      simp only [Act.put, List.setIfInBounds_toArray, List.set_cons_zero, List.set_cons_succ]
      refine in_done (by kernel_rfl) ?_ _
      clear hHeld
      gi_wp2_with (refine ⟨rfl, RoundIn.mono HR.out ?_⟩; clear HR hyr; rintro e W4 ⟨hk4, (⟨rfl, hj4, d4, d5⟩ | ⟨rfl, hx4⟩)⟩)
      · go_roundw
        case rel => exact ⟨j + 1, q, by omega, HP.out, by first | rfl | go_num, hj4, Nat.le_trans HSZ.out hk4.below.size, HBW.out.trans hk4.below⟩
        case measure => simp [intOf]; omega
      · gi_wp2
        refine bodyPost_ret (v := .tuple #[]) (by simp [results, Try.results43, go_sem]) rfl ?_
        exact ⟨⟨_, rfl⟩, fun _ => False, fun _ h => h.elim, Nat.le_trans HSZ.out hk4.below.size, .inr ⟨_, HQ2.out, hx4⟩⟩
    · obtain rfl : j = m := by omega
      obtain rfl : p = L := by rw [hp, HL.out]
      have HJE := Lib.hid hjj
      have HSZ := Lib.hid hsz
      clear hjj hbw hsz hp hjm
      gi_wp2
      go_end0
      exact ⟨⟨_, rfl⟩, fun _ => False, fun _ h => h.elim, HSZ.out, .inl HJE.out⟩
end Go.Proofs.Ytapfcbcojnplaaa
