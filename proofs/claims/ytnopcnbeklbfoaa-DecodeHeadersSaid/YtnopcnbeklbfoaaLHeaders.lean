/-
  Layer 4, DecodeHeaders: any header is what its bytes say, or refused.
-/
import Derived.Test.YtnopcnbeklbfoaaDFours
namespace Go.Proofs.Ytnopcnbeklbfoaa
open Go.RowKit
set_option linter.unusedVariables false
set_option linter.unusedSimpArgs false

set_option maxHeartbeats 400000 in
theorem inside_any (a s : Int) (t : Nat) (w : World) (ha : 0 ≤ a ∧ a ≤ 4294967295) (hs : 0 ≤ s ∧ s ≤ 4294967295) (ht : t ≤ 4294967295) (r : Bool) (hr : within a s t = r) :
    Calls Try.prog 12 #[.int .u32 a, .int .u32 s, .int .u64 t] w fun e w' => e = .returned (.bool r) ∧ w = w' := by
  obtain ⟨a0, a1⟩ := ha
  obtain ⟨s0, s1⟩ := hs
  by_cases h1 : 40 ≤ a
  · by_cases h3 : a + s ≤ t
    · obtain rfl : r = true := by rw [← hr]; simp [within]; omega
      clear hr
      go_enter Try.func12, Try.ntmps12
      go_wp2
      go_ret
      exact ⟨rfl, rfl⟩
    · obtain rfl : r = false := by rw [← hr]; simp [within]; omega
      clear hr
      go_enter Try.func12, Try.ntmps12
      go_wp2
      go_ret
      exact ⟨rfl, rfl⟩
  · obtain rfl : r = false := by rw [← hr]; simp [within]; omega
    clear hr
    go_enter Try.func12, Try.ntmps12
    go_wp2
    go_ret
    exact ⟨rfl, rfl⟩

theorem filled_congr {f g : Nat → Int} (h : ∀ k, k < 10 → f k = g k) : filled f 10 = filled g 10 := by
  unfold filled
  congr 1
  refine List.map_congr_left fun j hj => ?_
  have hj' := List.mem_range.1 hj
  rw [if_pos hj', if_pos hj', h j hj']

/-- The cells of a row of ten, one by one. -/
theorem ten_cells (f : Nat → Int) (w W : World) (h : Below (w.heap.size + 1) (w.alloc (.cells #[.int .u32 (f 0), .int .u32 (f 1), .int .u32 (f 2), .int .u32 (f 3), .int .u32 (f 4), .int .u32 (f 5), .int .u32 (f 6), .int .u32 (f 7), .int .u32 (f 8), .int .u32 (f 9)] 23)) W) :
    W.cell? ⟨w.heap.size, 0, none⟩ = some (.int .u32 (f 0)) ∧ W.cell? ⟨w.heap.size, 1, none⟩ = some (.int .u32 (f 1)) ∧ W.cell? ⟨w.heap.size, 2, none⟩ = some (.int .u32 (f 2)) ∧ W.cell? ⟨w.heap.size, 3, none⟩ = some (.int .u32 (f 3)) ∧ W.cell? ⟨w.heap.size, 4, none⟩ = some (.int .u32 (f 4)) ∧
    W.cell? ⟨w.heap.size, 5, none⟩ = some (.int .u32 (f 5)) ∧ W.cell? ⟨w.heap.size, 6, none⟩ = some (.int .u32 (f 6)) ∧ W.cell? ⟨w.heap.size, 7, none⟩ = some (.int .u32 (f 7)) ∧ W.cell? ⟨w.heap.size, 8, none⟩ = some (.int .u32 (f 8)) ∧ W.cell? ⟨w.heap.size, 9, none⟩ = some (.int .u32 (f 9)) := by
  have g : ∀ k, W.cell? ⟨w.heap.size, k, none⟩ = #[.int .u32 (f 0), .int .u32 (f 1), .int .u32 (f 2), .int .u32 (f 3), .int .u32 (f 4), .int .u32 (f 5), .int .u32 (f 6), .int .u32 (f 7), .int .u32 (f 8), .int .u32 (f 9)][k]? := fun k => (h.cell (Nat.lt_succ_self _)).trans (World.cell?_alloc_new _ _ _ _)
  exact ⟨g 0, g 1, g 2, g 3, g 4, g 5, g 6, g 7, g 8, g 9⟩
theorem one_cell (f : Nat → Int) (w W : World) (h : Below (w.heap.size + 1) (w.alloc (.cells #[.int .u32 (f 0), .int .u32 (f 1), .int .u32 (f 2), .int .u32 (f 3), .int .u32 (f 4), .int .u32 (f 5), .int .u32 (f 6), .int .u32 (f 7), .int .u32 (f 8), .int .u32 (f 9)] 23)) W) (k : Nat) (hk : k < 10) : W.cell? ⟨w.heap.size, k, none⟩ = some (.int .u32 (f k)) := by
  refine (h.cell (Nat.lt_succ_self _)).trans ((World.cell?_alloc_new _ _ _ _).trans ?_)
  rw [← filled_all]
  simp [filled, List.getElem?_range hk, hk]

section
variable {P : Program} (w : World)
/-- An array of numbers is like itself. -/
theorem run_equalIn_same (d : Nat) (t e : TypeId) (n : Nat) (k : IntKind) (ht : P.underlying t = some (.array n e)) (he : P.underlying e = some (.int k)) (hsz : ∀ w, (sizeOf e).run P w = .ok 1 w)
    (xs : List Int) (hx : xs.length = n) :
    (Op.equalIn (d + 2) t (.agg (xs.map (Value.int k)).toArray) (.agg (xs.map (Value.int k)).toArray)).run P w = .ok true w := by
  rw [Op.equalIn]
  simp only [Sem.run_bind, run_underlying ht, Result.andThen_ok, hsz, Std.Legacy.Range.forIn_eq_forIn_range', Std.Legacy.Range.size, Nat.sub_zero, Nat.add_sub_cancel, Nat.div_one]
  have hl : ∀ i ∈ List.range' 0 n 1, i < n := fun i hi => by simpa using (List.mem_range'_1.1 hi).2
  generalize List.range' 0 n 1 = l at hl ⊢
  induction l with
  | nil => simp
  | cons i l ih =>
    have hi : i < n := hl i (by simp)
    have px : (part e (xs.map (Value.int k)).toArray (i * 1)).run P w = .ok (.int k (xs.getD i 0)) w := by
      simp [part, isAgg, run_underlying he, List.getD, List.getElem?_eq_getElem (show i < xs.length by omega)]
    have pe : (Op.equalIn (d + 1) e (.int k (xs.getD i 0)) (.int k (xs.getD i 0))).run P w = .ok true w := by
      rw [run_equalIn_int w d e k k _ _ he]
      simp
    simp only [List.forIn_cons, Sem.run_bind, px, pe, Result.andThen_ok, Bool.not_true, Bool.false_eq_true, if_false, Sem.run_pure]
    exact ih fun j hj => hl j (by simp [hj])
end

theorem headE_rest {N : Nat} {x0 x1 x2 x3 x4 x5 x6 x8 x9 : Int} (h0 : x0 = 3490578157) (h5 : x5 = 17) (h6 : x6 = 16) (h1 : x1 = (N : Int)) (r1 r2 r3 : Bool) (hr1 : within x2 x9 (N : Int) = r1) (hr2 : within x3 x8 (N : Int) = r2) (hr3 : within x4 0 (N : Int) = r3) :
    headE N x0 x1 x2 x3 x4 x5 x6 x8 x9 = if (r1 && (decide (x2 % 4 = 0) && (r2 && (r3 && decide (x4 % 8 = 0))))) = true then 0 else 4 := by
  unfold headE parts
  rw [if_pos h0, if_pos ⟨h5, h6⟩, h1, hr1, hr2, hr3]
  simp only [true_and]

set_option maxRecDepth 100000 in
set_option maxHeartbeats 4000000 in
theorem decodeHeaders_true (f : Nat → Int) (m : Nat) (w : World) (hf : ∀ i, 0 ≤ f i ∧ f i ≤ 4294967295) (hm : m ≤ 65535) :
    Calls Try.prog 3 #[.agg #[.int .u32 (f 0), .int .u32 (f 1), .int .u32 (f 2), .int .u32 (f 3), .int .u32 (f 4), .int .u32 (f 5), .int .u32 (f 6), .int .u32 (f 7), .int .u32 (f 8), .int .u32 (f 9)], .int .u16 m] w fun e w' => e = .returned (.bool true) ∧ Below w.heap.size w w' := by
  have HF := Lib.hid hf
  have HB0 := Lib.hid ((Below.refl w.heap.size w).alloc (Nat.le_refl _) (.cells #[.int .u32 (f 0), .int .u32 (f 1), .int .u32 (f 2), .int .u32 (f 3), .int .u32 (f 4), .int .u32 (f 5), .int .u32 (f 6), .int .u32 (f 7), .int .u32 (f 8), .int .u32 (f 9)] 23))
  obtain ⟨i0, hi0, hz0, hz1, hz2⟩ := info_parts info_u8
  have HI : Hid (Try.prog.info? 5 = some i0 ∧ i0.zero = some (.int .u8 0) ∧ i0.size = 1 ∧ i0.bytes = 1) := ⟨hi0, hz0, hz1, hz2⟩
  clear hf hi0 hz0 hz1 hz2
  go_enter Try.func3, Try.ntmps3
  go_wp2_with fail
  refine (awake4 _).mono ?_
  rintro e w1 ⟨rfl, hb⟩
  have HB1 := Lib.hid (hb.mono (B' := w.heap.size + 1) (by simp))
  clear hb
  go_wp2_with fail
  go_loopw [5, 12] (fun v i wr => ∃ k : Nat, k ≤ 10 ∧ i = .int .i64 k ∧ wr.ownsRow (w.heap.size + 1) 5 1 v (k * 4) (u8s (fours f k)) ∧ Below (w.heap.size + 1) (w.alloc (.cells #[.int .u32 (f 0), .int .u32 (f 1), .int .u32 (f 2), .int .u32 (f 3), .int .u32 (f 4), .int .u32 (f 5), .int .u32 (f 6), .int .u32 (f 7), .int .u32 (f 8), .int .u32 (f 9)] 23)) wr) (fun _ i _ => 10 - (intOf i).toNat)
  case atStart => exact ⟨0, Nat.zero_le _, rfl, World.ownsRow_nil _ _ _ _, HB1.out⟩
  case round =>
    obtain ⟨k, hk, rfl, hown, hbel⟩ := hrel
    by_cases hlt : k < 10
    · have hc := one_cell f w wr hbel k hlt
      obtain ⟨f0, f1⟩ := HF.out k
      have HO := Lib.hid hown
      have HB := Lib.hid hbel
      clear hown hbel
      go_wp2_with fail
      refine (bytes_four (f k) _ f0 f1).mono ?_
      rintro e w2 ⟨g, rfl, hsh, hb⟩
      obtain ⟨i1, i2, i3, i4⟩ := HI.out
      have hsz : w.heap.size + 1 ≤ wr.heap.size := by have := HB.out.size; simpa using this
      have hbel2 := HB.out.trans (hb.mono hsz)
      have hsz2 : w.heap.size + 1 ≤ w2.heap.size := by have := hbel2.size; simpa using this
      obtain ⟨v', w', hrun, hown', hgr, _⟩ := run_append_shown w2 i0 i1 i2 i3 i4 (w.heap.size + 1) u5 _ _ (own_on HO.out hb) w2.heap.size _ _ 4 _ hsh (by omega) hsz2 26
      have hbel' := hbel2.grown hgr hsz2 (fun q hq => ((own_on HO.out hb).lt q hq).1)
      have HO2 := Lib.hid hown'
      have HB2 := Lib.hid hbel'
      clear i1 i2 i3 i4 hsh hgr hown' hbel' hbel2 hb hsz hsz2
      go_wp2_with (at_builtin; refine Lib.wpList_append_run_sl _ rfl _ _ _ rfl _ _ rfl rfl hrun ?_)
      go_roundw
      case rel => exact ⟨k + 1, by omega, by go_num, by rw [fours_succ, u8s, List.map_append, Nat.succ_mul]; exact HO2.out, HB2.out⟩
      case measure => simp [intOf]; omega
    · obtain rfl : k = 10 := by omega
      obtain ⟨i1, i2, i3, i4⟩ := HI.out
      have hsz : w.heap.size + 1 ≤ wr.heap.size := by have := hbel.size; simpa using this
      obtain ⟨v', w', hrun, hown', hgr⟩ := run_append_zeros wr i0 i1 i2 i3 i4 (w.heap.size + 1) u5 _ _ hown m (by omega) hsz 26
      have hbel' := hbel.grown hgr hsz (fun q hq => (hown.lt q hq).1)
      rw [u8s, u8s, ← List.map_append] at hown'
      obtain ⟨N, hN⟩ : ∃ N, 10 * 4 + m = N := ⟨_, rfl⟩
      rw [hN] at hown'
      obtain ⟨A, c, rfl, hsh, hnc, hcm⟩ := owned_shows hown' (by
        intro z hz
        rcases List.mem_append.1 hz with h | h
        · exact fours_byte f HF.out 10 z h
        · rw [List.mem_replicate] at h; omega)
      have hN1 : 40 ≤ N := by omega
      have hN2 : N ≤ 65575 := by omega
      have HC := Lib.hid (fun (E : Int) (hE : headE N (f 0) (f 1) (f 2) (f 3) (f 4) (f 5) (f 6) (f 8) (f 9) = E) => (header_yes A N c _ w' hsh hN1 (by omega) hnc (by unfold maxLen; exact hcm) E (by simp only [hcell_fours f HF.out _ _ (show 0 < 10 by decide), hcell_fours f HF.out _ _ (show 1 < 10 by decide), hcell_fours f HF.out _ _ (show 2 < 10 by decide), hcell_fours f HF.out _ _ (show 3 < 10 by decide), hcell_fours f HF.out _ _ (show 4 < 10 by decide), hcell_fours f HF.out _ _ (show 5 < 10 by decide), hcell_fours f HF.out _ _ (show 6 < 10 by decide), hcell_fours f HF.out _ _ (show 8 < 10 by decide), hcell_fours f HF.out _ _ (show 9 < 10 by decide)]; exact hE)).mono (fun e W (h : Headed _ E e ∧ _) => show Headed f E e ∧ Below w'.heap.size w' W from by
        obtain ⟨⟨v, h1, h2, h3⟩, h4⟩ := h
        exact ⟨⟨v, h1, fun h => by rw [h2 h, filled_congr (fun k hk => hcell_fours f HF.out _ k hk)], fun h => by rw [h3 h, filled_none, filled_none]⟩, h4⟩))
      have HE := Lib.hid (fun (E : Int) (hE : headE N (f 0) (f 1) (f 2) (f 3) (f 4) (f 5) (f 6) (f 8) (f 9) = E) (h0 : E ≠ 0) => (HC.out E hE).mono (fun e W (h : Headed f E e ∧ Below w'.heap.size w' W) => show e = .returned (.tuple #[.agg #[.int .u32 0, .int .u32 0, .int .u32 0, .int .u32 0, .int .u32 0, .int .u32 0, .int .u32 0, .int .u32 0, .int .u32 0, .int .u32 0], .int .i64 E]) ∧ Below w'.heap.size w' W from ⟨headed_ne h.1 h0, h.2⟩))
      have HO := Lib.hid (fun (hE : headE N (f 0) (f 1) (f 2) (f 3) (f 4) (f 5) (f 6) (f 8) (f 9) = 0) => (HC.out 0 hE).mono (fun e W (h : Headed f 0 e ∧ Below w'.heap.size w' W) => show e = .returned (.tuple #[.agg #[.int .u32 (f 0), .int .u32 (f 1), .int .u32 (f 2), .int .u32 (f 3), .int .u32 (f 4), .int .u32 (f 5), .int .u32 (f 6), .int .u32 (f 7), .int .u32 (f 8), .int .u32 (f 9)], .int .i64 0]) ∧ Below w'.heap.size w' W from ⟨by obtain ⟨v, rfl, h2, _⟩ := h.1; rw [h2 rfl, filled_all], h.2⟩))
      have HB2 := Lib.hid hbel'
      have hsz2 : w.heap.size + 1 ≤ w'.heap.size := by have := hbel'.size; simpa using this
      have HB3 := Lib.hid (fun W (h : Below w'.heap.size w' W) => HB2.out.trans (h.mono hsz2))
      have HB4 := Lib.hid (fun W (h : Below w'.heap.size w' W) => (HB0.out.trans ((HB3.out W h).mono (Nat.le_succ _))))
      clear i1 i2 i3 i4 hown hgr hown' hsh hbel' hsz HI HC
      obtain ⟨p2a, p2b⟩ := HF.out 2
      obtain ⟨p4a, p4b⟩ := HF.out 4
      obtain ⟨p1a, p1b⟩ := HF.out 1
      by_cases h0 : f 0 = 3490578157
      · have n0 : (f 0 != 3490578157) = false := by rw [h0]; rfl
        by_cases h5 : f 5 = 17
        · have n5 : (f 5 != 17) = false := by rw [h5]; rfl
          by_cases h6 : f 6 = 16
          · have n6 : (f 6 != 16) = false := by rw [h6]; rfl
            by_cases h1 : f 1 = (N : Int)
            · have n1 : (f 1 != (N : Int)) = false := by rw [h1]; simp
              obtain ⟨r1, hr1⟩ : ∃ r1, within (f 2) (f 9) (N : Int) = r1 := ⟨_, rfl⟩
              obtain ⟨r2, hr2⟩ : ∃ r2, within (f 3) (f 8) (N : Int) = r2 := ⟨_, rfl⟩
              obtain ⟨r3, hr3⟩ : ∃ r3, within (f 4) 0 (N : Int) = r3 := ⟨_, rfl⟩
              have C1 := Lib.hid (fun W => inside_any (f 2) (f 9) N W (HF.out 2) (HF.out 9) (by omega) r1 hr1)
              have C2 := Lib.hid (fun W => inside_any (f 3) (f 8) N W (HF.out 3) (HF.out 8) (by omega) r2 hr2)
              have C3 := Lib.hid (fun W => inside_any (f 4) 0 N W (HF.out 4) (by omega) (by omega) r3 hr3)
              have hE := headE_rest h0 h5 h6 h1 r1 r2 r3 hr1 hr2 hr3
              have HN := Lib.hid hN
              clear h0 h5 h6 h1 hr1 hr2 hr3 hN
              cases r1
              · have H4 := Lib.hid (HE.out 4 (by rw [hE]; rfl) (by decide))
                clear hE HE HO
                go_wp2_with (at_builtin; refine Lib.wpList_append_run _ rfl _ _ _ _ rfl _ _ rfl rfl _ _ hrun ?_)
                refine (H4.out).mono ?_
                rintro e w3 ⟨rfl, hb⟩
                obtain ⟨d0, d1, d2, d3, d4, d5, d6, d7, d8, d9⟩ := ten_cells f w w3 (HB3.out _ hb)
                have hlt3 : w.heap.size < w3.heap.size := Nat.lt_of_lt_of_le hsz2 hb.size
                have HX := Lib.hid (HB4.out _ hb)
                clear hb
                go_wp2_with fail
                refine (C1.out _).mono ?_
                rintro e w4 ⟨rfl, rfl⟩
                go_wp2
                go_ret
                exact ⟨rfl, HX.out.alloc HX.out.size _⟩
              · cases r2
                · have H4 := Lib.hid (HE.out 4 (by rw [hE]; simp) (by decide))
                  clear hE HE HO
                  go_wp2_with (at_builtin; refine Lib.wpList_append_run _ rfl _ _ _ _ rfl _ _ rfl rfl _ _ hrun ?_)
                  refine (H4.out).mono ?_
                  rintro e w3 ⟨rfl, hb⟩
                  obtain ⟨d0, d1, d2, d3, d4, d5, d6, d7, d8, d9⟩ := ten_cells f w w3 (HB3.out _ hb)
                  have hlt3 : w.heap.size < w3.heap.size := Nat.lt_of_lt_of_le hsz2 hb.size
                  have HX := Lib.hid (HB4.out _ hb)
                  clear hb
                  go_wp2_with fail
                  refine (C1.out _).mono ?_
                  rintro e w4 ⟨rfl, rfl⟩
                  go_wp2_with fail
                  refine (C2.out _).mono ?_
                  rintro e w4 ⟨rfl, rfl⟩
                  go_wp2
                  go_ret
                  exact ⟨rfl, HX.out.alloc HX.out.size _⟩
                · cases r3
                  · have H4 := Lib.hid (HE.out 4 (by rw [hE]; simp) (by decide))
                    clear hE HE HO
                    go_wp2_with (at_builtin; refine Lib.wpList_append_run _ rfl _ _ _ _ rfl _ _ rfl rfl _ _ hrun ?_)
                    refine (H4.out).mono ?_
                    rintro e w3 ⟨rfl, hb⟩
                    obtain ⟨d0, d1, d2, d3, d4, d5, d6, d7, d8, d9⟩ := ten_cells f w w3 (HB3.out _ hb)
                    have hlt3 : w.heap.size < w3.heap.size := Nat.lt_of_lt_of_le hsz2 hb.size
                    have HX := Lib.hid (HB4.out _ hb)
                    clear hb
                    go_wp2_with fail
                    refine (C1.out _).mono ?_
                    rintro e w4 ⟨rfl, rfl⟩
                    go_wp2_with fail
                    refine (C2.out _).mono ?_
                    rintro e w4 ⟨rfl, rfl⟩
                    go_wp2_with fail
                    refine (C3.out _).mono ?_
                    rintro e w4 ⟨rfl, rfl⟩
                    go_wp2
                    go_ret
                    exact ⟨rfl, HX.out.alloc HX.out.size _⟩
                  · by_cases m4 : f 4 % 8 = 0
                    · have m4' : (f 4 % 8 != 0) = false := by rw [m4]; rfl
                      by_cases m2 : f 2 % 4 = 0
                      · have m2' : (f 2 % 4 != 0) = false := by rw [m2]; rfl
                        have H0 := Lib.hid (HO.out (by rw [hE, m2, m4]; rfl))
                        have heq : ∀ W, (Op.equalIn 10000 23 (.agg #[.int .u32 (f 0), .int .u32 (f 1), .int .u32 (f 2), .int .u32 (f 3), .int .u32 (f 4), .int .u32 (f 5), .int .u32 (f 6), .int .u32 (f 7), .int .u32 (f 8), .int .u32 (f 9)]) (.agg #[.int .u32 (f 0), .int .u32 (f 1), .int .u32 (f 2), .int .u32 (f 3), .int .u32 (f 4), .int .u32 (f 5), .int .u32 (f 6), .int .u32 (f 7), .int .u32 (f 8), .int .u32 (f 9)])).run Try.prog W = .ok true W := fun W => run_equalIn_same W 9998 23 22 10 .u32 Try.underlying23 Try.underlying22 (fun w => by kernel_rfl) [f 0, f 1, f 2, f 3, f 4, f 5, f 6, f 7, f 8, f 9] rfl
                        clear hE HE HO m2 m4
                        go_wp2_with (at_builtin; refine Lib.wpList_append_run _ rfl _ _ _ _ rfl _ _ rfl rfl _ _ hrun ?_)
                        refine (H0.out).mono ?_
                        rintro e w3 ⟨rfl, hb⟩
                        obtain ⟨d0, d1, d2, d3, d4, d5, d6, d7, d8, d9⟩ := ten_cells f w w3 (HB3.out _ hb)
                        have hlt3 : w.heap.size < w3.heap.size := Nat.lt_of_lt_of_le hsz2 hb.size
                        have HX := Lib.hid (HB4.out _ hb)
                        clear hb
                        go_wp2_with fail
                        refine (C1.out _).mono ?_
                        rintro e w4 ⟨rfl, rfl⟩
                        go_wp2_with fail
                        refine (C2.out _).mono ?_
                        rintro e w4 ⟨rfl, rfl⟩
                        go_wp2_with fail
                        refine (C3.out _).mono ?_
                        rintro e w4 ⟨rfl, rfl⟩
                        go_wp2
                        go_ret
                        exact ⟨rfl, HX.out.alloc HX.out.size _⟩
                      · have m2' : (f 2 % 4 != 0) = true := by rw [bne_iff_ne]; exact m2
                        have H4 := Lib.hid (HE.out 4 (by rw [hE, decide_eq_false m2]; rfl) (by decide))
                        clear hE HE HO m2 m4
                        go_wp2_with (at_builtin; refine Lib.wpList_append_run _ rfl _ _ _ _ rfl _ _ rfl rfl _ _ hrun ?_)
                        refine (H4.out).mono ?_
                        rintro e w3 ⟨rfl, hb⟩
                        obtain ⟨d0, d1, d2, d3, d4, d5, d6, d7, d8, d9⟩ := ten_cells f w w3 (HB3.out _ hb)
                        have hlt3 : w.heap.size < w3.heap.size := Nat.lt_of_lt_of_le hsz2 hb.size
                        have HX := Lib.hid (HB4.out _ hb)
                        clear hb
                        go_wp2_with fail
                        refine (C1.out _).mono ?_
                        rintro e w4 ⟨rfl, rfl⟩
                        go_wp2_with fail
                        refine (C2.out _).mono ?_
                        rintro e w4 ⟨rfl, rfl⟩
                        go_wp2_with fail
                        refine (C3.out _).mono ?_
                        rintro e w4 ⟨rfl, rfl⟩
                        go_wp2
                        go_ret
                        exact ⟨rfl, HX.out.alloc HX.out.size _⟩
                    · have m4' : (f 4 % 8 != 0) = true := by rw [bne_iff_ne]; exact m4
                      have H4 := Lib.hid (HE.out 4 (by rw [hE, decide_eq_false m4]; simp) (by decide))
                      clear hE HE HO m4
                      go_wp2_with (at_builtin; refine Lib.wpList_append_run _ rfl _ _ _ _ rfl _ _ rfl rfl _ _ hrun ?_)
                      refine (H4.out).mono ?_
                      rintro e w3 ⟨rfl, hb⟩
                      obtain ⟨d0, d1, d2, d3, d4, d5, d6, d7, d8, d9⟩ := ten_cells f w w3 (HB3.out _ hb)
                      have hlt3 : w.heap.size < w3.heap.size := Nat.lt_of_lt_of_le hsz2 hb.size
                      have HX := Lib.hid (HB4.out _ hb)
                      clear hb
                      go_wp2_with fail
                      refine (C1.out _).mono ?_
                      rintro e w4 ⟨rfl, rfl⟩
                      go_wp2_with fail
                      refine (C2.out _).mono ?_
                      rintro e w4 ⟨rfl, rfl⟩
                      go_wp2_with fail
                      refine (C3.out _).mono ?_
                      rintro e w4 ⟨rfl, rfl⟩
                      go_wp2
                      go_ret
                      exact ⟨rfl, HX.out.alloc HX.out.size _⟩
            · have n1 : (f 1 != (N : Int)) = true := by rw [bne_iff_ne]; exact h1
              have H4 := Lib.hid (HE.out 4 (by rw [headE, if_pos h0, if_pos ⟨h5, h6⟩, if_neg (fun h => h1 h.1)]) (by decide))
              have HN := Lib.hid hN
              clear h0 h5 h6 h1 HE HO hN
              go_wp2_with (at_builtin; refine Lib.wpList_append_run _ rfl _ _ _ _ rfl _ _ rfl rfl _ _ hrun ?_)
              refine (H4.out).mono ?_
              rintro e w3 ⟨rfl, hb⟩
              obtain ⟨d0, d1, d2, d3, d4, d5, d6, d7, d8, d9⟩ := ten_cells f w w3 (HB3.out _ hb)
              have hlt3 : w.heap.size < w3.heap.size := Nat.lt_of_lt_of_le hsz2 hb.size
              have HX := Lib.hid (HB4.out _ hb)
              clear hb
              go_wp2
              go_ret
              exact ⟨rfl, HX.out.alloc HX.out.size _⟩
          · have n6 : (f 6 != 16) = true := by rw [bne_iff_ne]; exact h6
            have H4 := Lib.hid (HE.out 3 (by rw [headE, if_pos h0, if_neg (fun h => h6 h.2)]) (by decide))
            have HN := Lib.hid hN
            clear h0 h5 h6 HE HO hN
            go_wp2_with (at_builtin; refine Lib.wpList_append_run _ rfl _ _ _ _ rfl _ _ rfl rfl _ _ hrun ?_)
            refine (H4.out).mono ?_
            rintro e w3 ⟨rfl, hb⟩
            obtain ⟨d0, d1, d2, d3, d4, d5, d6, d7, d8, d9⟩ := ten_cells f w w3 (HB3.out _ hb)
            have hlt3 : w.heap.size < w3.heap.size := Nat.lt_of_lt_of_le hsz2 hb.size
            have HX := Lib.hid (HB4.out _ hb)
            clear hb
            go_wp2
            go_ret
            exact ⟨rfl, HX.out.alloc HX.out.size _⟩
        · have n5 : (f 5 != 17) = true := by rw [bne_iff_ne]; exact h5
          have H4 := Lib.hid (HE.out 3 (by rw [headE, if_pos h0, if_neg (fun h => h5 h.1)]) (by decide))
          have HN := Lib.hid hN
          clear h0 h5 HE HO hN
          go_wp2_with (at_builtin; refine Lib.wpList_append_run _ rfl _ _ _ _ rfl _ _ rfl rfl _ _ hrun ?_)
          refine (H4.out).mono ?_
          rintro e w3 ⟨rfl, hb⟩
          obtain ⟨d0, d1, d2, d3, d4, d5, d6, d7, d8, d9⟩ := ten_cells f w w3 (HB3.out _ hb)
          have hlt3 : w.heap.size < w3.heap.size := Nat.lt_of_lt_of_le hsz2 hb.size
          have HX := Lib.hid (HB4.out _ hb)
          clear hb
          go_wp2
          go_ret
          exact ⟨rfl, HX.out.alloc HX.out.size _⟩
      · have n0 : (f 0 != 3490578157) = true := by rw [bne_iff_ne]; exact h0
        have H4 := Lib.hid (HE.out 2 (by rw [headE, if_neg h0]) (by decide))
        have HN := Lib.hid hN
        clear h0 HE HO hN
        go_wp2_with (at_builtin; refine Lib.wpList_append_run _ rfl _ _ _ _ rfl _ _ rfl rfl _ _ hrun ?_)
        refine (H4.out).mono ?_
        rintro e w3 ⟨rfl, hb⟩
        obtain ⟨d0, d1, d2, d3, d4, d5, d6, d7, d8, d9⟩ := ten_cells f w w3 (HB3.out _ hb)
        have hlt3 : w.heap.size < w3.heap.size := Nat.lt_of_lt_of_le hsz2 hb.size
        have HX := Lib.hid (HB4.out _ hb)
        clear hb
        go_wp2
        go_ret
        exact ⟨rfl, HX.out.alloc HX.out.size _⟩
end Go.Proofs.Ytnopcnbeklbfoaa
