/-
  decode.Header: the ten cells, or what is wrong with them.
-/
import Derived.Test.YtnopcnbeklbfoaaDGet
namespace Go.Proofs.Ytnopcnbeklbfoaa
open Go.RowKit
set_option linter.unusedVariables false
set_option linter.unusedSimpArgs false

/-- Does a part lie within so many bytes, behind the header? -/
def within (a s t : Int) : Bool := decide (40 ≤ a ∧ a ≤ t ∧ s ≤ t - a)

set_option maxHeartbeats 400000 in
theorem within_any (a s t : Int) (w : World) (ha : 0 ≤ a ∧ a ≤ 4294967295) (hs : 0 ≤ s ∧ s ≤ 4294967295) (ht : 0 ≤ t ∧ t ≤ 4294967295) (r : Bool) (hr : within a s t = r) :
    Calls Try.prog 40 #[.int .u32 a, .int .u32 s, .int .u32 t] w fun e w' => e = .returned (.bool r) ∧ w = w' := by
  obtain ⟨a0, a1⟩ := ha
  obtain ⟨s0, s1⟩ := hs
  obtain ⟨t0, t1⟩ := ht
  by_cases h1 : 40 ≤ a
  · by_cases h2 : a ≤ t
    · by_cases h3 : s ≤ t - a
      · obtain rfl : r = true := by rw [← hr]; simp [within]; omega
        clear hr
        go_enter Try.func40, Try.ntmps40
        go_wp2
        go_ret
        exact ⟨rfl, rfl⟩
      · obtain rfl : r = false := by rw [← hr]; simp [within]; omega
        clear hr
        go_enter Try.func40, Try.ntmps40
        go_wp2
        go_ret
        exact ⟨rfl, rfl⟩
    · obtain rfl : r = false := by rw [← hr]; simp [within]; omega
      clear hr
      go_enter Try.func40, Try.ntmps40
      go_wp2
      go_ret
      exact ⟨rfl, rfl⟩
  · obtain rfl : r = false := by rw [← hr]; simp [within]; omega
    clear hr
    go_enter Try.func40, Try.ntmps40
    go_wp2
    go_ret
    exact ⟨rfl, rfl⟩

/-- Do the parts that the ten cells tell lie within? -/
def parts (h1 h2 h3 h4 h8 h9 : Int) : Bool := within h2 h9 h1 && (decide (h2 % 4 = 0) && (within h3 h8 h1 && (within h4 0 h1 && decide (h4 % 8 = 0))))

set_option maxHeartbeats 2000000 in
theorem parts_any (h0 h1 h2 h3 h4 h5 h6 h7 h8 h9 : Int) (w : World) (b1 : 0 ≤ h1 ∧ h1 ≤ 4294967295) (b2 : 0 ≤ h2 ∧ h2 ≤ 4294967295) (b3 : 0 ≤ h3 ∧ h3 ≤ 4294967295) (b4 : 0 ≤ h4 ∧ h4 ≤ 4294967295) (b8 : 0 ≤ h8 ∧ h8 ≤ 4294967295) (b9 : 0 ≤ h9 ∧ h9 ≤ 4294967295) (r : Bool) (hr : parts h1 h2 h3 h4 h8 h9 = r) :
    Calls Try.prog 22 #[.agg #[.int .u32 h0, .int .u32 h1, .int .u32 h2, .int .u32 h3, .int .u32 h4, .int .u32 h5, .int .u32 h6, .int .u32 h7, .int .u32 h8, .int .u32 h9]] w fun e w' => e = .returned (.bool r) ∧ w' = w.alloc (.cells #[.int .u32 h0, .int .u32 h1, .int .u32 h2, .int .u32 h3, .int .u32 h4, .int .u32 h5, .int .u32 h6, .int .u32 h7, .int .u32 h8, .int .u32 h9] 23) := by
  obtain ⟨r1, hr1⟩ : ∃ r1, within h2 h9 h1 = r1 := ⟨_, rfl⟩
  obtain ⟨r2, hr2⟩ : ∃ r2, within h3 h8 h1 = r2 := ⟨_, rfl⟩
  obtain ⟨r3, hr3⟩ : ∃ r3, within h4 0 h1 = r3 := ⟨_, rfl⟩
  have C1 := Lib.hid (fun w => within_any h2 h9 h1 w b2 b9 b1 r1 hr1)
  have C2 := Lib.hid (fun w => within_any h3 h8 h1 w b3 b8 b1 r2 hr2)
  have C3 := Lib.hid (fun w => within_any h4 0 h1 w b4 (by omega) b1 r3 hr3)
  have HR : Hid ((r1 && (decide (h2 % 4 = 0) && (r2 && (r3 && decide (h4 % 8 = 0))))) = r) := by rw [← hr, ← hr1, ← hr2, ← hr3]; rfl
  clear hr hr1 hr2 hr3
  obtain ⟨b2a, b2b⟩ := b2
  obtain ⟨b4a, b4b⟩ := b4
  cases r1
  · obtain rfl : r = false := by rw [← HR.out]; rfl
    go_enter Try.func22, Try.ntmps22
    go_wp2_with fail
    refine (C1.out _).mono ?_
    rintro e w1 ⟨rfl, rfl⟩
    go_wp2
    go_ret
    exact ⟨rfl, rfl⟩
  · by_cases m2 : h2 % 4 = 0
    · have HR2 : Hid ((r2 && (r3 && decide (h4 % 8 = 0))) = r) := by rw [← HR.out, decide_eq_true m2]; rfl
      have m2' : (h2 % 4 == 0) = true := by rw [m2]; rfl
      clear m2
      cases r2
      · obtain rfl : r = false := by rw [← HR2.out]; rfl
        go_enter Try.func22, Try.ntmps22
        go_wp2_with fail
        refine (C1.out _).mono ?_
        rintro e w1 ⟨rfl, rfl⟩
        go_wp2_with fail
        refine (C2.out _).mono ?_
        rintro e w1 ⟨rfl, rfl⟩
        go_wp2
        go_ret
        exact ⟨rfl, rfl⟩
      · cases r3
        · obtain rfl : r = false := by rw [← HR2.out]; rfl
          go_enter Try.func22, Try.ntmps22
          go_wp2_with fail
          refine (C1.out _).mono ?_
          rintro e w1 ⟨rfl, rfl⟩
          go_wp2_with fail
          refine (C2.out _).mono ?_
          rintro e w1 ⟨rfl, rfl⟩
          go_wp2_with fail
          refine (C3.out _).mono ?_
          rintro e w1 ⟨rfl, rfl⟩
          go_wp2
          go_ret
          exact ⟨rfl, rfl⟩
        · obtain ⟨m, hm⟩ : ∃ m, decide (h4 % 8 = 0) = m := ⟨_, rfl⟩
          have HM : Hid (m = r) := by
            show m = r
            have := HR2.out
            rw [hm] at this
            simpa using this
          have m4' : (h4 % 8 == 0) = m := by rw [← hm]; exact Bool.eq_iff_iff.2 (by simp)
          clear hm HR HR2
          go_enter Try.func22, Try.ntmps22
          go_wp2_with fail
          refine (C1.out _).mono ?_
          rintro e w1 ⟨rfl, rfl⟩
          go_wp2_with fail
          refine (C2.out _).mono ?_
          rintro e w1 ⟨rfl, rfl⟩
          go_wp2_with fail
          refine (C3.out _).mono ?_
          rintro e w1 ⟨rfl, rfl⟩
          go_wp2
          go_ret
          exact ⟨congrArg (fun b => Ending.returned (.bool b)) HM.out, rfl⟩
    · obtain rfl : r = false := by rw [← HR.out, decide_eq_false m2]; rfl
      have m2' : (h2 % 4 == 0) = false := by rw [beq_eq_false_iff_ne]; exact m2
      clear m2
      go_enter Try.func22, Try.ntmps22
      go_wp2_with fail
      refine (C1.out _).mono ?_
      rintro e w1 ⟨rfl, rfl⟩
      go_wp2
      go_ret
      exact ⟨rfl, rfl⟩

/-- words.Get at a place that is there. -/
theorem get_at (A : Option Addr) (n c a : Nat) (q : Int) (hq : q = (a : Int)) (zs : List Int) (w : World) (B : Nat) (hs : Shows w B A n zs) (h : a + 4 ≤ n) (hn : n ≤ 9223372036854775807) (hnc : n ≤ c) (hc63 : c ≤ maxLen) (x : Int) (hx : numTo zs a 4 = x) :
    Calls Try.prog 21 #[.slice A n c, .int .i64 q] w fun e w' => e = .returned (.tuple #[.int .u32 x, .bool true]) ∧ w = w' := by
  subst hq hx
  exact get_yes A n c a zs w B hs h hn hnc hc63

/-- The i-th of the ten cells. -/
def hcell (zs : List Int) (i : Nat) : Int := numTo zs (i * 4) 4
theorem hcell_bound {zs : List Int} (hz : ∀ i, 0 ≤ zs.getD i 0 ∧ zs.getD i 0 < 256) (i : Nat) : 0 ≤ hcell zs i ∧ hcell zs i ≤ 4294967295 := by
  have h := numTo_bound zs (i * 4) hz 4
  have e : (256 : Int) ^ 4 = 4294967296 := by decide
  unfold hcell
  omega

/-- The ten cells, of which k are read. -/
def filled (f : Nat → Int) (k : Nat) : Array Value := ((List.range 10).map fun j => Value.int .u32 (if j < k then f j else 0)).toArray
theorem filled_set (f : Nat → Int) (k : Nat) (hk : k < 10) : (filled f k).setIfInBounds k (.int .u32 (f k)) = filled f (k + 1) := by
  apply Array.toList_inj.1
  simp only [filled, Array.toList_setIfInBounds]
  apply List.ext_getElem
  · simp
  · intro i h1 h2
    simp only [List.length_map, List.length_range] at h2
    rw [List.getElem_set]
    split
    · subst i; simp
    · simp only [List.getElem_map, List.getElem_range]
      congr 1
      by_cases h : i < k
      · rw [if_pos h, if_pos (by omega)]
      · rw [if_neg h, if_neg (by omega)]
theorem filled_none (f : Nat → Int) : filled f 0 = #[.int .u32 0, .int .u32 0, .int .u32 0, .int .u32 0, .int .u32 0, .int .u32 0, .int .u32 0, .int .u32 0, .int .u32 0, .int .u32 0] := by
  apply Array.toList_inj.1
  simp [filled, List.range_succ]
theorem filled_all (f : Nat → Int) : filled f 10 = #[.int .u32 (f 0), .int .u32 (f 1), .int .u32 (f 2), .int .u32 (f 3), .int .u32 (f 4), .int .u32 (f 5), .int .u32 (f 6), .int .u32 (f 7), .int .u32 (f 8), .int .u32 (f 9)] := by
  apply Array.toList_inj.1
  simp [filled, List.range_succ]
theorem filled_size (f : Nat → Int) (k : Nat) : (filled f k).size = 10 := by simp [filled]

/-- What is wrong with the header of n bytes; 0: nothing. -/
def headE (n : Nat) (x0 x1 x2 x3 x4 x5 x6 x8 x9 : Int) : Int :=
  if x0 = 3490578157 then (if x5 = 17 ∧ x6 = 16 then (if x1 = (n : Int) ∧ parts x1 x2 x3 x4 x8 x9 = true then 0 else 4) else 3) else 2

/-- What Header answers: the cells beside 0, noughts beside an error. -/
def Headed (f : Nat → Int) (E : Int) (e : Ending) : Prop := ∃ v, e = .returned (.tuple #[v, .int .i64 E]) ∧ (E = 0 → v = .agg (filled f 10)) ∧ (E ≠ 0 → v = .agg (filled f 0))

set_option maxHeartbeats 2000000 in
theorem header_yes (A : Option Addr) (n c : Nat) (zs : List Int) (w : World) (hs : Shows w w.heap.size A n zs) (h40 : 40 ≤ n) (hn : n ≤ 1048576) (hnc : n ≤ c) (hc : c ≤ maxLen) (E : Int)
    (hE : headE n (hcell zs 0) (hcell zs 1) (hcell zs 2) (hcell zs 3) (hcell zs 4) (hcell zs 5) (hcell zs 6) (hcell zs 8) (hcell zs 9) = E) :
    Calls Try.prog 11 #[.slice A n c] w fun e w' => Headed (hcell zs) E e ∧ Below w.heap.size w w' := by
  obtain ⟨f, hf⟩ : ∃ f, hcell zs = f := ⟨_, rfl⟩
  have HG := Lib.hid (fun (k : Nat) (hk : k < 10) (q : Int) (hq : q = ((k * 4 : Nat) : Int)) (W : World) (hW : Shows W w.heap.size A n zs) => get_at A n c (k * 4) q hq zs W w.heap.size hW (by omega) (by omega) hnc hc (f k) (by rw [← hf]; rfl))
  have HF : Hid (∀ i, 0 ≤ f i ∧ f i ≤ 4294967295) := fun i => by rw [← hf]; exact hcell_bound hs.byte i
  rw [hf] at hE ⊢
  have HS := Lib.hid hs
  have HE := Lib.hid hE
  clear hs hE hf
  have HB := Lib.hid (fun o p => ((Below.refl w.heap.size w).alloc (Nat.le_refl _) o).alloc (by simp) p)
  go_enter Try.func11, Try.ntmps11
  go_wp2_with fail
  go_loopw [15] (fun i wr => ∃ k : Nat, k ≤ 10 ∧ i = .int .i64 k ∧ wr = (w.alloc (.cells #[.int .u32 0, .int .u32 0, .int .u32 0, .int .u32 0, .int .u32 0, .int .u32 0, .int .u32 0, .int .u32 0, .int .u32 0, .int .u32 0] 23)).alloc (.cells (filled f k) 23)) (fun i _ => 10 - (intOf i).toNat)
  case atStart => exact ⟨0, Nat.zero_le _, rfl, by rw [filled_none]⟩
  case round =>
    obtain ⟨k, hk, rfl, rfl⟩ := hrel
    by_cases hlt : k < 10
    · have hat : (filled f k)[k]? = some (.int .u32 0) := by simp [filled, List.getElem?_range hlt]
      have HT := Lib.hid (filled_set f k hlt)
      have HC := Lib.hid (fun q hq => HG.out k hlt q hq _ (HS.out.below (HB.out (.cells #[.int .u32 0, .int .u32 0, .int .u32 0, .int .u32 0, .int .u32 0, .int .u32 0, .int .u32 0, .int .u32 0, .int .u32 0, .int .u32 0] 23) (.cells (filled f k) 23))))
      go_wp2_with fail
      refine (HC.out _ (by omega)).mono ?_
      rintro e w1 ⟨rfl, rfl⟩
      go_wp2
      go_roundw
      case rel => exact ⟨k + 1, by omega, by go_num, by rw [HT.out]⟩
      case measure => simp [intOf]; omega
    · obtain rfl : k = 10 := by omega
      have HBX := Lib.hid (fun p => HB.out (.cells #[.int .u32 0, .int .u32 0, .int .u32 0, .int .u32 0, .int .u32 0, .int .u32 0, .int .u32 0, .int .u32 0, .int .u32 0, .int .u32 0] 23) p)
      have HBY := Lib.hid (fun (o p q : Obj) => (HB.out o p).alloc (by simp; omega) q)
      rw [filled_all]
      by_cases h0 : f 0 = 3490578157
      · have n0 : (f 0 != 3490578157) = false := by rw [h0]; rfl
        by_cases h5 : f 5 = 17
        · have n5 : (f 5 != 17) = false := by rw [h5]; rfl
          by_cases h6 : f 6 = 16
          · have n6 : (f 6 != 16) = false := by rw [h6]; rfl
            by_cases h1 : f 1 = (n : Int)
            · have n1 : (f 1 != (n : Int)) = false := by rw [h1]; simp
              obtain ⟨r, hr⟩ : ∃ r, parts (f 1) (f 2) (f 3) (f 4) (f 8) (f 9) = r := ⟨_, rfl⟩
              have HE2 : Hid ((if r = true then 0 else 4) = E) := by
                have := HE.out
                rw [headE, if_pos h0, if_pos ⟨h5, h6⟩, hr] at this
                cases r
                · rwa [if_neg (by simp)] at this
                · rwa [if_pos ⟨h1, rfl⟩] at this
              have C := Lib.hid (fun W => parts_any (f 0) (f 1) (f 2) (f 3) (f 4) (f 5) (f 6) (f 7) (f 8) (f 9) W (HF.out 1) (HF.out 2) (HF.out 3) (HF.out 4) (HF.out 8) (HF.out 9) r hr)
              clear h0 h5 h6 h1 hr HG
              go_wp2_with fail
              refine (C.out _).mono ?_
              rintro e w1 ⟨rfl, rfl⟩
              cases r
              · obtain rfl : E = 4 := HE2.out.symm
                go_wp2
                refine bodyPost_ret (v := .tuple #[.agg (filled f 0), .int .i64 4]) (by rw [filled_none]; simp [results, Try.results11, go_sem]) rfl ?_
                exact ⟨⟨_, rfl, fun h => absurd h (by decide), fun _ => rfl⟩, HBY.out _ _ _⟩
              · obtain rfl : E = 0 := HE2.out.symm
                go_wp2
                refine bodyPost_ret (v := .tuple #[.agg (filled f 10), .int .i64 0]) (by rw [filled_all]; simp [results, Try.results11, go_sem]) rfl ?_
                exact ⟨⟨_, rfl, fun _ => rfl, fun h => absurd rfl h⟩, HBY.out _ _ _⟩
            · have n1 : (f 1 != (n : Int)) = true := by rw [bne_iff_ne]; exact h1
              obtain rfl : E = 4 := by
                have := HE.out
                rw [headE, if_pos h0, if_pos ⟨h5, h6⟩, if_neg (fun h => h1 h.1)] at this
                exact this.symm
              clear h0 h5 h6 h1 HG
              go_wp2
              refine bodyPost_ret (v := .tuple #[.agg (filled f 0), .int .i64 4]) (by rw [filled_none]; simp [results, Try.results11, go_sem]) rfl ?_
              exact ⟨⟨_, rfl, fun h => absurd h (by decide), fun _ => rfl⟩, HBX.out _⟩
          · have n6 : (f 6 != 16) = true := by rw [bne_iff_ne]; exact h6
            obtain rfl : E = 3 := by
              have := HE.out
              rw [headE, if_pos h0, if_neg (fun h => h6 h.2)] at this
              exact this.symm
            clear h0 h5 h6 HG
            go_wp2
            refine bodyPost_ret (v := .tuple #[.agg (filled f 0), .int .i64 3]) (by rw [filled_none]; simp [results, Try.results11, go_sem]) rfl ?_
            exact ⟨⟨_, rfl, fun h => absurd h (by decide), fun _ => rfl⟩, HBX.out _⟩
        · have n5 : (f 5 != 17) = true := by rw [bne_iff_ne]; exact h5
          obtain rfl : E = 3 := by
            have := HE.out
            rw [headE, if_pos h0, if_neg (fun h => h5 h.1)] at this
            exact this.symm
          clear h0 h5 HG
          go_wp2
          refine bodyPost_ret (v := .tuple #[.agg (filled f 0), .int .i64 3]) (by rw [filled_none]; simp [results, Try.results11, go_sem]) rfl ?_
          exact ⟨⟨_, rfl, fun h => absurd h (by decide), fun _ => rfl⟩, HBX.out _⟩
      · have n0 : (f 0 != 3490578157) = true := by rw [bne_iff_ne]; exact h0
        obtain rfl : E = 2 := by
          have := HE.out
          rw [headE, if_neg h0] at this
          exact this.symm
        clear h0 HG
        go_wp2
        refine bodyPost_ret (v := .tuple #[.agg (filled f 0), .int .i64 2]) (by rw [filled_none]; simp [results, Try.results11, go_sem]) rfl ?_
        exact ⟨⟨_, rfl, fun h => absurd h (by decide), fun _ => rfl⟩, HBX.out _⟩

set_option maxHeartbeats 2000000 in
theorem header_no (A : Option Addr) (n c : Nat) (f : Nat → Int) (w : World) (h : n < 40 ∨ 1048576 < n) (hn : n ≤ 9223372036854775807) :
    Calls Try.prog 11 #[.slice A n c] w fun e w' => Headed f 4 e ∧ w' = w.alloc (.cells #[.int .u32 0, .int .u32 0, .int .u32 0, .int .u32 0, .int .u32 0, .int .u32 0, .int .u32 0, .int .u32 0, .int .u32 0, .int .u32 0] 23) := by
  by_cases h40 : n < 40
  · have h1 : (n : Int) < 40 := by omega
    clear h h40
    go_enter Try.func11, Try.ntmps11
    go_wp2
    refine bodyPost_ret (v := .tuple #[.agg (filled f 0), .int .i64 4]) (by rw [filled_none]; simp [results, Try.results11, go_sem]) rfl ?_
    exact ⟨⟨_, rfl, fun h => absurd h (by decide), fun _ => rfl⟩, rfl⟩
  · have h1 : (40 : Int) ≤ n := by omega
    have h2 : (1048576 : Int) < n := by omega
    clear h h40
    go_enter Try.func11, Try.ntmps11
    go_wp2
    refine bodyPost_ret (v := .tuple #[.agg (filled f 0), .int .i64 4]) (by rw [filled_none]; simp [results, Try.results11, go_sem]) rfl ?_
    exact ⟨⟨_, rfl, fun h => absurd h (by decide), fun _ => rfl⟩, rfl⟩

/-- Decode of bytes with no good header: the header's error. -/
theorem headed_ne {f : Nat → Int} {E : Int} {e : Ending} (h : Headed f E e) (hE : E ≠ 0) : e = .returned (.tuple #[.agg #[.int .u32 0, .int .u32 0, .int .u32 0, .int .u32 0, .int .u32 0, .int .u32 0, .int .u32 0, .int .u32 0, .int .u32 0, .int .u32 0], .int .i64 E]) := by
  obtain ⟨v, rfl, _, h2⟩ := h
  rw [h2 hE, filled_none]

set_option maxHeartbeats 2000000 in
theorem decode_err (A : Option Addr) (n c : Nat) (f : Nat → Int) (w : World) (E : Int) (hE : E ≠ 0)
    (hC : ∀ o, Calls Try.prog 11 #[.slice A n c] (w.alloc o) fun e w' => Headed f E e ∧ Below (w.alloc o).heap.size (w.alloc o) w') :
    Calls Try.prog 16 #[.slice A n c] w fun e w' => e = .returned (.tuple #[.agg #[.int .u32 0, .slice none 0 0, .string ⟨#[]⟩, .slice none 0 0, .slice none 0 0], .int .i64 E]) ∧ Below w.heap.size w w' := by
  have HC := Lib.hid (fun o => (hC o).mono fun e w' (h : Headed f E e ∧ _) => show e = .returned (.tuple #[.agg #[.int .u32 0, .int .u32 0, .int .u32 0, .int .u32 0, .int .u32 0, .int .u32 0, .int .u32 0, .int .u32 0, .int .u32 0, .int .u32 0], .int .i64 E]) ∧ Below (w.alloc o).heap.size (w.alloc o) w' from ⟨headed_ne h.1 hE, h.2⟩)
  have e1 : (E != 0) = true := by rw [bne_iff_ne]; exact hE
  have HB := Lib.hid (fun o => (Below.refl w.heap.size w).alloc (Nat.le_refl _) o)
  clear hC hE
  go_enter Try.func16, Try.ntmps16
  go_wp2_with fail
  refine (HC.out _).mono ?_
  rintro e w1 ⟨rfl, hb⟩
  have HB1 := Lib.hid ((HB.out (.cells #[.int .u32 0, .slice none 0 0, .string ⟨#[]⟩, .slice none 0 0, .slice none 0 0] 40)).trans (hb.mono (by simp)))
  have c0 := (hb.cell (p := ⟨w.heap.size, 0, none⟩) (by simp)).trans (World.cell?_alloc_new _ _ _ _)
  have c1 := (hb.cell (p := ⟨w.heap.size, 1, none⟩) (by simp)).trans (World.cell?_alloc_new _ _ _ _)
  have c2 := (hb.cell (p := ⟨w.heap.size, 2, none⟩) (by simp)).trans (World.cell?_alloc_new _ _ _ _)
  have c3 := (hb.cell (p := ⟨w.heap.size, 3, none⟩) (by simp)).trans (World.cell?_alloc_new _ _ _ _)
  have c4 := (hb.cell (p := ⟨w.heap.size, 4, none⟩) (by simp)).trans (World.cell?_alloc_new _ _ _ _)
  have f0 := (hb.frozen (p := ⟨w.heap.size, 0, none⟩) (by simp)).trans (World.frozen?_alloc_new _ _ _ _)
  have f1 := (hb.frozen (p := ⟨w.heap.size, 1, none⟩) (by simp)).trans (World.frozen?_alloc_new _ _ _ _)
  have f2 := (hb.frozen (p := ⟨w.heap.size, 2, none⟩) (by simp)).trans (World.frozen?_alloc_new _ _ _ _)
  have f3 := (hb.frozen (p := ⟨w.heap.size, 3, none⟩) (by simp)).trans (World.frozen?_alloc_new _ _ _ _)
  have f4 := (hb.frozen (p := ⟨w.heap.size, 4, none⟩) (by simp)).trans (World.frozen?_alloc_new _ _ _ _)
  have hlt : w.heap.size < w1.heap.size := by have := hb.size; simp at this; omega
  clear hb
  go_wp2
  refine bodyPost_ret (v := .tuple #[.agg #[.int .u32 0, .slice none 0 0, .string ⟨#[]⟩, .slice none 0 0, .slice none 0 0], .int .i64 E]) (by simp [results, Try.results16, go_sem, c0, c1, c2, c3, c4, hlt]; try rfl) rfl ?_
  exact ⟨rfl, (((((HB1.out.setCell (Nat.le_refl _) _).setCell (Nat.le_refl _) _).setCell (Nat.le_refl _) _).setCell (Nat.le_refl _) _).setCell (Nat.le_refl _) _).alloc (by simp; omega) _⟩
end Go.Proofs.Ytnopcnbeklbfoaa
