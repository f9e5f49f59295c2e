/-
  Base, part 8: what the proofs of this claim lean on.
-/
import Derived.Test.YtbblgkidgecdpaaBase6
import Derived.Test.YtbblgkidgecdpaaBase7
import Derived.Test.YtbblgkidgecdpaaRows
import Derived.Test.YtbblgkidgecdpaaBase4
import Derived.Test.YtbblgkidgecdpaaBase2
import Derived.ChangeSame
import Derived.ChangeSlices
import Derived.OpenShut
import Derived.ProofKit

/-! The parts of what is seen from the root as a whole, if no two ranges on the way meet. -/
namespace Go.Proofs.Ytbblgkidgecdpaa
open Go.RowKit
set_option linter.unusedVariables false
set_option linter.unusedSimpArgs false

/-- No two ranges meet below. -/
def NoMeet (L : List (Int × Int × Int)) : Prop := ∀ i j (hi : i < L.length) (hj : j < i), meetB L[i].1 L[i].2.2 (L[j]'(by omega)).1 (L[j]'(by omega)).2.2 = false
theorem inside_all {wa ws a s : Int} (h : insideB wa ws a s = true) : s ≠ 0 ∧ ws ≠ 0 ∧ s - 1 ≤ 18446744073709551615 - a ∧ ws - 1 ≤ 18446744073709551615 - wa ∧ wa ≤ a ∧ a + (s - 1) ≤ wa + (ws - 1) := by
  unfold insideB wholeB at h
  simp only [Bool.and_eq_true, Bool.or_eq_true, decide_eq_true_eq] at h
  obtain ⟨⟨⟨⟨h1, h2⟩, h3⟩, h4⟩, h5, h6⟩ := h
  refine ⟨h1, h2, ?_, ?_, h5, h6⟩
  · rcases h3 with h | h
    · exact absurd h h1
    · exact h
  · rcases h4 with h | h
    · exact absurd h h2
    · exact h
theorem inside_of {wa ws a s : Int} (h1 : s ≠ 0) (h2 : ws ≠ 0) (h3 : s - 1 ≤ 18446744073709551615 - a) (h4 : ws - 1 ≤ 18446744073709551615 - wa) (h5 : wa ≤ a) (h6 : a + (s - 1) ≤ wa + (ws - 1)) : insideB wa ws a s = true := by
  unfold insideB wholeB
  simp only [Bool.and_eq_true, Bool.or_eq_true, decide_eq_true_eq]
  exact ⟨⟨⟨⟨h1, h2⟩, .inr h3⟩, .inr h4⟩, h5, h6⟩
theorem meet_ofP {wa ws va vs a : Int} (h : insideB wa ws a 1 = true) (g : insideB va vs a 1 = true) : meetB wa ws va vs = true := by
  obtain ⟨_, a2, a3, a4, a5, a6⟩ := inside_all h
  obtain ⟨_, b2, b3, b4, b5, b6⟩ := inside_all g
  unfold meetB lastA wholeB
  simp only [Bool.and_eq_true, decide_eq_true_eq, Bool.or_eq_true]
  refine ⟨⟨a2, b2⟩, ?_, ?_⟩
  · rw [if_pos (.inr b4)]; omega
  · rw [if_pos (.inr a4)]; omega
theorem find_at_some : ∀ {L : List (Int × Int × Int)} {a s : Int} {r : Int × Int × Int}, L.find? (fun r => insideB r.1 r.2.2 a s) = some r → ∃ j, ∃ h : j < L.length, L[j] = r
  | L, a, s, r, h => by
    obtain ⟨j, hj, e⟩ := List.getElem_of_mem (List.mem_of_find?_eq_some h)
    exact ⟨j, hj, e⟩
theorem find_part {L : List (Int × Int × Int)} {a s c : Int} {r : Int × Int × Int} (hm : NoMeet L) (h0 : 0 ≤ c) (h1 : c < s) (h : L.find? (fun r => insideB r.1 r.2.2 a s) = some r) : L.find? (fun r => insideB r.1 r.2.2 (a + c) 1) = some r := by
  obtain ⟨j, hj, rfl⟩ := find_at_some h
  have hin := List.find?_some (p := fun r : Int × Int × Int => insideB r.1 r.2.2 a s) h
  obtain ⟨a1, a2, a3, a4, a5, a6⟩ := inside_all hin
  have hin2 : insideB L[j].1 L[j].2.2 (a + c) 1 = true := inside_of (by omega) a2 (by omega) a4 (by omega) (by omega)
  refine find_range L (a + c) 1 j hj (fun x hx => ?_) hin2
  obtain ⟨i, hi, e⟩ := List.getElem_of_mem hx
  rw [List.length_take] at hi
  rw [List.getElem_take] at e
  cases hxi : insideB x.1 x.2.2 (a + c) 1 with
  | false => rfl
  | true =>
    have h2 := hm j i hj (by omega)
    rw [e] at h2
    rw [meet_ofP hin2 hxi] at h2
    cases h2
theorem upOne_part {L : List (Int × Int × Int)} {a s c b : Int} (hm : NoMeet L) (hs : s ≠ 0) (h0 : 0 ≤ c) (h1 : c < s) (h : upOne L a s = some b) : upOne L (a + c) 1 = some (b + c) ∧ a + (s - 1) ≤ 18446744073709551615 ∧ b + (s - 1) ≤ 18446744073709551615 := by
  unfold upOne at h
  split at h
  · cases h
  · rename_i r hr
    obtain ⟨a1, a2, a3, a4, a5, a6⟩ := inside_all (List.find?_some (p := fun r : Int × Int × Int => insideB r.1 r.2.2 a s) hr)
    split at h
    · cases h
    · rename_i hn
      have e := Option.some.inj h
      have h3 : ¬ (18446744073709551615 - r.2.1 < a - r.1) := fun h => hn (.inl h)
      have h4 : wholeB (r.2.1 + (a - r.1)) s = true := by
        cases hw : wholeB (r.2.1 + (a - r.1)) s with
        | true => rfl
        | false => exact absurd (.inr hw) hn
      unfold wholeB at h4
      simp only [Bool.or_eq_true, decide_eq_true_eq] at h4
      have h5 : s - 1 ≤ 18446744073709551615 - (r.2.1 + (a - r.1)) := by rcases h4 with h | h; exact absurd h hs; exact h
      refine ⟨?_, by omega, by omega⟩
      unfold upOne
      rw [find_part hm h0 h1 hr]
      have hw : wholeB (r.2.1 + (a + c - r.1)) 1 = true := by
        unfold wholeB
        simp only [Bool.or_eq_true, decide_eq_true_eq]
        exact .inr (by omega)
      simp only
      rw [if_neg (by rintro (h | h); omega; rw [hw] at h; cases h)]
      congr 1; omega
theorem upV_part {root : Nd} {z : List Int} {s c : Int} (hs : s ≠ 0) (h0 : 0 ≤ c) (h1 : c < s) : ∀ (k : Nat) (a b : Int), (∀ q, q < k → NoMeet (wayR root z q).2.2) → upV root z s k a = some b → upV root z 1 k (a + c) = some (b + c)
  | 0, a, b, _, h => by rw [upV] at h ⊢; rw [Option.some.inj h]
  | k + 1, a, b, hm, h => by
    rw [upV] at h ⊢
    split at h
    · cases h
    · rename_i hok
      rw [if_neg hok]
      split at h
      · cases h
      · rename_i x hx
        rw [(upOne_part (hm k (Nat.lt_succ_self _)) hs h0 h1 hx).1]
        exact upV_part hs h0 h1 k x b (fun q hq => hm q (by omega)) h
/-- What is seen from the root is within 64 bits, as a whole, on both sides. -/
theorem upOne_ends {L : List (Int × Int × Int)} {a s b : Int} (hs : s ≠ 0) (h : upOne L a s = some b) : a + (s - 1) ≤ 18446744073709551615 ∧ b + (s - 1) ≤ 18446744073709551615 := by
  unfold upOne at h
  split at h
  · cases h
  · rename_i r hr
    obtain ⟨a1, a2, a3, a4, a5, a6⟩ := inside_all (List.find?_some (p := fun r : Int × Int × Int => insideB r.1 r.2.2 a s) hr)
    split at h
    · cases h
    · rename_i hn
      have e := Option.some.inj h
      have h4 : wholeB (r.2.1 + (a - r.1)) s = true := by
        cases hw : wholeB (r.2.1 + (a - r.1)) s with
        | true => rfl
        | false => exact absurd (.inr hw) hn
      unfold wholeB at h4
      simp only [Bool.or_eq_true, decide_eq_true_eq] at h4
      have h5 : s - 1 ≤ 18446744073709551615 - (r.2.1 + (a - r.1)) := by rcases h4 with h | h; exact absurd h hs; exact h
      exact ⟨by omega, by omega⟩
theorem upV_ends {root : Nd} {z : List Int} {s : Int} (hs : s ≠ 0) : ∀ (k : Nat) (a b : Int), 0 < k → upV root z s k a = some b → a + (s - 1) ≤ 18446744073709551615 ∧ b + (s - 1) ≤ 18446744073709551615
  | 0, a, b, h0, _ => absurd h0 (Nat.lt_irrefl 0)
  | k + 1, a, b, _, h => by
    rw [upV] at h
    split at h
    · cases h
    · split at h
      · cases h
      · rename_i x hx
        obtain ⟨e1, e2⟩ := upOne_ends hs hx
        refine ⟨e1, ?_⟩
        by_cases hk : k = 0
        · subst hk
          rw [upV] at h
          rw [← Option.some.inj h]; exact e2
        · exact (upV_ends hs k x b (by omega) h).2

end Go.Proofs.Ytbblgkidgecdpaa

/-! Do two ranges of a node on the way meet below? What the statement asks. -/
namespace Go.Proofs.Ytbblgkidgecdpaa
open Go.RowKit
set_option linter.unusedVariables false
set_option linter.unusedSimpArgs false

/-- No two of the first j ranges meet. -/
def NM (L : List (Int × Int × Int)) (m : Nat) : Prop := ∀ i j (hi : i < L.length) (hj : j < i), i < m → meetB L[i].1 L[i].2.2 (L[j]'(by omega)).1 (L[j]'(by omega)).2.2 = false
/-- Range i meets none of the first p. -/
def NR (L : List (Int × Int × Int)) (i p : Nat) : Prop := ∀ j (hi : i < L.length) (hj : j < i), j < p → meetB L[i].1 L[i].2.2 (L[j]'(by omega)).1 (L[j]'(by omega)).2.2 = false
theorem NM.zero (L : List (Int × Int × Int)) : NM L 0 := fun i j hi hj h => absurd h (Nat.not_lt_zero _)
theorem NR.zero (L : List (Int × Int × Int)) (i : Nat) : NR L i 0 := fun j hi hj h => absurd h (Nat.not_lt_zero _)
theorem NM.all {L : List (Int × Int × Int)} (h : NM L L.length) : NoMeet L := fun i j hi hj => h i j hi hj hi
theorem NM.step {L : List (Int × Int × Int)} {m : Nat} (h : NM L m) (g : NR L m m) : NM L (m + 1) := fun i j hi hj hm => by
  by_cases e : i = m
  · subst e; exact g j hi hj hj
  · exact h i j hi hj (by omega)
theorem NR.step {L : List (Int × Int × Int)} {i p : Nat} (h : NR L i p) (hi : i < L.length) (hp : p < i) (g : meetB L[i].1 L[i].2.2 (L[p]'(by omega)).1 (L[p]'(by omega)).2.2 = false) : NR L i (p + 1) := fun j hi2 hj hm => by
  by_cases e : j = p
  · subst e; exact g
  · exact h j hi2 hj (by omega)

set_option maxRecDepth 20000 in
set_option maxHeartbeats 8000000 in
theorem overlaps_any (t : Tr) (z : List Int) (A : Option Addr) (n c : Nat) (w : World) (hin : t.In w w.heap.size) (hp : Cel w w.heap.size A n (intsZ z)) (hnc : n ≤ c) (hc : c ≤ 9223372036854775807) (hroot : ∃ y, nodeZ t.root z = some y) (hh : heftN t.root ≤ 134217728) :
    Calls Try.prog 17 #[t.val, .slice A n c] w fun e w' => (∃ r : Bool, e = .returned (.bool r) ∧ (r = false → ∀ k, k < n → NoMeet (wayR t.root z k).2.2)) ∧ Below w.heap.size w w' := by
  have HI := Lib.hid hin.root
  have HH := Lib.hid hh
  have HPL : Hid (z.length = n) := Lib.hid (by have := hp.1; rwa [List.length_map] at this)
  have CG := Lib.hid (fun k (hk : k ≤ n) W (hW : Below w.heap.size w W) => refget_any t (z.take k) A k c W (hin.on hW) (by have h := (hp.on hW).upto hk; rwa [intsZ, ← List.map_take] at h) (by omega) hc)
  obtain ⟨yy, hyy⟩ := hroot
  have HX := Lib.hid (fun k => nodeZ_take hyy k)
  clear hin hp hh hyy
  obtain ⟨boot, ra, rc, rs, ⟨nm, pa, pc, ps, ka, kc, ks⟩⟩ := t
  replace CG : Hid (∀ k (hk : k ≤ n) W (hW : Below w.heap.size w W), Calls Try.prog 13 #[.agg #[.int .u32 boot, .slice ra rs.length rc, .string nm, .slice pa ps.length pc, .slice ka ks.length kc], .slice A k c] W fun e w' => e = .returned (getVal (nodeZ (Nd.mk nm pa pc ps ka kc ks) (z.take k))) ∧ Below W.heap.size W w') := CG
  replace HI : Hid ((Nd.mk nm pa pc ps ka kc ks).In w w.heap.size) := HI
  replace HH : Hid (heftN (Nd.mk nm pa pc ps ka kc ks) ≤ 134217728) := HH
  replace HX : Hid (∀ k, ∃ x, nodeZ (Nd.mk nm pa pc ps ka kc ks) (z.take k) = some x) := HX
  show Calls _ _ #[.agg #[.int .u32 boot, .slice ra rs.length rc, .string nm, .slice pa ps.length pc, .slice ka ks.length kc], _] _ _
  obtain ⟨R, hR⟩ : ∃ R, Nd.mk nm pa pc ps ka kc ks = R := ⟨_, rfl⟩
  rw [hR] at HI HH HX CG ⊢
  clear hR
  have HB := Lib.hid ((Below.refl w.heap.size w).alloc (Nat.le_refl _) (.cells #[.int .u32 boot, .slice ra rs.length rc, .string nm, .slice pa ps.length pc, .slice ka ks.length kc] 31))
  obtain ⟨b0, b1, b2, b3, b4⟩ := box6_cells w (.int .u32 boot) (.slice ra rs.length rc) (.string nm) (.slice pa ps.length pc) (.slice ka ks.length kc) _ (Below.refl _ _)
  have BX := Lib.hid (box6_cells w (.int .u32 boot) (.slice ra rs.length rc) (.string nm) (.slice pa ps.length pc) (.slice ka ks.length kc))
  go_enter Try.func17, Try.ntmps17
  go_wp2_with fail
  obtain ⟨w0, hw0⟩ : ∃ w0, w0 = w.alloc (.cells #[.int .u32 boot, .slice ra rs.length rc, .string nm, .slice pa ps.length pc, .slice ka ks.length kc] 31) := ⟨_, rfl⟩
  rw [← hw0] at HB BX ⊢
  have HW0 : Hid (w0.heap.size = w.heap.size + 1) := Lib.hid (by rw [hw0]; simp)
  clear b0 b1 b2 b3 b4 hw0
  go_loopw [5] (fun i wr => ∃ k : Nat, k ≤ n ∧ i = .int .i64 k ∧ (∀ q2, k ≤ q2 → q2 < n → NoMeet (wayR R z q2).2.2) ∧ Below w0.heap.size w0 wr) (fun i _ => (intOf i).toNat)
  case atStart => exact ⟨n, Nat.le_refl _, rfl, fun q2 h1 h2 => absurd h2 (by omega), Below.refl _ _⟩
  case round =>
    rename World => wo
    obtain ⟨q, hq, rfl, hno, hb⟩ := hrel
    have HNO0 := Lib.hid hno
    have HBR := Lib.hid (HB.out.trans (hb.mono HB.out.size))
    have HBR0 := Lib.hid hb
    by_cases hq0 : q = 0
    · subst hq0
      clear hb hno
      go_wp2
      go_ret
      exact ⟨⟨false, rfl, fun _ k hk => HNO0.out k (Nat.zero_le _) hk⟩, HBR.out⟩
    · obtain ⟨k, hk⟩ : ∃ k, k + 1 = q := ⟨q - 1, by omega⟩
      have hk1 : k ≤ n := by omega
      have HNO : Hid (∀ q2, k + 1 ≤ q2 → q2 < n → NoMeet (wayR R z q2).2.2) := Lib.hid (by rw [hk]; exact hno)
      have K1 : IntKind.i64.wrap ((q : Int) - 1) = (k : Int) := by
        have e : (q : Int) - 1 = (k : Int) := by omega
        rw [e]; exact IntWalk.i64_in _ (by omega)
      have K2 : decide ((q : Int) > 0) = true := decide_eq_true (by omega)
      have K3 : (0 : Int) < (q : Int) := by omega
      have R1 : ∀ W : World, (Instr.slice 44 (.slice A n c) none (some (.int .i64 (q : Int))) none).run Try.prog W = .ok (.slice A q c) W := fun W => run_upto Try.underlying44 size_intx A n c _ q rfl (by omega) W
      have R2 : ∀ W : World, (Instr.slice 44 (.slice A n c) none (some (.int .i64 (k : Int))) none).run Try.prog W = .ok (.slice A k c) W := fun W => run_upto Try.underlying44 size_intx A n c _ k rfl (by omega) W
      obtain ⟨x, hx⟩ := HX.out q
      obtain ⟨y, hy⟩ := HX.out k
      have HXI := Lib.hid (nodeZ_in _ HI.out hx)
      have HYI := Lib.hid (nodeZ_in _ HI.out hy)
      have HXH := Lib.hid (Nat.le_trans (nodeZ_heft _ hx) HH.out)
      have HYH := Lib.hid (Nat.le_trans (nodeZ_heft _ hy) HH.out)
      have hway : wayR R z k = rangesV y x := by unfold wayR; rw [hk, hx, hy]; rfl
      have hr64 := rangesV_64 HYI.out HXI.out
      have CN := Lib.hid (fun W (hW : Below wo.heap.size wo W) => CG.out q hq W (HBR.out.trans (hW.mono HBR.out.size)))
      have CP := Lib.hid (fun W (hW : Below wo.heap.size wo W) => CG.out k hk1 W (HBR.out.trans (hW.mono HBR.out.size)))
      have CR := Lib.hid (fun W (hW : Below w.heap.size w W) => refranges_any y x W ((HYI.out.under hW).more hW.size) ((HXI.out.under hW).more hW.size) (Nat.le_trans HYH.out (by omega)) (Nat.le_trans HXH.out (by omega)))
      rw [hx] at CN
      rw [hy] at CP
      obtain ⟨o1, okr, L, hL⟩ : ∃ o1 okr L, rangesV y x = (o1, okr, L) := ⟨_, _, _, rfl⟩
      rw [hL] at CR hr64 hway
      have HWAY : Hid ((wayR R z k).2.2 = L) := Lib.hid (by rw [hway])
      have H64 : Hid (∀ r ∈ L, R64 r) := Lib.hid hr64
      have HSS : Hid (∀ W, Below wo.heap.size wo W → (W.cell? ⟨w.heap.size, 0, none⟩ = some (.int .u32 boot) ∧ W.cell? ⟨w.heap.size, 1, none⟩ = some (.slice ra rs.length rc) ∧ W.cell? ⟨w.heap.size, 2, none⟩ = some (.string nm) ∧ W.cell? ⟨w.heap.size, 3, none⟩ = some (.slice pa ps.length pc) ∧ W.cell? ⟨w.heap.size, 4, none⟩ = some (.slice ka ks.length kc))) := Lib.hid (fun W hW => BX.out W ((hb.trans (hW.mono hb.size)).mono (by have := HW0.out; simp; omega)))
      clear hx hy hway hr64 hno hb hL HXI HYI HXH HYH
      obtain ⟨xn, xpa, xpc, xps, xka, xkc, xks⟩ := x
      obtain ⟨yn, ypa, ypc, yps, yka, ykc, yks⟩ := y
      replace CN : Hid (∀ W (hW : Below wo.heap.size wo W), Calls Try.prog 13 #[.agg #[.int .u32 boot, .slice ra rs.length rc, .string nm, .slice pa ps.length pc, .slice ka ks.length kc], .slice A q c] W fun e w' => e = .returned (.tuple #[.agg #[.string xn, .slice xpa xps.length xpc, .slice xka xks.length xkc], .bool true]) ∧ Below W.heap.size W w') := CN
      replace CP : Hid (∀ W (hW : Below wo.heap.size wo W), Calls Try.prog 13 #[.agg #[.int .u32 boot, .slice ra rs.length rc, .string nm, .slice pa ps.length pc, .slice ka ks.length kc], .slice A k c] W fun e w' => e = .returned (.tuple #[.agg #[.string yn, .slice ypa yps.length ypc, .slice yka yks.length ykc], .bool true]) ∧ Below W.heap.size W w') := CP
      replace CR : Hid (∀ W (hW : Below w.heap.size w W), Calls Try.prog 10 #[.agg #[.string yn, .slice ypa yps.length ypc, .slice yka yks.length ykc], .agg #[.string xn, .slice xpa xps.length xpc, .slice xka xks.length xkc]] W fun e w' => (∃ A m c, e = .returned (.tuple #[.slice A m c, .bool o1, .bool okr]) ∧ Cel3 w' w'.heap.size A m (L.map rngV) ∧ m ≤ c ∧ c ≤ 9223372036854775807) ∧ Below W.heap.size W w') := CR
      generalize xks.length = xkl at *
      generalize xps.length = xpl at *
      generalize yks.length = ykl at *
      generalize yps.length = ypl at *
      have HD := Lib.hid (Below.refl wo.heap.size wo).drew
      go_wp2_with fail
      apply cutw
      case h =>
        intro key1
        refine wp_region_held_drew (S := fun W => W.cell? ⟨w.heap.size, 0, none⟩ = some (.int .u32 boot) ∧ W.cell? ⟨w.heap.size, 1, none⟩ = some (.slice ra rs.length rc) ∧ W.cell? ⟨w.heap.size, 2, none⟩ = some (.string nm) ∧ W.cell? ⟨w.heap.size, 3, none⟩ = some (.slice pa ps.length pc) ∧ W.cell? ⟨w.heap.size, 4, none⟩ = some (.slice ka ks.length kc)) (by kernel_rfl) (HSS.out _ HD.out) (fun hHeld => ?_)
        refine held_take 0 rfl (by kernel_rfl) (by kernel_rfl) (by kernel_rfl) (fun _ _ _ h => h) (by rfl) hHeld (v := ?_) (fun w hSw => ?_) (fun _ => ?_)
        rotate_left
        · ((try dsimp only at hSw); go_simp; (try with_reducible rfl))
        simp only [Act.put, List.setIfInBounds_toArray, List.set_cons_zero, List.set_cons_succ]
        refine held_take 1 rfl (by kernel_rfl) (by kernel_rfl) (by kernel_rfl) (fun _ _ _ h => h) (by rfl) hHeld (v := ?_) (fun w hSw => ?_) (fun _ => ?_)
        rotate_left
        · ((try dsimp only at hSw); go_simp; (try with_reducible rfl))
        simp only [Act.put, List.setIfInBounds_toArray, List.set_cons_zero, List.set_cons_succ]
        refine held_take 2 rfl (by kernel_rfl) (by kernel_rfl) (by kernel_rfl) (fun _ _ _ h => h) (by rfl) hHeld (v := ?_) (fun w hSw => ?_) (fun _ => ?_)
        rotate_left
        · ((try dsimp only at hSw); go_simp; (try with_reducible rfl))
        simp only [Act.put, List.setIfInBounds_toArray, List.set_cons_zero, List.set_cons_succ]
        refine held_take 3 rfl (by kernel_rfl) (by kernel_rfl) (by kernel_rfl) (fun _ _ _ h => h) (by rfl) hHeld (v := ?_) (fun w hSw => ?_) (fun _ => ?_)
        rotate_left
        · ((try dsimp only at hSw); go_simp; (try with_reducible rfl))
        simp only [Act.put, List.setIfInBounds_toArray, List.set_cons_zero, List.set_cons_succ]
        refine held_two 4 8 (by kernel_rfl) rfl rfl (by rfl) (by rfl) (fun K hK => ?_) (fun K hK => ?_)
        · go_simp
          refine (CN.out _ HD.out).mono ?_
          rintro e w2 ⟨rfl, hb2⟩
          have HD2 := Lib.hid (HD.out.trans hb2)
          clear hb2
          dsimp only
          refine hK.out _ _ (HSS.out _ HD2.out) (fun hHeld => ?_)
          clear hK K
          refine held_take 5 rfl (by kernel_rfl) (by kernel_rfl) (by kernel_rfl) (fun _ _ _ h => h) (by rfl) hHeld (v := ?_) (fun w hSw => ?_) (fun _ => ?_)
          rotate_left
          · ((try dsimp only at hSw); go_simp; (try with_reducible rfl))
          simp only [Act.put, List.setIfInBounds_toArray, List.set_cons_zero, List.set_cons_succ]
          refine held_take 6 rfl (by kernel_rfl) (by kernel_rfl) (by kernel_rfl) (fun _ _ _ h => h) (by rfl) hHeld (v := ?_) (fun w hSw => ?_) (fun _ => ?_)
          rotate_left
          · ((try dsimp only at hSw); go_simp; (try with_reducible rfl))
          simp only [Act.put, List.setIfInBounds_toArray, List.set_cons_zero, List.set_cons_succ]
          refine held_take 7 rfl (by kernel_rfl) (by kernel_rfl) (by kernel_rfl) (fun _ _ _ h => h) (by rfl) hHeld (v := ?_) (fun w hSw => ?_) (fun _ => ?_)
          rotate_left
          · ((try dsimp only at hSw); go_simp; (try with_reducible rfl))
          simp only [Act.put, List.setIfInBounds_toArray, List.set_cons_zero, List.set_cons_succ]
          refine held_call 8 (by kernel_rfl) rfl (by rfl) (fun K hK => ?_)
          go_simp
          refine hK.out _ _ (HSS.out _ (HD2.out.alloc HD2.out.size _)) (fun hHeld => ?_)
          clear hK K
          refine held_call 9 (by kernel_rfl) rfl (by rfl) (fun K hK => ?_)
          go_simp
          have H10 := Lib.hid (HD2.out.alloc HD2.out.size (.cells #[.string xn, .slice xpa xpl xpc, .slice xka xkl xkc] 25))
          refine hK.out _ _ (HSS.out _ H10.out) (fun hHeld => ?_)
          clear hK K
          refine held_take 10 rfl (by kernel_rfl) (by kernel_rfl) (by kernel_rfl) (fun _ _ _ h => h) (by rfl) hHeld (v := ?_) (fun w hSw => ?_) (fun _ => ?_)
          rotate_left
          · ((try dsimp only at hSw); go_simp; (try with_reducible rfl))
          simp only [Act.put, List.setIfInBounds_toArray, List.set_cons_zero, List.set_cons_succ]
          refine wpAnyH_done (by kernel_rfl) ?_ _
          clear hHeld
          obtain ⟨V, hWe⟩ : ∃ V, V = w2.alloc (.cells #[.string xn, .slice xpa xpl xpc, .slice xka xkl xkc] 25) := ⟨_, rfl⟩
          obtain ⟨gb, hgb⟩ : ∃ gb, gb = w2.heap.size := ⟨_, rfl⟩
          have hkW : V.heap[gb]? = some (.cells #[.string xn, .slice xpa xpl xpc, .slice xka xkl xkc] 25 (0, 0)) := by rw [hWe, hgb]; exact heap_alloc_new w2 _
          have hbW : Below wo.heap.size wo V := by rw [hWe]; exact H10.out
          rw [← hWe, ← hgb]
          clear hWe hgb H10 HD2
          revert V gb
          exact key1
        · go_simp
          have HZ1 := Lib.hid ((Below.refl wo.heap.size wo).alloc (Nat.le_refl _) (.cells #[.string ⟨#[]⟩, .slice none 0 0, .slice none 0 0] 25)).drew
          refine hK.out _ _ (HSS.out _ HZ1.out) (fun hHeld => ?_)
          clear hK K
          refine held_call 4 (by kernel_rfl) rfl (by rfl) (fun K hK => ?_)
          go_simp
          refine (CN.out _ HZ1.out).mono ?_
          rintro e w2 ⟨rfl, hb2⟩
          have HD2 := Lib.hid (HZ1.out.trans (hb2.mono (by simp)))
          have hz2 : w2.heap[wo.heap.size]? = some (.cells #[.string ⟨#[]⟩, .slice none 0 0, .slice none 0 0] 25 (0, 0)) := (hb2.block wo.heap.size (by simp)).trans (heap_alloc_new wo _)
          clear hb2
          dsimp only
          refine hK.out _ _ (HSS.out _ HD2.out) (fun hHeld => ?_)
          clear hK K
          refine held_take 5 rfl (by kernel_rfl) (by kernel_rfl) (by kernel_rfl) (fun _ _ _ h => h) (by rfl) hHeld (v := ?_) (fun w hSw => ?_) (fun _ => ?_)
          rotate_left
          · ((try dsimp only at hSw); go_simp; (try with_reducible rfl))
          simp only [Act.put, List.setIfInBounds_toArray, List.set_cons_zero, List.set_cons_succ]
          refine held_take 6 rfl (by kernel_rfl) (by kernel_rfl) (by kernel_rfl) (fun _ _ _ h => h) (by rfl) hHeld (v := ?_) (fun w hSw => ?_) (fun _ => ?_)
          rotate_left
          · ((try dsimp only at hSw); go_simp; (try with_reducible rfl))
          simp only [Act.put, List.setIfInBounds_toArray, List.set_cons_zero, List.set_cons_succ]
          refine held_take 7 rfl (by kernel_rfl) (by kernel_rfl) (by kernel_rfl) (fun _ _ _ h => h) (by rfl) hHeld (v := ?_) (fun w hSw => ?_) (fun _ => ?_)
          rotate_left
          · ((try dsimp only at hSw); go_simp; (try with_reducible rfl))
          simp only [Act.put, List.setIfInBounds_toArray, List.set_cons_zero, List.set_cons_succ]
          have y0 : w2.cell? ⟨wo.heap.size, 0, none⟩ = some (.string ⟨#[]⟩) := by rw [Lib.cell_of_heap hz2]; rfl
          have y1 : w2.cell? ⟨wo.heap.size, 1, none⟩ = some (.slice none 0 0) := by rw [Lib.cell_of_heap hz2]; rfl
          have y2 : w2.cell? ⟨wo.heap.size, 2, none⟩ = some (.slice none 0 0) := by rw [Lib.cell_of_heap hz2]; rfl
          have e0 := Lib.frozen_of_heap hz2 0
          have e1 := Lib.frozen_of_heap hz2 1
          have e2 := Lib.frozen_of_heap hz2 2
          refine held_call 9 (by kernel_rfl) rfl (by rfl) (fun K hK => ?_)
          go_simp
          have H10 : Hid (Below wo.heap.size wo (((w2.setCell ⟨wo.heap.size, 0, none⟩ (.string xn)).setCell ⟨wo.heap.size, 1, none⟩ (.slice xpa xpl xpc)).setCell ⟨wo.heap.size, 2, none⟩ (.slice xka xkl xkc))) := Lib.hid (below_sets HD2.out 0 _ (Nat.le_refl _) _ _ _)
          refine hK.out _ _ (HSS.out _ H10.out) (fun hHeld => ?_)
          clear hK K
          refine held_take 10 rfl (by kernel_rfl) (by kernel_rfl) (by kernel_rfl) (fun _ _ _ h => h) (by rfl) hHeld (v := ?_) (fun w hSw => ?_) (fun _ => ?_)
          rotate_left
          · ((try dsimp only at hSw); go_simp; (try with_reducible rfl))
          simp only [Act.put, List.setIfInBounds_toArray, List.set_cons_zero, List.set_cons_succ]
          refine wpAnyH_done (by kernel_rfl) ?_ _
          clear hHeld
          obtain ⟨V, hWe⟩ : ∃ V, V = (((w2.setCell ⟨wo.heap.size, 0, none⟩ (.string xn)).setCell ⟨wo.heap.size, 1, none⟩ (.slice xpa xpl xpc)).setCell ⟨wo.heap.size, 2, none⟩ (.slice xka xkl xkc)) := ⟨_, rfl⟩
          obtain ⟨gb, hgb⟩ : ∃ gb, gb = wo.heap.size := ⟨_, rfl⟩
          have hkW : V.heap[gb]? = some (.cells #[.string xn, .slice xpa xpl xpc, .slice xka xkl xkc] 25 (0, 0)) := by rw [hWe, hgb]; exact heap_set3 0 _ hz2 _ _ _
          have hbW : Below wo.heap.size wo V := by rw [hWe]; exact H10.out
          rw [← hWe, ← hgb]
          clear hWe hgb H10 HD2 hz2 y0 y1 y2 e0 e1 e2
          revert V gb
          exact key1
      intro W1 g1 hk1 hbW1
      have HD1 := Lib.hid (Below.refl W1.heap.size W1).drew
      have HBW1 := Lib.hid hbW1
      have HSS1 := Lib.hid (fun V (hV : Below W1.heap.size W1 V) => HSS.out V (HBW1.out.trans (hV.mono HBW1.out.size)))
      have CP1 := Lib.hid (fun V (hV : Below W1.heap.size W1 V) => CP.out V (HBW1.out.trans (hV.mono HBW1.out.size)))
      have HK1 := Lib.hid hk1
      clear hk1 hbW1 CN CP HD
      go_wp2_with fail
      apply cutw
      case h =>
        intro key2
        refine wp_region_held_drew (S := fun W => W.cell? ⟨w.heap.size, 0, none⟩ = some (.int .u32 boot) ∧ W.cell? ⟨w.heap.size, 1, none⟩ = some (.slice ra rs.length rc) ∧ W.cell? ⟨w.heap.size, 2, none⟩ = some (.string nm) ∧ W.cell? ⟨w.heap.size, 3, none⟩ = some (.slice pa ps.length pc) ∧ W.cell? ⟨w.heap.size, 4, none⟩ = some (.slice ka ks.length kc)) (by kernel_rfl) (HSS1.out _ HD1.out) (fun hHeld => ?_)
        refine held_take 0 rfl (by kernel_rfl) (by kernel_rfl) (by kernel_rfl) (fun _ _ _ h => h) (by rfl) hHeld (v := ?_) (fun w hSw => ?_) (fun _ => ?_)
        rotate_left
        · ((try dsimp only at hSw); go_simp; (try with_reducible rfl))
        simp only [Act.put, List.setIfInBounds_toArray, List.set_cons_zero, List.set_cons_succ]
        refine held_take 1 rfl (by kernel_rfl) (by kernel_rfl) (by kernel_rfl) (fun _ _ _ h => h) (by rfl) hHeld (v := ?_) (fun w hSw => ?_) (fun _ => ?_)
        rotate_left
        · ((try dsimp only at hSw); go_simp; (try with_reducible rfl))
        simp only [Act.put, List.setIfInBounds_toArray, List.set_cons_zero, List.set_cons_succ]
        refine held_take 2 rfl (by kernel_rfl) (by kernel_rfl) (by kernel_rfl) (fun _ _ _ h => h) (by rfl) hHeld (v := ?_) (fun w hSw => ?_) (fun _ => ?_)
        rotate_left
        · ((try dsimp only at hSw); go_simp; (try with_reducible rfl))
        simp only [Act.put, List.setIfInBounds_toArray, List.set_cons_zero, List.set_cons_succ]
        refine held_take 3 rfl (by kernel_rfl) (by kernel_rfl) (by kernel_rfl) (fun _ _ _ h => h) (by rfl) hHeld (v := ?_) (fun w hSw => ?_) (fun _ => ?_)
        rotate_left
        · ((try dsimp only at hSw); go_simp; (try with_reducible rfl))
        simp only [Act.put, List.setIfInBounds_toArray, List.set_cons_zero, List.set_cons_succ]
        refine held_take 4 rfl (by kernel_rfl) (by kernel_rfl) (by kernel_rfl) (fun _ _ _ h => h) (by rfl) hHeld (v := ?_) (fun w hSw => ?_) (fun _ => ?_)
        rotate_left
        · ((try dsimp only at hSw); go_simp; (try with_reducible rfl))
        simp only [Act.put, List.setIfInBounds_toArray, List.set_cons_zero, List.set_cons_succ]
        refine held_two 5 9 (by kernel_rfl) rfl rfl (by rfl) (by rfl) (fun K hK => ?_) (fun K hK => ?_)
        · go_simp
          refine (CP1.out _ HD1.out).mono ?_
          rintro e w2 ⟨rfl, hb2⟩
          have HD2 := Lib.hid (HD1.out.trans hb2)
          clear hb2
          dsimp only
          refine hK.out _ _ (HSS1.out _ HD2.out) (fun hHeld => ?_)
          clear hK K
          refine held_take 6 rfl (by kernel_rfl) (by kernel_rfl) (by kernel_rfl) (fun _ _ _ h => h) (by rfl) hHeld (v := ?_) (fun w hSw => ?_) (fun _ => ?_)
          rotate_left
          · ((try dsimp only at hSw); go_simp; (try with_reducible rfl))
          simp only [Act.put, List.setIfInBounds_toArray, List.set_cons_zero, List.set_cons_succ]
          refine held_take 7 rfl (by kernel_rfl) (by kernel_rfl) (by kernel_rfl) (fun _ _ _ h => h) (by rfl) hHeld (v := ?_) (fun w hSw => ?_) (fun _ => ?_)
          rotate_left
          · ((try dsimp only at hSw); go_simp; (try with_reducible rfl))
          simp only [Act.put, List.setIfInBounds_toArray, List.set_cons_zero, List.set_cons_succ]
          refine held_take 8 rfl (by kernel_rfl) (by kernel_rfl) (by kernel_rfl) (fun _ _ _ h => h) (by rfl) hHeld (v := ?_) (fun w hSw => ?_) (fun _ => ?_)
          rotate_left
          · ((try dsimp only at hSw); go_simp; (try with_reducible rfl))
          simp only [Act.put, List.setIfInBounds_toArray, List.set_cons_zero, List.set_cons_succ]
          refine held_call 9 (by kernel_rfl) rfl (by rfl) (fun K hK => ?_)
          go_simp
          refine hK.out _ _ (HSS1.out _ (HD2.out.alloc HD2.out.size _)) (fun hHeld => ?_)
          clear hK K
          refine held_call 10 (by kernel_rfl) rfl (by rfl) (fun K hK => ?_)
          go_simp
          have H10 := Lib.hid (HD2.out.alloc HD2.out.size (.cells #[.string yn, .slice ypa ypl ypc, .slice yka ykl ykc] 25))
          refine hK.out _ _ (HSS1.out _ H10.out) (fun hHeld => ?_)
          clear hK K
          refine held_take 11 rfl (by kernel_rfl) (by kernel_rfl) (by kernel_rfl) (fun _ _ _ h => h) (by rfl) hHeld (v := ?_) (fun w hSw => ?_) (fun _ => ?_)
          rotate_left
          · ((try dsimp only at hSw); go_simp; (try with_reducible rfl))
          simp only [Act.put, List.setIfInBounds_toArray, List.set_cons_zero, List.set_cons_succ]
          refine wpAnyH_done (by kernel_rfl) ?_ _
          clear hHeld
          obtain ⟨V, hWe⟩ : ∃ V, V = w2.alloc (.cells #[.string yn, .slice ypa ypl ypc, .slice yka ykl ykc] 25) := ⟨_, rfl⟩
          obtain ⟨gb, hgb⟩ : ∃ gb, gb = w2.heap.size := ⟨_, rfl⟩
          have hkW : V.heap[gb]? = some (.cells #[.string yn, .slice ypa ypl ypc, .slice yka ykl ykc] 25 (0, 0)) := by rw [hWe, hgb]; exact heap_alloc_new w2 _
          have hbW : Below W1.heap.size W1 V := by rw [hWe]; exact H10.out
          rw [← hWe, ← hgb]
          clear hWe hgb H10 HD2
          revert V gb
          exact key2
        · go_simp
          have HZ1 := Lib.hid ((Below.refl W1.heap.size W1).alloc (Nat.le_refl _) (.cells #[.string ⟨#[]⟩, .slice none 0 0, .slice none 0 0] 25)).drew
          refine hK.out _ _ (HSS1.out _ HZ1.out) (fun hHeld => ?_)
          clear hK K
          refine held_call 5 (by kernel_rfl) rfl (by rfl) (fun K hK => ?_)
          go_simp
          refine (CP1.out _ HZ1.out).mono ?_
          rintro e w2 ⟨rfl, hb2⟩
          have HD2 := Lib.hid (HZ1.out.trans (hb2.mono (by simp)))
          have hz2 : w2.heap[W1.heap.size]? = some (.cells #[.string ⟨#[]⟩, .slice none 0 0, .slice none 0 0] 25 (0, 0)) := (hb2.block W1.heap.size (by simp)).trans (heap_alloc_new W1 _)
          clear hb2
          dsimp only
          refine hK.out _ _ (HSS1.out _ HD2.out) (fun hHeld => ?_)
          clear hK K
          refine held_take 6 rfl (by kernel_rfl) (by kernel_rfl) (by kernel_rfl) (fun _ _ _ h => h) (by rfl) hHeld (v := ?_) (fun w hSw => ?_) (fun _ => ?_)
          rotate_left
          · ((try dsimp only at hSw); go_simp; (try with_reducible rfl))
          simp only [Act.put, List.setIfInBounds_toArray, List.set_cons_zero, List.set_cons_succ]
          refine held_take 7 rfl (by kernel_rfl) (by kernel_rfl) (by kernel_rfl) (fun _ _ _ h => h) (by rfl) hHeld (v := ?_) (fun w hSw => ?_) (fun _ => ?_)
          rotate_left
          · ((try dsimp only at hSw); go_simp; (try with_reducible rfl))
          simp only [Act.put, List.setIfInBounds_toArray, List.set_cons_zero, List.set_cons_succ]
          refine held_take 8 rfl (by kernel_rfl) (by kernel_rfl) (by kernel_rfl) (fun _ _ _ h => h) (by rfl) hHeld (v := ?_) (fun w hSw => ?_) (fun _ => ?_)
          rotate_left
          · ((try dsimp only at hSw); go_simp; (try with_reducible rfl))
          simp only [Act.put, List.setIfInBounds_toArray, List.set_cons_zero, List.set_cons_succ]
          have y0 : w2.cell? ⟨W1.heap.size, 0, none⟩ = some (.string ⟨#[]⟩) := by rw [Lib.cell_of_heap hz2]; rfl
          have y1 : w2.cell? ⟨W1.heap.size, 1, none⟩ = some (.slice none 0 0) := by rw [Lib.cell_of_heap hz2]; rfl
          have y2 : w2.cell? ⟨W1.heap.size, 2, none⟩ = some (.slice none 0 0) := by rw [Lib.cell_of_heap hz2]; rfl
          have e0 := Lib.frozen_of_heap hz2 0
          have e1 := Lib.frozen_of_heap hz2 1
          have e2 := Lib.frozen_of_heap hz2 2
          refine held_call 10 (by kernel_rfl) rfl (by rfl) (fun K hK => ?_)
          go_simp
          have H10 : Hid (Below W1.heap.size W1 (((w2.setCell ⟨W1.heap.size, 0, none⟩ (.string yn)).setCell ⟨W1.heap.size, 1, none⟩ (.slice ypa ypl ypc)).setCell ⟨W1.heap.size, 2, none⟩ (.slice yka ykl ykc))) := Lib.hid (below_sets HD2.out 0 _ (Nat.le_refl _) _ _ _)
          refine hK.out _ _ (HSS1.out _ H10.out) (fun hHeld => ?_)
          clear hK K
          refine held_take 11 rfl (by kernel_rfl) (by kernel_rfl) (by kernel_rfl) (fun _ _ _ h => h) (by rfl) hHeld (v := ?_) (fun w hSw => ?_) (fun _ => ?_)
          rotate_left
          · ((try dsimp only at hSw); go_simp; (try with_reducible rfl))
          simp only [Act.put, List.setIfInBounds_toArray, List.set_cons_zero, List.set_cons_succ]
          refine wpAnyH_done (by kernel_rfl) ?_ _
          clear hHeld
          obtain ⟨V, hWe⟩ : ∃ V, V = (((w2.setCell ⟨W1.heap.size, 0, none⟩ (.string yn)).setCell ⟨W1.heap.size, 1, none⟩ (.slice ypa ypl ypc)).setCell ⟨W1.heap.size, 2, none⟩ (.slice yka ykl ykc)) := ⟨_, rfl⟩
          obtain ⟨gb, hgb⟩ : ∃ gb, gb = W1.heap.size := ⟨_, rfl⟩
          have hkW : V.heap[gb]? = some (.cells #[.string yn, .slice ypa ypl ypc, .slice yka ykl ykc] 25 (0, 0)) := by rw [hWe, hgb]; exact heap_set3 0 _ hz2 _ _ _
          have hbW : Below W1.heap.size W1 V := by rw [hWe]; exact H10.out
          rw [← hWe, ← hgb]
          clear hWe hgb H10 HD2 hz2 y0 y1 y2 e0 e1 e2
          revert V gb
          exact key2
      intro W g2 hk2 hbW2
      have hk1 := (hbW2.block g1 (by have h := HK1.out; exact (Array.getElem?_eq_some_iff.1 h).1)).trans HK1.out
      have hbW := HBW1.out.trans (hbW2.mono HBW1.out.size)
      clear hbW2 HK1 HBW1 HSS1 CP1 HD1
      have c0 : W.cell? ⟨g1, 0, none⟩ = some (.string xn) := by rw [Lib.cell_of_heap hk1]; rfl
      have c1 : W.cell? ⟨g1, 1, none⟩ = some (.slice xpa xpl xpc) := by rw [Lib.cell_of_heap hk1]; rfl
      have c2 : W.cell? ⟨g1, 2, none⟩ = some (.slice xka xkl xkc) := by rw [Lib.cell_of_heap hk1]; rfl
      have e0 : W.cell? ⟨g2, 0, none⟩ = some (.string yn) := by rw [Lib.cell_of_heap hk2]; rfl
      have e1 : W.cell? ⟨g2, 1, none⟩ = some (.slice ypa ypl ypc) := by rw [Lib.cell_of_heap hk2]; rfl
      have e2 : W.cell? ⟨g2, 2, none⟩ = some (.slice yka ykl ykc) := by rw [Lib.cell_of_heap hk2]; rfl
      have HBW := Lib.hid hbW
      have HC := Lib.hid (CR.out W (HBR.out.trans (hbW.mono HBR.out.size)))
      clear hk1 hk2 hbW
      go_wp2_with fail
      refine HC.out.mono ?_
      rintro e w3 ⟨⟨A3, m3, c3, rfl, s3, l3, l3'⟩, hb3⟩
      have HB3 := Lib.hid (HBW.out.trans (hb3.mono HBW.out.size))
      have HBZ := Lib.hid (HBR.out.trans (HB3.out.mono HBR.out.size))
      have HS3 := Lib.hid s3
      have HL3 : Hid (L.length = m3) := Lib.hid (by have := s3.1; rwa [List.length_map] at this)
      clear hb3 s3 c0 c1 c2 e0 e1 e2
      have HBZ0 := Lib.hid (HBR0.out.trans (HB3.out.mono HBR0.out.size))
      go_wp2_with fail
      go_loopw [47] (fun v wr => ∃ i : Nat, i ≤ m3 ∧ v = .int .i64 i ∧ NM L i ∧ Below w3.heap.size w3 wr) (fun v _ => m3 - (intOf v).toNat)
      case atStart => exact ⟨0, Nat.zero_le _, rfl, NM.zero L, Below.refl _ _⟩
      case round =>
        rename World => wi
        obtain ⟨i, hi, rfl, hnm, hb⟩ := hrel
        have HNM := Lib.hid hnm
        have HBI := Lib.hid hb
        clear hnm hb
        by_cases hlt : i < m3
        · have hil : i < L.length := by rw [HL3.out]; exact hlt
          have HIL := Lib.hid hil
          go_wp2_with fail
          go_loopw [51] (fun v wr => ∃ p : Nat, p ≤ i ∧ v = .int .i64 p ∧ NR L i p ∧ Below wi.heap.size wi wr) (fun v _ => i - (intOf v).toNat)
          case atStart => exact ⟨0, Nat.zero_le _, rfl, NR.zero L i, Below.refl _ _⟩
          case round =>
            obtain ⟨p, hp, rfl, hnr, hb⟩ := hrel
            have HNR := Lib.hid hnr
            have HBP := Lib.hid hb
            have HBX := Lib.hid (HBI.out.trans (hb.mono HBI.out.size))
            clear hnr hb
            by_cases hpi : p < i
            · have hpl : p < L.length := by omega
              have hpm : p < m3 := by omega
              obtain ⟨b, o, e, _, hc⟩ := (HS3.out.below HBX.out).2 (by omega)
              obtain rfl : A3 = _ := e
              obtain ⟨i0, i1, i2⟩ := hc i (by rw [List.length_map]; exact hil)
              obtain ⟨p0, p1, p2⟩ := hc p (by rw [List.length_map]; exact hpl)
              rw [List.getElem_map] at i0 i2 p0 p2
              have hi64 := H64.out _ (List.getElem_mem hil)
              have hp64 := H64.out _ (List.getElem_mem hpl)
              obtain ⟨ia, hia⟩ : ∃ x, L[i].1 = x := ⟨_, rfl⟩
              obtain ⟨iz, hiz⟩ : ∃ x, L[i].2.2 = x := ⟨_, rfl⟩
              obtain ⟨pa_, hpa⟩ : ∃ x, L[p].1 = x := ⟨_, rfl⟩
              obtain ⟨pz, hpz⟩ : ∃ x, L[p].2.2 = x := ⟨_, rfl⟩
              have hstep : meetB ia iz pa_ pz = false → NR L i (p + 1) := by
                subst hia hiz hpa hpz
                exact HNR.out.step hil hpi
              replace i0 : wr.cell? ⟨b, o + i * 3, none⟩ = some (.int .u64 ia) := by rw [← hia]; exact i0
              replace i2 : wr.cell? ⟨b, o + i * 3 + 2, none⟩ = some (.int .u64 iz) := by rw [← hiz]; exact i2
              replace p0 : wr.cell? ⟨b, o + p * 3, none⟩ = some (.int .u64 pa_) := by rw [← hpa]; exact p0
              replace p2 : wr.cell? ⟨b, o + p * 3 + 2, none⟩ = some (.int .u64 pz) := by rw [← hpz]; exact p2
              have HSTEP := Lib.hid hstep
              obtain ⟨mt, hmt⟩ : ∃ mt, meetB ia iz pa_ pz = mt := ⟨_, rfl⟩
              have CM := Lib.hid (fun V => refmeet_any ia iz pa_ pz V (by rw [← hia]; exact hi64.1) (by rw [← hiz]; exact hi64.2.2) (by rw [← hpa]; exact hp64.1) (by rw [← hpz]; exact hp64.2.2) mt hmt)
              rw [hmt] at HSTEP
              have HP : Hid (∀ V, Below wr.heap.size wr V → (V.cell? ⟨b, o + i * 3, none⟩ = some (.int .u64 ia) ∧ V.cell? ⟨b, o + i * 3 + 2, none⟩ = some (.int .u64 iz) ∧ V.cell? ⟨b, o + p * 3, none⟩ = some (.int .u64 pa_) ∧ V.cell? ⟨b, o + p * 3 + 2, none⟩ = some (.int .u64 pz))) := Lib.hid (fun V hV => by
                have ko : ∀ {q : Addr} {v : Value}, wr.cell? q = some v → V.cell? q = some v := fun {q v} h => (hV.cell (p := q) (World.block_lt_of_cell? wr _ h)).trans h
                exact ⟨ko i0, ko i2, ko p0, ko p2⟩)
              have HD2 := Lib.hid (Below.refl wr.heap.size wr).drew
              clear i1 p1 hi64 hp64 hc hpl hil hia hiz hpa hpz hmt hstep i0 i2 p0 p2
              go_wp2_with fail
              refine wp_region_held_drew (S := fun V => V.cell? ⟨b, o + i * 3, none⟩ = some (.int .u64 ia) ∧ V.cell? ⟨b, o + i * 3 + 2, none⟩ = some (.int .u64 iz) ∧ V.cell? ⟨b, o + p * 3, none⟩ = some (.int .u64 pa_) ∧ V.cell? ⟨b, o + p * 3 + 2, none⟩ = some (.int .u64 pz)) (by kernel_rfl) (HP.out _ HD2.out) (fun hHeld => ?_)
              refine held_take 0 rfl (by kernel_rfl) (by kernel_rfl) (by kernel_rfl) (fun _ _ _ h => h) (by rfl) hHeld (v := ?_) (fun w hSw => ?_) (fun _ => ?_)
              rotate_left
              · ((try dsimp only at hSw); go_simp; (try with_reducible rfl))
              simp only [Act.put, List.setIfInBounds_toArray, List.set_cons_zero, List.set_cons_succ]
              refine held_take 1 rfl (by kernel_rfl) (by kernel_rfl) (by kernel_rfl) (fun _ _ _ h => h) (by rfl) hHeld (v := ?_) (fun w hSw => ?_) (fun _ => ?_)
              rotate_left
              · ((try dsimp only at hSw); go_simp; (try with_reducible rfl))
              simp only [Act.put, List.setIfInBounds_toArray, List.set_cons_zero, List.set_cons_succ]
              refine held_take 2 rfl (by kernel_rfl) (by kernel_rfl) (by kernel_rfl) (fun _ _ _ h => h) (by rfl) hHeld (v := ?_) (fun w hSw => ?_) (fun _ => ?_)
              rotate_left
              · ((try dsimp only at hSw); go_simp; (try with_reducible rfl))
              simp only [Act.put, List.setIfInBounds_toArray, List.set_cons_zero, List.set_cons_succ]
              refine held_take 3 rfl (by kernel_rfl) (by kernel_rfl) (by kernel_rfl) (fun _ _ _ h => h) (by rfl) hHeld (v := ?_) (fun w hSw => ?_) (fun _ => ?_)
              rotate_left
              · ((try dsimp only at hSw); go_simp; (try with_reducible rfl))
              simp only [Act.put, List.setIfInBounds_toArray, List.set_cons_zero, List.set_cons_succ]
              refine held_take 4 rfl (by kernel_rfl) (by kernel_rfl) (by kernel_rfl) (fun _ _ _ h => h) (by rfl) hHeld (v := ?_) (fun w hSw => ?_) (fun _ => ?_)
              rotate_left
              · ((try dsimp only at hSw); go_simp; (try with_reducible rfl))
              simp only [Act.put, List.setIfInBounds_toArray, List.set_cons_zero, List.set_cons_succ]
              refine held_take 5 rfl (by kernel_rfl) (by kernel_rfl) (by kernel_rfl) (fun _ _ _ h => h) (by rfl) hHeld (v := ?_) (fun w hSw => ?_) (fun _ => ?_)
              rotate_left
              · ((try dsimp only at hSw); go_simp; (try with_reducible rfl))
              simp only [Act.put, List.setIfInBounds_toArray, List.set_cons_zero, List.set_cons_succ]
              refine held_take 6 rfl (by kernel_rfl) (by kernel_rfl) (by kernel_rfl) (fun _ _ _ h => h) (by rfl) hHeld (v := ?_) (fun w hSw => ?_) (fun _ => ?_)
              rotate_left
              · ((try dsimp only at hSw); go_simp; (try with_reducible rfl))
              simp only [Act.put, List.setIfInBounds_toArray, List.set_cons_zero, List.set_cons_succ]
              refine held_take 7 rfl (by kernel_rfl) (by kernel_rfl) (by kernel_rfl) (fun _ _ _ h => h) (by rfl) hHeld (v := ?_) (fun w hSw => ?_) (fun _ => ?_)
              rotate_left
              · ((try dsimp only at hSw); go_simp; (try with_reducible rfl))
              simp only [Act.put, List.setIfInBounds_toArray, List.set_cons_zero, List.set_cons_succ]
              refine held_take 8 rfl (by kernel_rfl) (by kernel_rfl) (by kernel_rfl) (fun _ _ _ h => h) (by rfl) hHeld (v := ?_) (fun w hSw => ?_) (fun _ => ?_)
              rotate_left
              · ((try dsimp only at hSw); go_simp; (try with_reducible rfl))
              simp only [Act.put, List.setIfInBounds_toArray, List.set_cons_zero, List.set_cons_succ]
              refine held_take 9 rfl (by kernel_rfl) (by kernel_rfl) (by kernel_rfl) (fun _ _ _ h => h) (by rfl) hHeld (v := ?_) (fun w hSw => ?_) (fun _ => ?_)
              rotate_left
              · ((try dsimp only at hSw); go_simp; (try with_reducible rfl))
              simp only [Act.put, List.setIfInBounds_toArray, List.set_cons_zero, List.set_cons_succ]
              refine held_take 10 rfl (by kernel_rfl) (by kernel_rfl) (by kernel_rfl) (fun _ _ _ h => h) (by rfl) hHeld (v := ?_) (fun w hSw => ?_) (fun _ => ?_)
              rotate_left
              · ((try dsimp only at hSw); go_simp; (try with_reducible rfl))
              simp only [Act.put, List.setIfInBounds_toArray, List.set_cons_zero, List.set_cons_succ]
              refine held_take 11 rfl (by kernel_rfl) (by kernel_rfl) (by kernel_rfl) (fun _ _ _ h => h) (by rfl) hHeld (v := ?_) (fun w hSw => ?_) (fun _ => ?_)
              rotate_left
              · ((try dsimp only at hSw); go_simp; (try with_reducible rfl))
              simp only [Act.put, List.setIfInBounds_toArray, List.set_cons_zero, List.set_cons_succ]
              refine held_take 12 rfl (by kernel_rfl) (by kernel_rfl) (by kernel_rfl) (fun _ _ _ h => h) (by rfl) hHeld (v := ?_) (fun w hSw => ?_) (fun _ => ?_)
              rotate_left
              · ((try dsimp only at hSw); go_simp; (try with_reducible rfl))
              simp only [Act.put, List.setIfInBounds_toArray, List.set_cons_zero, List.set_cons_succ]
              refine held_take 13 rfl (by kernel_rfl) (by kernel_rfl) (by kernel_rfl) (fun _ _ _ h => h) (by rfl) hHeld (v := ?_) (fun w hSw => ?_) (fun _ => ?_)
              rotate_left
              · ((try dsimp only at hSw); go_simp; (try with_reducible rfl))
              simp only [Act.put, List.setIfInBounds_toArray, List.set_cons_zero, List.set_cons_succ]
              refine held_take 14 rfl (by kernel_rfl) (by kernel_rfl) (by kernel_rfl) (fun _ _ _ h => h) (by rfl) hHeld (v := ?_) (fun w hSw => ?_) (fun _ => ?_)
              rotate_left
              · ((try dsimp only at hSw); go_simp; (try with_reducible rfl))
              simp only [Act.put, List.setIfInBounds_toArray, List.set_cons_zero, List.set_cons_succ]
              refine held_take 15 rfl (by kernel_rfl) (by kernel_rfl) (by kernel_rfl) (fun _ _ _ h => h) (by rfl) hHeld (v := ?_) (fun w hSw => ?_) (fun _ => ?_)
              rotate_left
              · ((try dsimp only at hSw); go_simp; (try with_reducible rfl))
              simp only [Act.put, List.setIfInBounds_toArray, List.set_cons_zero, List.set_cons_succ]
              refine held_take 16 rfl (by kernel_rfl) (by kernel_rfl) (by kernel_rfl) (fun _ _ _ h => h) (by rfl) hHeld (v := ?_) (fun w hSw => ?_) (fun _ => ?_)
              rotate_left
              · ((try dsimp only at hSw); go_simp; (try with_reducible rfl))
              simp only [Act.put, List.setIfInBounds_toArray, List.set_cons_zero, List.set_cons_succ]
              refine held_take 17 rfl (by kernel_rfl) (by kernel_rfl) (by kernel_rfl) (fun _ _ _ h => h) (by rfl) hHeld (v := ?_) (fun w hSw => ?_) (fun _ => ?_)
              rotate_left
              · ((try dsimp only at hSw); go_simp; (try with_reducible rfl))
              simp only [Act.put, List.setIfInBounds_toArray, List.set_cons_zero, List.set_cons_succ]
              refine held_take 18 rfl (by kernel_rfl) (by kernel_rfl) (by kernel_rfl) (fun _ _ _ h => h) (by rfl) hHeld (v := ?_) (fun w hSw => ?_) (fun _ => ?_)
              rotate_left
              · ((try dsimp only at hSw); go_simp; (try with_reducible rfl))
              simp only [Act.put, List.setIfInBounds_toArray, List.set_cons_zero, List.set_cons_succ]
              refine held_take 19 rfl (by kernel_rfl) (by kernel_rfl) (by kernel_rfl) (fun _ _ _ h => h) (by rfl) hHeld (v := ?_) (fun w hSw => ?_) (fun _ => ?_)
              rotate_left
              · ((try dsimp only at hSw); go_simp; (try with_reducible rfl))
              simp only [Act.put, List.setIfInBounds_toArray, List.set_cons_zero, List.set_cons_succ]
              refine held_take 20 rfl (by kernel_rfl) (by kernel_rfl) (by kernel_rfl) (fun _ _ _ h => h) (by rfl) hHeld (v := ?_) (fun w hSw => ?_) (fun _ => ?_)
              rotate_left
              · ((try dsimp only at hSw); go_simp; (try with_reducible rfl))
              simp only [Act.put, List.setIfInBounds_toArray, List.set_cons_zero, List.set_cons_succ]
              refine held_take 21 rfl (by kernel_rfl) (by kernel_rfl) (by kernel_rfl) (fun _ _ _ h => h) (by rfl) hHeld (v := ?_) (fun w hSw => ?_) (fun _ => ?_)
              rotate_left
              · ((try dsimp only at hSw); go_simp; (try with_reducible rfl))
              simp only [Act.put, List.setIfInBounds_toArray, List.set_cons_zero, List.set_cons_succ]
              refine held_call 22 (by kernel_rfl) rfl (by rfl) (fun K hK => ?_)
              go_simp
              refine (CM.out _).mono ?_
              rintro e w4 ⟨rfl, hb4⟩
              have HD4 := Lib.hid (HD2.out.trans hb4)
              clear hb4
              dsimp only
              refine hK.out _ _ (HP.out _ HD4.out) (fun hHeld => ?_)
              clear hK K
              refine wpAnyH_done (by kernel_rfl) ?_ _
              clear hHeld
              have HB4 := Lib.hid (HBP.out.trans (HD4.out.mono HBP.out.size))
              have HBE := Lib.hid (HBZ.out.trans ((HBX.out.trans (HD4.out.mono HBX.out.size)).mono HBZ.out.size))
              cases mt
              · have HSTEP2 := Lib.hid (HSTEP.out rfl)
                go_wp2
                go_roundw
                case rel => exact ⟨p + 1, by omega, by go_num, HSTEP2.out, HB4.out⟩
                case measure => simp [intOf]; omega
              · go_wp2
                go_ret
                exact ⟨⟨true, rfl, fun h => by cases h⟩, HBE.out⟩
            · obtain rfl : p = i := by omega
              have HNX := Lib.hid (HNM.out.step HNR.out)
              clear hil
              go_wp2
              go_roundw
              case rel => exact ⟨p + 1, by omega, by go_num, HNX.out, HBX.out⟩
              case measure => simp [intOf]; omega
        · obtain rfl : i = m3 := by omega
          have HNX : Hid (∀ q2, k ≤ q2 → q2 < n → NoMeet (wayR R z q2).2.2) := Lib.hid (fun q2 h1 h2 => by
            by_cases h3 : q2 = k
            · rw [h3, HWAY.out]
              exact NM.all (by rw [HL3.out]; exact HNM.out)
            · exact HNO.out q2 (by omega) h2)
          have HBQ0 := Lib.hid (HBZ0.out.trans (HBI.out.mono HBZ0.out.size))
          go_wp2
          go_roundw
          case rel => exact ⟨k, by omega, by go_num, HNX.out, HBQ0.out⟩
          case measure => simp [intOf]; omega
end Go.Proofs.Ytbblgkidgecdpaa

/-! Layer 13, XlateParts: out of what the program's Up answers. -/
namespace Go.Proofs.Ytbblgkidgecdpaa
open Go.RowKit
set_option linter.unusedVariables false
set_option linter.unusedSimpArgs false


theorem wayR_64 {w : World} {B : Nat} {root y : Nd} {z : List Int} (hin : root.In w B) (h : nodeZ root z = some y) (q : Nat) : ∀ r ∈ (wayR root z q).2.2, R64 r := by
  obtain ⟨x1, h1⟩ := nodeZ_take h q
  obtain ⟨x2, h2⟩ := nodeZ_take h (q + 1)
  unfold wayR
  rw [h1, h2]
  exact rangesV_64 (nodeZ_in _ hin h1) (nodeZ_in _ hin h2)
theorem upV_64 {root : Nd} {z : List Int} {s : Int} : ∀ (k : Nat) (a b : Int), (∀ q, ∀ r ∈ (wayR root z q).2.2, R64 r) → U64 a → upV root z s k a = some b → U64 b
  | 0, a, b, _, ha, h => by rw [upV] at h; rw [← Option.some.inj h]; exact ha
  | k + 1, a, b, hw, ha, h => by
    rw [upV] at h
    split at h
    · cases h
    · split at h
      · cases h
      · rename_i x hx
        exact upV_64 k x b hw (upOne_64 (hw k) ha hx) h
set_option maxRecDepth 20000 in
set_option maxHeartbeats 8000000 in
theorem xlateParts_true (hK : Awake13) (hU : XUpOK) (t : Tr) (z : List Int) (A : Option Addr) (n c : Nat) (a s cut : Int) (w : World) (hin : t.In w w.heap.size) (hp : Cel w w.heap.size A n (intsZ z)) (hnc : n ≤ c) (hc : c ≤ 9223372036854775807) (hh : heftN t.root ≤ 134217728) (ha : U64 a) (hs : U64 s) (hcut : U64 cut) :
    Calls Try.prog 6 #[t.val, .slice A n c, .int .u64 a, .int .u64 s, .int .u64 cut] w fun e w' => e = .returned (.bool true) ∧ Below w.heap.size w w' := by
  have C0 := Lib.hid (fun w h => few_any t w h)
  obtain ⟨E, hE⟩ : ∃ E, checkE t = E := ⟨_, rfl⟩
  have CK := Lib.hid (fun w h => refcheck_any t w h E hE)
  have HK := Lib.hid hK
  have HI := Lib.hid hin
  have HP := Lib.hid hp
  have C2 := Lib.hid (fun W (hW : Below w.heap.size w W) => refget_any t z A n c W (hin.on hW) (hp.on hW) hnc hc)
  have C1 := Lib.hid (fun (h0 : E = 0) (h40 : n ≤ 40) W (hW : Below w.heap.size w W) => hU t z A n c a s W (hin.on hW) (hp.on hW) hnc hc hh ha hs h40 (hE.trans h0))
  have C4 := Lib.hid (fun kk (hk : U64 (a + kk)) (h0 : E = 0) (h40 : n ≤ 40) W (hW : Below w.heap.size w W) => hU t z A n c (a + kk) 1 W (hin.on hW) (hp.on hW) hnc hc hh hk ⟨by omega, by omega⟩ h40 (hE.trans h0))
  have CO := Lib.hid (fun (hr : ∃ y, nodeZ t.root z = some y) W (hW : Below w.heap.size w W) => overlaps_any t z A n c W (hin.on hW) (hp.on hW) hnc hc hr hh)
  have HPART := Lib.hid (fun kk b (hs0 : s ≠ 0) (h0 : 0 ≤ kk) (h1 : kk < s) (hm : ∀ q, q < n → NoMeet (wayR t.root z q).2.2) (hv : upV t.root z s n a = some b) => upV_part hs0 h0 h1 n a b hm hv)
  have HENDS := Lib.hid (fun b (hs0 : s ≠ 0) (hn : 0 < n) (hv : upV t.root z s n a = some b) => upV_ends hs0 n a b hn hv)
  have HV64 := Lib.hid (fun b (hr : ∃ y, nodeZ t.root z = some y) (hv : upV t.root z s n a = some b) => upV_64 n a b (fun q => by obtain ⟨y, hy⟩ := hr; exact wayR_64 hin.root hy q) ha hv)
  obtain ⟨N, hN⟩ : ∃ N, nodeZ t.root z = N := ⟨_, rfl⟩
  obtain ⟨UV, hUV⟩ : ∃ UV, upV t.root z s n a = UV := ⟨_, rfl⟩
  obtain ⟨UF, hUF⟩ : ∃ UF : Int → Option Int, ∀ kk, upV t.root z 1 n (a + kk) = UF kk := ⟨_, fun _ => rfl⟩
  obtain ⟨NM0, hNM⟩ : ∃ NM0 : Prop, (∀ q, q < n → NoMeet (wayR t.root z q).2.2) = NM0 := ⟨_, rfl⟩
  rw [hN] at C1 CO HV64
  rw [hUV] at C1 HPART HENDS HV64
  rw [hNM] at CO HPART
  simp only [hN, hUF] at C4 HPART
  have HA := Lib.hid ha
  have HCUT := Lib.hid hcut
  obtain ⟨s0, s1⟩ := hs
  clear hK hU hin hp hh ha hE hN hUV hUF hNM hcut C2
  obtain ⟨boot, ra, rc, rs, ⟨nm, pa, pc, ps, ka, kc, ks⟩⟩ := t
  simp only [Tr.val, Tr.rv, Nd.val, Nd.pv, Nd.kv, Nd.name, Nd.pa, Nd.pc, Nd.props, Nd.ka, Nd.kc, Nd.kids] at C0 C1 C4 CO CK ⊢
  have HB := Lib.hid ((Below.refl w.heap.size w).alloc (Nat.le_refl _) (.cells #[.int .u32 boot, .slice ra rs.length rc, .string nm, .slice pa ps.length pc, .slice ka ks.length kc] 31))
  have BX := Lib.hid (box6_cells w (.int .u32 boot) (.slice ra rs.length rc) (.string nm) (.slice pa ps.length pc) (.slice ka ks.length kc))
  go_enter Try.func6, Try.ntmps6
  go_wp2_with fail
  refine (HK.out _).mono ?_
  rintro e w1 ⟨rfl, hb⟩
  have HB1 := Lib.hid (HB.out.trans (hb.mono HB.out.size))
  have HX1 := Lib.hid (hb.mono (B' := w.heap.size + 1) (by simp))
  obtain ⟨b0, b1, b2, b3, b4⟩ := BX.out _ HX1.out
  clear hb
  go_wp2_with fail
  refine (C0.out _ (HI.out.on HB1.out)).mono ?_
  rintro e w2 ⟨⟨r, rfl⟩, hb⟩
  have HB2 := Lib.hid (HB1.out.trans (hb.mono HB1.out.size))
  have HX2 := Lib.hid (HX1.out.trans (hb.mono (by have := HX1.out.size; simpa using this)))
  clear hb b0 b1 b2 b3 b4
  obtain ⟨b0, b1, b2, b3, b4⟩ := BX.out _ HX2.out
  cases r
  · clear b0 b1 b2 b3 b4
    go_wp2_with fail
    refine (HK.out _).mono ?_
    rintro e wz ⟨rfl, hb⟩
    have HBZ := Lib.hid (HB2.out.trans (hb.mono HB2.out.size))
    clear hb
    go_wp2
    go_ret
    exact ⟨rfl, HBZ.out⟩
  by_cases h40 : 40 < n
  · have d40 : decide ((n : Int) > 40) = true := decide_eq_true (by omega)
    have d41 : (40 : Int) < (n : Int) := by omega
    clear h40
    clear b0 b1 b2 b3 b4
    go_wp2_with fail
    refine (HK.out _).mono ?_
    rintro e wz ⟨rfl, hb⟩
    have HBZ := Lib.hid (HB2.out.trans (hb.mono HB2.out.size))
    clear hb
    go_wp2
    go_ret
    exact ⟨rfl, HBZ.out⟩
  have d40 : decide ((n : Int) > 40) = false := decide_eq_false (by omega)
  have d41 : ¬ (40 : Int) < (n : Int) := by omega
  go_wp2_with fail
  refine (CK.out _ (HI.out.on HB2.out)).mono ?_
  rintro e w3 ⟨rfl, hb⟩
  have HB3 := Lib.hid (HB2.out.trans (hb.mono HB2.out.size))
  have HX3 := Lib.hid (HX2.out.trans (hb.mono (by have := HX2.out.size; simpa using this)))
  clear hb b0 b1 b2 b3 b4
  obtain ⟨b0, b1, b2, b3, b4⟩ := BX.out _ HX3.out
  by_cases hE0 : E = 0
  rotate_left
  · have k0 : (E != 0) = true := by rw [bne_iff_ne]; exact hE0
    clear hE0
    clear b0 b1 b2 b3 b4
    go_wp2_with fail
    refine (HK.out _).mono ?_
    rintro e wz ⟨rfl, hb⟩
    have HBZ := Lib.hid (HB3.out.trans (hb.mono HB3.out.size))
    clear hb
    go_wp2
    go_ret
    exact ⟨rfl, HBZ.out⟩
  have k0 : (E != 0) = false := by rw [hE0]; rfl
  go_wp2_with fail
  refine (C1.out hE0 (by omega) _ HB3.out).mono ?_
  rintro e w4 ⟨ho1, ho2, hb⟩
  cases N with
  | none =>
    obtain rfl := ho1 rfl
    clear ho1 ho2
    have HB4 := Lib.hid (HB3.out.trans (hb.mono HB3.out.size))
    have HX4 := Lib.hid (HX3.out.trans (hb.mono (by have := HX3.out.size; simpa using this)))
    clear hb b0 b1 b2 b3 b4
    obtain ⟨b0, b1, b2, b3, b4⟩ := BX.out _ HX4.out
    clear b0 b1 b2 b3 b4
    go_wp2
    go_ret
    exact ⟨rfl, HB4.out⟩
  | some x =>
    obtain ⟨ho3, ho4⟩ := ho2 ⟨_, rfl⟩
    clear ho1 ho2
    cases UV with
    | none =>
      obtain ⟨er, rfl, her⟩ := ho3 rfl
      clear ho3 ho4
      have HB4 := Lib.hid (HB3.out.trans (hb.mono HB3.out.size))
      have HX4 := Lib.hid (HX3.out.trans (hb.mono (by have := HX3.out.size; simpa using this)))
      clear hb b0 b1 b2 b3 b4
      obtain ⟨b0, b1, b2, b3, b4⟩ := BX.out _ HX4.out
      rcases her with rfl | rfl
      · clear b0 b1 b2 b3 b4
        go_wp2
        go_ret
        exact ⟨rfl, HB4.out⟩
      · clear b0 b1 b2 b3 b4
        go_wp2
        go_ret
        exact ⟨rfl, HB4.out⟩
    | some v =>
      obtain rfl := ho4 v rfl
      clear ho3 ho4
      have HB4 := Lib.hid (HB3.out.trans (hb.mono HB3.out.size))
      have HX4 := Lib.hid (HX3.out.trans (hb.mono (by have := HX3.out.size; simpa using this)))
      clear hb b0 b1 b2 b3 b4
      obtain ⟨b0, b1, b2, b3, b4⟩ := BX.out _ HX4.out
      by_cases hs0 : s = 0
      · subst hs0
        clear b0 b1 b2 b3 b4
        go_wp2
        go_ret
        exact ⟨rfl, HB4.out⟩
      have ks0 : (s == 0) = false := by rw [beq_eq_false_iff_ne]; exact hs0
      by_cases hn0 : n = 0
      · subst hn0
        clear hs0
        clear b0 b1 b2 b3 b4
        go_wp2
        go_ret
        exact ⟨rfl, HB4.out⟩
      have kn0 : ((n : Int) == 0) = false := by rw [beq_eq_false_iff_ne]; omega
      obtain ⟨kk, hkk⟩ : ∃ kk, cut % s = kk := ⟨_, rfl⟩
      have hk0 : 0 ≤ kk := by rw [← hkk]; exact Int.emod_nonneg _ hs0
      have hk1 : kk < s := by rw [← hkk]; exact Int.emod_lt_of_pos _ (by omega)
      have T1 : Int.tmod cut s = kk := by rw [← hkk]; exact Int.tmod_eq_emod_of_nonneg HCUT.out.1
      obtain ⟨e1, e2⟩ := HENDS.out v hs0 (by omega) rfl
      have ha0 := HA.out.1
      have W1 : IntKind.u64.wrap (a + kk) = a + kk := IntWalk.u64_in _ (by omega)
      have hv0 : 0 ≤ v := (HV64.out v ⟨_, rfl⟩ rfl).1
      have W2 : IntKind.u64.wrap (v + kk) = v + kk := IntWalk.u64_in _ (by omega)
      have C5 := Lib.hid (fun W hW => C4.out kk ⟨by omega, by omega⟩ hE0 (by omega) W hW)
      have HP2 := Lib.hid (fun hm => HPART.out kk v hs0 hk0 hk1 hm rfl)
      generalize UF kk = UV2 at *
      clear hs0 hn0 e1 e2 ha0
      go_wp2_with fail
      refine (C5.out _ HB4.out).mono ?_
      rintro e w5 ⟨_, ho2, hb⟩
      obtain ⟨ho3, ho4⟩ := ho2 ⟨_, rfl⟩
      clear ho2
      cases UV2 with
      | none =>
        obtain ⟨er, rfl, her⟩ := ho3 rfl
        clear ho3 ho4
        have HB5 := Lib.hid (HB4.out.trans (hb.mono HB4.out.size))
        have HX5 := Lib.hid (HX4.out.trans (hb.mono (by have := HX4.out.size; simpa using this)))
        clear hb b0 b1 b2 b3 b4
        obtain ⟨b0, b1, b2, b3, b4⟩ := BX.out _ HX5.out
        go_wp2_with fail
        refine (CO.out ⟨_, rfl⟩ _ HB5.out).mono ?_
        rintro e w6 ⟨⟨r6, rfl, hr6⟩, hb⟩
        have HB6 := Lib.hid (HB5.out.trans (hb.mono HB5.out.size))
        have HR6 := Lib.hid hr6
        clear hb hr6 b0 b1 b2 b3 b4
        cases r6
        · have h := HP2.out (HR6.out rfl)
          cases h
        · go_wp2
          go_ret
          exact ⟨rfl, HB6.out⟩
      | some v2 =>
        obtain rfl := ho4 v2 rfl
        clear ho3 ho4
        have HB5 := Lib.hid (HB4.out.trans (hb.mono HB4.out.size))
        have HX5 := Lib.hid (HX4.out.trans (hb.mono (by have := HX4.out.size; simpa using this)))
        clear hb b0 b1 b2 b3 b4
        obtain ⟨b0, b1, b2, b3, b4⟩ := BX.out _ HX5.out
        go_wp2_with fail
        refine (CO.out ⟨_, rfl⟩ _ HB5.out).mono ?_
        rintro e w6 ⟨⟨r6, rfl, hr6⟩, hb⟩
        have HB6 := Lib.hid (HB5.out.trans (hb.mono HB5.out.size))
        have HR6 := Lib.hid hr6
        clear hb hr6 b0 b1 b2 b3 b4
        cases r6
        · have h := HP2.out (HR6.out rfl)
          obtain rfl := Option.some.inj h
          go_wp2
          go_ret
          exact ⟨rfl, HB6.out⟩
        · go_wp2
          go_ret
          exact ⟨rfl, HB6.out⟩
end Go.Proofs.Ytbblgkidgecdpaa

/-! Layer 3, a tree that came in: how heavy it is, by the bulk of what it reads as. -/
namespace Go.Proofs.Ytbblgkidgecdpaa
open Go.RowKit Go.ChangeShapes Go.WideShapes Go.Deep
set_option linter.unusedVariables false
set_option linter.unusedSimpArgs false

theorem bulk_one {H : Type} (d : DataW H) : 1 ≤ Rows.uptoBulk d := by
  cases d with
  | lit l => cases l <;> simp [Rows.uptoBulk]
  | nil => simp [Rows.uptoBulk]
  | ptr d => simp [Rows.uptoBulk]
  | slice elems spare => simp [Rows.uptoBulk]
  | agg parts => simp [Rows.uptoBulk]
  | iface t d => simp [Rows.uptoBulk]
  | map entries => simp [Rows.uptoBulk]
  | held h => simp [Rows.uptoBulk]
theorem bulk_length {H : Type} (l : List (DataW H)) : l.length ≤ Rows.uptoBulkAll l := by
  induction l with
  | nil => simp [Rows.uptoBulkAll]
  | cons x r ih => have := bulk_one x; simp only [Rows.uptoBulkAll, List.length_cons]; omega
theorem sixteen {α : Type} : ∀ l : List α, (l.map (fun _ => 16)).sum = 16 * l.length
  | [] => rfl
  | x :: l => by rw [List.map_cons, List.sum_cons, sixteen l, List.length_cons]; omega
theorem bulk_sum {H : Type} {α : Type} (g : α → Nat) (F : Nat → α) (D : Nat → DataW H) : ∀ l : List Nat, (∀ i ∈ l, g (F i) ≤ 16 * Rows.uptoBulk (D i)) → ((l.map F).map g).sum ≤ 16 * Rows.uptoBulkAll (l.map D)
  | [], _ => by simp
  | i :: l, h => by
    have h1 := h i (by simp)
    have h2 := bulk_sum g F D l (fun j hj => h j (by simp [hj]))
    simp only [List.map_cons, List.sum_cons, Rows.uptoBulkAll]
    omega

section
variable {H : Type} {enc : TypeId × Value → H} {w : World} {base : Nat} {spare : Nat → Bool} {held : Bool}

set_option maxRecDepth 100000 in
theorem bulk_pv {fuel : Nat} {cs : List Value} {x : DataW H × List MemPlace} (h : DataW.trod enc Try.prog w base spare held fuel 79 cs = some x) (hw : ∀ z ∈ DataW.weights Try.prog 79 x.1, z ≤ 140737488351232) :
    ∃ p : PV, cs = [.string p.name, p.val] ∧ p.In w w.heap.size ∧ heftP p ≤ 16 * Rows.uptoBulk x.1 := by
  obtain ⟨y0, y1, n, rfl, hl, h0, h1⟩ := trod_struct2 Try.underlying79 h
  rw [Try.cellsProp] at hl
  obtain ⟨c0, c1, rfl⟩ : ∃ c0 c1, cs = [c0, c1] := by
    exact two_of hl
  rw [Try.cellsStr] at h0
  rw [Try.cellsBytes] at h1
  obtain ⟨s, e0, rfl, hs⟩ := DataW.trod_string Try.underlying9 h0
  simp only [List.drop_zero, List.take_succ_cons, List.take_zero, List.cons.injEq, and_true] at e0
  subst e0
  have hs' : s.size ≤ 140737488351232 := hw s.size (by
    simp only [DataW.weights, DataW.weightsEach, Try.underlying79, List.map_cons, List.map_nil]
    exact List.mem_append_left _ (by simp))
  rcases open_ints Try.underlying65 Try.underlying5 Try.cellsByte h1 with ⟨e1, _⟩ | ⟨a, len, cap, zs, e1, hb, hlc, hm, hz, rfl, hcell, hwf⟩
  · simp only [List.drop_succ_cons, List.drop_zero, List.take_succ_cons, List.take_zero, List.cons.injEq, and_true] at e1
    subst e1
    exact ⟨⟨s, none, 0, []⟩, rfl, ⟨⟨hs', by simp⟩, Shows.nil _ _, Nat.le_refl _, by simp⟩, by (have e : s.data.size = s.size := rfl; simp only [heftP, Rows.uptoBulk, Rows.uptoBulkAll, List.length_nil, Array.length_toList]; omega)⟩
  · simp only [List.drop_succ_cons, List.drop_zero, List.take_succ_cons, List.take_zero, List.cons.injEq, and_true] at e1
    subst e1
    have hle : len ≤ zs.length := by rw [hz]; split <;> omega
    have hl' : (zs.take len).length = len := by rw [List.length_take]; omega
    have hb' : zs.length * Try.prog.bytesOf 5 ≤ 140737488351232 := hw _ (by
      simp only [DataW.weights, DataW.weightsEach, Try.underlying79, Try.underlying65, List.map_cons, List.map_nil]
      refine List.mem_append_right _ (List.mem_append_left _ (List.mem_cons.2 (.inl ?_)))
      simp only [lits, List.length_map, List.length_take, List.length_drop]
      congr 1
      omega)
    have e1 : Try.prog.bytesOf 5 = 1 := by kernel_rfl
    rw [e1] at hb'
    refine ⟨⟨s, some a, cap, zs.take len⟩, by rw [PV.val, hl'], ⟨⟨hs', by simp only [hl']; omega⟩, ?_, by rw [hl']; exact hlc, hm⟩, by (have h9 := bulk_length (lits (H := H) .u8 (zs.take len)); have h8 : (lits (H := H) .u8 (zs.take len)).length = len := (by simp only [lits, List.length_map]; exact hl'); have e : s.data.size = s.size := rfl; simp only [heftP, Rows.uptoBulk, Rows.uptoBulkAll, Array.length_toList, hl']; omega)⟩
    refine ⟨rfl, fun z hz' => ?_, fun hn => ?_⟩
    · have h2 := bounds_u8 (hwf z (List.mem_of_mem_take hz'))
      omega
    · rw [hl'] at hn
      obtain ⟨b, o, spot⟩ := a
      have hc := hcell 0 (by omega)
      have hspot : spot = none := by simpa [Addr.add] using World.cell?_spot hc
      subst hspot
      refine ⟨b, o, rfl, ?_, fun i hi => ?_⟩
      · rw [addr_add] at hc
        exact World.block_lt_of_cell? w _ hc
      · rw [hl'] at hi
        have hci := hcell i (by omega)
        rw [addr_add] at hci
        rw [hci]
        refine congrArg (fun z => some (Value.int .u8 z)) ?_
        simp [List.getD, List.getElem?_take_of_lt hi]

set_option maxRecDepth 100000 in
theorem bulk_row {α : Type} [Inhabited α] {t e : TypeId} {c : Nat} (f : α → List Value) (good : α → Prop) (g : α → Nat) {fuel : Nat} {cs : List Value} {x : DataW H × List MemPlace} (ht : Try.prog.underlying t = some (.slice e)) (hc : Try.prog.cellsOf e = c) (hc0 : 0 < c)
    (hlen : ∀ p, (f p).length = c) (each : ∀ (n : Nat) (cs : List Value) (y : DataW H × List MemPlace), SizeOf.sizeOf y.1 < SizeOf.sizeOf x.1 → DataW.trod enc Try.prog w base spare held n e cs = some y → (∀ z ∈ DataW.weights Try.prog e y.1, z ≤ 140737488351232) → ∃ p : α, cs = f p ∧ good p ∧ g p ≤ 16 * Rows.uptoBulk y.1)
    (h : DataW.trod enc Try.prog w base spare held fuel t cs = some x) (hw : ∀ z ∈ DataW.weights Try.prog t x.1, z ≤ 140737488351232) :
    ∃ (a : Option Addr) (cap : Nat) (l : List α), cs = [.slice a l.length cap] ∧ (l.map g).sum + 16 ≤ 16 * Rows.uptoBulk x.1 ∧ l.length ≤ cap ∧ cap ≤ 9223372036854775807 ∧ l.length * Try.prog.bytesOf e ≤ 140737488351232 ∧ (∀ p ∈ l, good p) ∧
      (0 < l.length → ∃ b o, a = some ⟨b, o, none⟩ ∧ b < w.heap.size ∧ ∀ i (h : i < l.length), ∀ j, j < c → w.cell? ⟨b, o + i * c + j, none⟩ = (f l[i])[j]?) := by
  rcases open_slice ht h with ⟨rfl, _⟩ | ⟨a, len, cap, m, n, D, Pl, rfl, hb, hl, hm, hmm, rfl, hi⟩
  · exact ⟨none, 0, [], rfl, by (have := bulk_one x.1; simp only [List.map_nil, List.sum_nil]; omega), Nat.le_refl _, by simp, by simp, by simp, fun h => absurd h (by simp)⟩
  · have hlm : len ≤ m := by rw [hmm]; split <;> omega
    have sz : ∀ i, i < len → SizeOf.sizeOf (D i) < SizeOf.sizeOf (DataW.slice ((List.range len).map D) ((List.range (m - len)).map fun j => D (len + j))) := fun i hi' => by
      have hmem : D i ∈ (List.range len).map D := List.mem_map.2 ⟨i, List.mem_range.2 hi', rfl⟩
      have := List.sizeOf_lt_of_mem hmem
      simp only [DataW.slice.sizeOf_spec]
      omega
    have hw1 : (len + (m - len)) * Try.prog.bytesOf e ≤ 140737488351232 := hw _ (by
      simp only [DataW.weights, ht]
      refine List.mem_cons.2 (.inl ?_)
      simp)
    have hw2 : len * Try.prog.bytesOf e ≤ 140737488351232 := Nat.le_trans (Nat.mul_le_mul_right _ (by omega)) hw1
    have hwi : ∀ i, i < len → ∀ z ∈ DataW.weights Try.prog e (D i), z ≤ 140737488351232 := fun i hi' z hz => hw z (by
      simp only [DataW.weights, ht]
      exact List.mem_cons.2 (.inr (List.mem_append_left _ (weights_mem (List.mem_map.2 ⟨i, List.mem_range.2 hi', rfl⟩) hz))))
    obtain ⟨F, hF⟩ := choose_lt (α := α) (n := len) (p := fun i p => w.cells? base (a.add (i * Try.prog.cellsOf e)) (Try.prog.cellsOf e) = some (f p) ∧ good p ∧ g p ≤ 16 * Rows.uptoBulk (D i)) (fun i hi' => by
      obtain ⟨cs', h1, h2⟩ := hi i (by omega)
      obtain ⟨p, rfl, hg, hg2⟩ := each n cs' _ (sz i hi') h2 (hwi i hi')
      exact ⟨p, h1, hg, hg2⟩)
    refine ⟨some a, cap, (List.range len).map F, by simp, by have h7 := bulk_sum g F D (List.range len) (fun i hi' => (hF i (List.mem_range.1 hi')).2.2); simp only [Rows.uptoBulk]; omega, by simpa using hl, hm, by simpa using hw2, ?_, fun h0 => ?_⟩
    · intro p hp
      obtain ⟨i, hi', rfl⟩ := List.mem_map.1 hp
      exact (hF i (List.mem_range.1 hi')).2.1
    · simp only [List.length_map, List.length_range] at h0 ⊢
      obtain ⟨b, o, spot⟩ := a
      have cell : ∀ i, i < len → ∀ j, j < c → w.cell? ((⟨b, o, spot⟩ : Addr).add (i * c + j)) = (f (F i))[j]? := fun i hi' j hj => by
        obtain ⟨_, _, h3⟩ := World.cells?_some (hF i hi').1
        rw [hc] at h3
        rw [← Go.Deep.add_add]
        exact h3 j hj
      have c0 := cell 0 h0 0 hc0
      rw [List.getElem?_eq_getElem (by rw [hlen]; exact hc0)] at c0
      have hspot : spot = none := by simpa [Addr.add] using World.cell?_spot c0
      subst hspot
      refine ⟨b, o, rfl, World.block_lt_of_cell? w _ (by rw [addr_add] at c0; exact c0), fun i hi' j hj => ?_⟩
      have := cell i hi' j hj
      rw [addr_add, ← Nat.add_assoc] at this
      simpa using this

theorem heftL_sum : ∀ ks : List Nd, heftL ks = (ks.map heftN).sum
  | [] => rfl
  | k :: r => by simp only [heftL, List.map_cons, List.sum_cons, heftL_sum r]

set_option maxRecDepth 100000 in
theorem bulk_nd : ∀ (m fuel : Nat) (cs : List Value) (x : DataW H × List MemPlace), SizeOf.sizeOf x.1 ≤ m → DataW.trod enc Try.prog w base spare held fuel 25 cs = some x →
    (∀ z ∈ DataW.weights Try.prog 25 x.1, z ≤ 140737488351232) → ∃ n : Nd, cs = [.string n.name, n.pv, n.kv] ∧ n.In w w.heap.size ∧ heftN n ≤ 16 * Rows.uptoBulk x.1 := by
  intro m
  induction m with
  | zero => intro fuel cs x hx; exfalso; obtain ⟨d, pl⟩ := x; cases d <;> simp at hx
  | succ m ih =>
    intro fuel cs x hx h hw
    obtain ⟨y0, y1, y2, n, rfl, hl, h0, h1, h2⟩ := trod_struct3 Try.underlying25 h
    rw [Try.cellsNode] at hl
    obtain ⟨c0, c1, c2, rfl⟩ : ∃ c0 c1 c2, cs = [c0, c1, c2] := by
      exact three_of hl
    rw [Try.cellsStr] at h0
    rw [Try.cellsProps] at h1
    rw [Try.cellsNodes] at h2
    simp only [List.drop_zero, List.drop_succ_cons, List.take_succ_cons, List.take_zero] at h0 h1 h2
    simp only [DataW.weights, DataW.weightsEach, Try.underlying25, List.map_cons, List.map_nil] at hw
    have hw0 := fun z hz => hw z (List.mem_append_left _ hz)
    have hw1 := fun z hz => hw z (List.mem_append_right _ (List.mem_append_left _ hz))
    have hw2 := fun z hz => hw z (List.mem_append_right _ (List.mem_append_right _ (List.mem_append_left _ hz)))
    obtain ⟨s, e0, rfl, hs⟩ := DataW.trod_string Try.underlying9 h0
    simp only [List.cons.injEq, and_true] at e0
    subst e0
    have hs' : s.size ≤ 140737488351232 := hw0 s.size (by simp [DataW.weights])
    obtain ⟨pa, pc, props, e1, hph, hp1, hp2, hp3, hpg, hprow⟩ := bulk_row (c := 2) (fun p : PV => [.string p.name, p.val]) (fun p => p.In w w.heap.size) heftP Try.underlying22 Try.cellsProp (by omega) (fun _ => rfl) (fun n cs y _ hy hwy => bulk_pv hy hwy) h1 hw1
    obtain ⟨ka, kc, kids, e2, hkh, hk1, hk2, hk3, hkg, hkrow⟩ := bulk_row (c := 3) (fun k : Nd => [.string k.name, k.pv, k.kv]) (fun k => k.In w w.heap.size) heftN Try.underlying23 Try.cellsNode (by omega) (fun _ => rfl)
      (fun n cs y hy hy' hwy => ih n cs y (by simp only [DataW.agg.sizeOf_spec, List.cons.sizeOf_spec] at hx; omega) hy' hwy) h2 hw2
    simp only [List.cons.injEq, and_true] at e1 e2
    subst e1 e2
    rw [Try.bytesProp] at hp3
    rw [Try.bytesNode] at hk3
    refine ⟨.mk s pa pc props ka kc kids, rfl, .mk _ ⟨hs', hp3, hk3⟩ hp1 hp2 hk1 hk2 (fun h0 => ?_) hpg (fun h0 => ?_) hkg, by have e : s.data.size = s.size := rfl; simp only [heftN, heftL_sum, Rows.uptoBulk, Rows.uptoBulkAll, Array.length_toList]; omega⟩
    · obtain ⟨b, o, e, hb, hc⟩ := hprow h0
      exact ⟨b, o, e, hb, fun i hi => ⟨hc i hi 0 (by omega), hc i hi 1 (by omega)⟩⟩
    · obtain ⟨b, o, e, hb, hc⟩ := hkrow h0
      exact ⟨b, o, e, hb, fun i hi => ⟨hc i hi 0 (by omega), hc i hi 1 (by omega), hc i hi 2 (by omega)⟩⟩
set_option maxRecDepth 100000 in
theorem bulk_tr {fuel : Nat} {cs : List Value} {x : DataW H × List MemPlace} (h : DataW.trod enc Try.prog w base spare held fuel 31 cs = some x) (hw : ∀ z ∈ DataW.weights Try.prog 31 x.1, z ≤ 140737488351232) :
    ∃ t : Tr, cs = [.int .u32 t.boot, t.rv, .string t.root.name, t.root.pv, t.root.kv] ∧ t.In w w.heap.size ∧ heftN t.root ≤ 16 * Rows.uptoBulk x.1 ∧ t.rs.length ≤ Rows.uptoBulk x.1 := by
  obtain ⟨y0, y1, y2, n, rfl, hl, h0, h1, h2⟩ := trod_struct3 Try.underlying31 h
  rw [Try.cellsTree] at hl
  obtain ⟨c0, c1, c2, c3, c4, rfl⟩ : ∃ c0 c1 c2 c3 c4, cs = [c0, c1, c2, c3, c4] := by
    exact five_of hl
  rw [Try.cellsU32] at h0
  rw [Try.cellsRess] at h1
  rw [Try.cellsNode] at h2
  simp only [List.drop_zero, List.drop_succ_cons, List.take_succ_cons, List.take_zero] at h0 h1 h2
  simp only [DataW.weights, DataW.weightsEach, Try.underlying31, List.map_cons, List.map_nil] at hw
  have hw1 := fun z hz => hw z (List.mem_append_right _ (List.mem_append_left _ hz))
  have hw2 := fun z hz => hw z (List.mem_append_right _ (List.mem_append_right _ (List.mem_append_left _ hz)))
  obtain ⟨boot, e0, _, wb⟩ := DataW.trod_int Try.underlying28 h0
  obtain ⟨ra, rc, rs, e1, hrh, hr1, hr2, hr3, hrg, hrow⟩ := bulk_row (c := 2) (fun r : Int × Int => [.int .u64 r.1, .int .u64 r.2]) (fun r => (0 ≤ r.1 ∧ r.1 ≤ 18446744073709551615) ∧ (0 ≤ r.2 ∧ r.2 ≤ 18446744073709551615)) (fun _ => 16) Try.underlying29 Try.cellsRes (by omega) (fun _ => rfl) (fun n cs y _ hy _ => by obtain ⟨r, h1, h2⟩ := open_res hy; exact ⟨r, h1, h2, by have := bulk_one y.1; omega⟩) h1 hw1
  obtain ⟨root, e2, hin, hroot⟩ := bulk_nd _ n _ _ (Nat.le_refl _) h2 hw2
  simp only [List.cons.injEq, and_true] at e0 e1 e2
  obtain ⟨rfl, rfl, rfl⟩ := e2
  subst e0 e1
  rw [Try.bytesRes] at hr3
  refine ⟨⟨boot, ra, rc, rs, root⟩, rfl, ⟨bounds_u32 wb, ⟨hr1, hr2, hr3⟩, fun h0 => by
    obtain ⟨b, o, e, hb, hc⟩ := hrow h0
    exact ⟨b, o, e, hb, fun i hi => ⟨hc i hi 0 (by omega), hc i hi 1 (by omega)⟩⟩, hrg, hin⟩, ?_, ?_⟩
  · simp only [Rows.uptoBulk, Rows.uptoBulkAll]; omega
  · have e : (rs.map (fun _ => 16)).sum = 16 * rs.length := sixteen rs
    simp only [Rows.uptoBulk, Rows.uptoBulkAll]; omega
end
end Go.Proofs.Ytbblgkidgecdpaa

/-! Arguments that came in: places, numbers of 32 bits, bytes, pairs of numbers of 64 bits. -/
namespace Go.Proofs.Ytbblgkidgecdpaa
open Go.RowKit Go.ChangeShapes Go.WideShapes Go.Deep
set_option linter.unusedVariables false
set_option linter.unusedSimpArgs false

theorem pair_of {α : Type} {l : List α} (h : l.length = 2) : ∃ a b, l = [a, b] := by
  match l, h with
  | [a, b], _ => exact ⟨a, b, rfl⟩
/-- A row of numbers of a kind, as the row's reading gives it. -/
theorem cel_of_nums {k : IntKind} {w : World} {a : Option Addr} {len cap : Nat} {l : List Int}
    (h : (a = none ∧ len = 0 ∧ cap = 0 ∧ l = []) ∨ ∃ x, a = some x ∧ len ≤ cap ∧ cap ≤ maxLen ∧ l.length = cap ∧ (∀ i, i < l.length → w.cell? (x.add i) = some (.int k (l.getD i 0))) ∧ ∀ n ∈ l, (Lit.int k n).wf = true) :
    Cel w w.heap.size a len ((l.take len).map (Value.int k)) ∧ (l.take len).length = len ∧ len ≤ cap ∧ cap ≤ 9223372036854775807 ∧ ∀ z ∈ l.take len, (Lit.int k z).wf = true := by
  rcases h with ⟨rfl, rfl, rfl, rfl⟩ | ⟨x, rfl, hl, hm, hz, hcell, hwz⟩
  · exact ⟨Cel.nil _ _ _, rfl, Nat.le_refl _, by omega, by simp⟩
  · have hlen : (l.take len).length = len := by rw [List.length_take]; omega
    refine ⟨⟨by rw [List.length_map, hlen], fun hn => ?_⟩, hlen, hl, by unfold maxLen at hm; exact hm, fun z hz' => hwz z (List.mem_of_mem_take hz')⟩
    obtain ⟨b, o, spot⟩ := x
    have hc := hcell 0 (by omega)
    have hspot : spot = none := by simpa [Addr.add] using World.cell?_spot hc
    subst hspot
    refine ⟨b, o, rfl, ?_, fun i hi => ?_⟩
    · rw [addr_add] at hc
      exact World.block_lt_of_cell? w _ hc
    · have hci := hcell i (by omega)
      rw [addr_add] at hci
      rw [hci, List.getElem?_map, List.getElem?_take_of_lt hi]
      simp [List.getD, List.getElem?_eq_getElem (show i < l.length by omega)]
section
variable {H : Type} {enc : TypeId × Value → H} {W : World} {base : Nat} {v : Value} {d : DataW H} {p : List MemPlace}
set_option maxRecDepth 100000 in
theorem open_nums {t e : TypeId} {k : IntKind} (ht : Try.prog.underlying t = some (.slice e)) (he : Try.prog.underlying e = some (.int k)) (hc : Try.prog.cellsOf e = 1) (hv : Value.okWide Try.prog W .any base t v) (h : DataW.Trod enc Try.prog W 0 (fun _ => true) true t v d p) :
    ∃ (a : Option Addr) (len cap : Nat) (vs : List Int), v = .slice a len cap ∧ Cel W W.heap.size a len (vs.map (Value.int k)) ∧ vs.length = len ∧ len ≤ cap ∧ cap ≤ 9223372036854775807 ∧ ∀ z ∈ vs, (Lit.int k z).wf = true := by
  obtain ⟨a0, len0, cap0, rfl⟩ := okWide_slice ht hv
  obtain ⟨fuel, hf⟩ := h
  rcases open_ints ht he hc hf with ⟨hcs, _⟩ | ⟨x, l, c, zs, hcs, _, hl, hm, hz, _, hcell, hwz⟩
  · simp [Value.cells] at hcs
    obtain ⟨rfl, rfl, rfl⟩ := hcs
    exact ⟨none, 0, 0, _, rfl, cel_of_nums (k := k) (l := []) (.inl ⟨rfl, rfl, rfl, rfl⟩)⟩
  · simp [Value.cells] at hcs
    obtain ⟨rfl, rfl, rfl⟩ := hcs
    exact ⟨some x, len0, cap0, _, rfl, cel_of_nums (k := k) (l := zs) (.inr ⟨_, rfl, hl, hm, by simpa using hz, hcell, hwz⟩)⟩
set_option maxRecDepth 100000 in
theorem open_places (hv : Value.okWide Try.prog W .any base 44 v) (h : DataW.Trod enc Try.prog W 0 (fun _ => true) true 44 v d p) :
    ∃ (a : Option Addr) (len cap : Nat) (vs : List Int), v = .slice a len cap ∧ Cel W W.heap.size a len (vs.map fun k => Value.int .i64 k) ∧ vs.length = len ∧ len ≤ cap ∧ cap ≤ 9223372036854775807 ∧ ∀ z ∈ vs, (Lit.int .i64 z).wf = true :=
  open_nums Try.underlying44 Try.underlying3 (by kernel_rfl) hv h
set_option maxRecDepth 100000 in
theorem open_u32s (hv : Value.okWide Try.prog W .any base 70 v) (h : DataW.Trod enc Try.prog W 0 (fun _ => true) true 70 v d p) :
    ∃ (a : Option Addr) (len cap : Nat) (vs : List Int), v = .slice a len cap ∧ Cel W W.heap.size a len (vs.map (Value.int .u32)) ∧ vs.length = len ∧ len ≤ cap ∧ cap ≤ 9223372036854775807 ∧ ∀ z ∈ vs, (Lit.int .u32 z).wf = true :=
  open_nums Try.underlying70 Try.underlying28 (by kernel_rfl) hv h
set_option maxRecDepth 100000 in
theorem open_u8s (hv : Value.okWide Try.prog W .any base 65 v) (h : DataW.Trod enc Try.prog W 0 (fun _ => true) true 65 v d p) :
    ∃ (a : Option Addr) (len cap : Nat) (zs : List Int), v = .slice a len cap ∧ Shows W W.heap.size a len zs ∧ len ≤ cap ∧ cap ≤ 9223372036854775807 := by
  obtain ⟨a0, len0, cap0, rfl⟩ := okWide_slice Try.underlying65 hv
  obtain ⟨fuel, hf⟩ := h
  rcases open_ints Try.underlying65 Try.underlying5 (by kernel_rfl) hf with ⟨hcs, _⟩ | ⟨x, l, c, zs, hcs, _, hl, hm, hz, _, hcell, hwz⟩
  · simp [Value.cells] at hcs
    obtain ⟨rfl, rfl, rfl⟩ := hcs
    exact ⟨none, 0, 0, [], rfl, Shows.nil _ _, Nat.le_refl _, by omega⟩
  · simp [Value.cells] at hcs
    obtain ⟨rfl, rfl, rfl⟩ := hcs
    have h1 := Shows.of_row (w := W) (a := some x) (len := len0) (cap := cap0) (l := zs) (.inr ⟨_, rfl, hl, hm, by simpa using hz, hcell, hwz⟩)
    exact ⟨some x, len0, cap0, _, rfl, h1.1, h1.2.1, by have := h1.2.2; unfold maxLen at this; exact this⟩
set_option maxRecDepth 100000 in
/-- A struct of two numbers of 64 bits. -/
theorem open_pair64 {t u : TypeId} {f0 f1 : Field} (ht : Try.prog.underlying t = some (.struct #[f0, f1])) (hu : Try.prog.underlying u = some (.int .u64)) (hv : Value.okWide Try.prog W .any base t v) (h : DataW.Trod enc Try.prog W 0 (fun _ => true) true t v d p)
    (h0 : f0.type = u := by rfl) (h1 : f1.type = u := by rfl) (o0 : f0.offset = 0 := by rfl) (o1 : f1.offset = 1 := by rfl) (hcu : Try.prog.cellsOf u = 1 := by kernel_rfl) (hct : Try.prog.cellsOf t = 2 := by kernel_rfl) :
    ∃ x y : Int, v = .agg #[.int .u64 x, .int .u64 y] ∧ 0 ≤ x ∧ x ≤ 18446744073709551615 ∧ 0 ≤ y ∧ y ≤ 18446744073709551615 := by
  obtain ⟨cs, rfl, hsz⟩ := okWide_struct ht hv
  obtain ⟨fuel, hf⟩ := h
  obtain ⟨y0, y1, n, _, hl, g0, g1⟩ := trod_struct2 ht hf
  rw [hct] at hl
  obtain ⟨c0, c1, hcs⟩ := pair_of hl
  rw [hcs, h0, o0, hcu] at g0
  rw [hcs, h1, o1, hcu] at g1
  obtain ⟨a, e0, _, w0⟩ := DataW.trod_int hu g0
  obtain ⟨c, e1, _, w1⟩ := DataW.trod_int hu g1
  simp only [List.drop_succ_cons, List.drop_zero, List.take_succ_cons, List.take_zero, List.cons.injEq, and_true] at e0 e1
  subst e0 e1
  refine ⟨a, c, ?_, (bounds_u64 w0).1, (bounds_u64 w0).2, (bounds_u64 w1).1, (bounds_u64 w1).2⟩
  have e : cs = #[.int .u64 a, .int .u64 c] := Array.toList_inj.1 (by simpa [Value.cells] using hcs)
  rw [e]
end
end Go.Proofs.Ytbblgkidgecdpaa
