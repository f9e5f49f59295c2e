/-
  Layer 13: the program's climb.
-/
import Derived.Test.YtbblgkidgecdpaaXSBack
import Derived.Test.YtbblgkidgecdpaaBase7
namespace Go.Proofs.Ytbblgkidgecdpaa
open Go.RowKit
set_option linter.unusedVariables false
set_option linter.unusedSimpArgs false
attribute [local go_sem] Oper.semAt_some

theorem allocs4x (w : World) (o0 o1 o2 o3 : Obj) : ((((w.alloc o0).alloc o1).alloc o2).alloc o3).heap.size = w.heap.size + 4 ∧ ((((w.alloc o0).alloc o1).alloc o2).alloc o3).heap[w.heap.size]? = some o0 ∧ ((((w.alloc o0).alloc o1).alloc o2).alloc o3).heap[w.heap.size + 1]? = some o1 ∧ ((((w.alloc o0).alloc o1).alloc o2).alloc o3).heap[w.heap.size + 2]? = some o2 ∧
    ((((w.alloc o0).alloc o1).alloc o2).alloc o3).heap[w.heap.size + 3]? = some o3 ∧ Below w.heap.size w ((((w.alloc o0).alloc o1).alloc o2).alloc o3) := by
  obtain ⟨w1, h1⟩ : ∃ w1, w.alloc o0 = w1 := ⟨_, rfl⟩
  obtain ⟨w2, h2⟩ : ∃ w2, w1.alloc o1 = w2 := ⟨_, rfl⟩
  obtain ⟨w3, h3⟩ : ∃ w3, w2.alloc o2 = w3 := ⟨_, rfl⟩
  obtain ⟨w4, h4⟩ : ∃ w4, w3.alloc o3 = w4 := ⟨_, rfl⟩
  have z1 : w1.heap.size = w.heap.size + 1 := by rw [← h1]; simp
  have z2 : w2.heap.size = w.heap.size + 2 := by rw [← h2]; simp [z1]
  have z3 : w3.heap.size = w.heap.size + 3 := by rw [← h3]; simp [z2]
  have z4 : w4.heap.size = w.heap.size + 4 := by rw [← h4]; simp [z3]
  have b1 : Below w.heap.size w w1 := by rw [← h1]; exact (Below.refl _ _).alloc (Nat.le_refl _) _
  have b2 : Below w1.heap.size w1 w2 := by rw [← h2]; exact (Below.refl _ _).alloc (Nat.le_refl _) _
  have b3 : Below w2.heap.size w2 w3 := by rw [← h3]; exact (Below.refl _ _).alloc (Nat.le_refl _) _
  have b4 : Below w3.heap.size w3 w4 := by rw [← h4]; exact (Below.refl _ _).alloc (Nat.le_refl _) _
  have n1 : w1.heap[w.heap.size]? = some o0 := by rw [← h1]; exact heap_alloc_new _ _
  have n2 : w2.heap[w.heap.size + 1]? = some o1 := by rw [← z1, ← h2]; exact heap_alloc_new _ _
  have n3 : w3.heap[w.heap.size + 2]? = some o2 := by rw [← z2, ← h3]; exact heap_alloc_new _ _
  have n4 : w4.heap[w.heap.size + 3]? = some o3 := by rw [← z3, ← h4]; exact heap_alloc_new _ _
  rw [h1, h2, h3, h4]
  refine ⟨z4, ?_, ?_, ?_, n4, b1.trans ((b2.mono (by omega)).trans ((b3.mono (by omega)).trans (b4.mono (by omega))))⟩
  · rw [b4.block _ (by omega), b3.block _ (by omega), b2.block _ (by omega)]; exact n1
  · rw [b4.block _ (by omega), b3.block _ (by omega)]; exact n2
  · rw [b4.block _ (by omega)]; exact n3
theorem heap_set1x {W : World} {b : Nat} {v : Value} {t : TypeId} (h : W.heap[b]? = some (.cells #[v] t (0, 0))) (x : Value) : (W.setCell ⟨b, 0, none⟩ x).heap[b]? = some (.cells #[x] t (0, 0)) := by simp [World.setCell, Array.getElem?_modify, h]
/-- Both results are written. -/
theorem two_setx {W : World} {g : Nat} {a b : Value} (x y : Value) {t t' : TypeId} (h2 : W.heap[g + 2]? = some (.cells #[a] t (0, 0))) (h3 : W.heap[g + 3]? = some (.cells #[b] t' (0, 0))) :
    ((W.setCell ⟨g + 2, 0, none⟩ x).setCell ⟨g + 3, 0, none⟩ y).heap[g + 2]? = some (.cells #[x] t (0, 0)) ∧ ((W.setCell ⟨g + 2, 0, none⟩ x).setCell ⟨g + 3, 0, none⟩ y).heap[g + 3]? = some (.cells #[y] t' (0, 0)) ∧
    (∀ k, k ≠ g + 2 → k ≠ g + 3 → ((W.setCell ⟨g + 2, 0, none⟩ x).setCell ⟨g + 3, 0, none⟩ y).heap[k]? = W.heap[k]?) ∧ ((W.setCell ⟨g + 2, 0, none⟩ x).setCell ⟨g + 3, 0, none⟩ y).heap.size = W.heap.size ∧ Below (g + 2) W ((W.setCell ⟨g + 2, 0, none⟩ x).setCell ⟨g + 3, 0, none⟩ y) := by
  refine ⟨?_, ?_, fun k k2 k3 => ?_, by simp [World.setCell], ((Below.refl _ W).setCell (p := ⟨g + 2, 0, none⟩) (Nat.le_refl _) x).setCell (p := ⟨g + 3, 0, none⟩) (by show g + 2 ≤ g + 3; omega) y⟩
  · rw [Below.heap_setCell _ _ _ _ (by show g + 2 ≠ g + 3; omega)]
    exact heap_set1x h2 x
  · have e : (W.setCell ⟨g + 2, 0, none⟩ x).heap[g + 3]? = some (.cells #[b] t' (0, 0)) := (Below.heap_setCell _ _ _ _ (by show g + 3 ≠ g + 2; omega)).trans h3
    exact heap_set1x e y
  · rw [Below.heap_setCell _ _ _ _ (by show k ≠ g + 3; exact k3), Below.heap_setCell _ _ _ _ (by show k ≠ g + 2; exact k2)]

def FreshL (g : Nat) (A : Option Addr) : Prop := ∀ b o, A = some ⟨b, o, none⟩ → g ≤ b
/-- What a step's list of ranges says, as it lies. -/
def StepOk (lo B : Nat) (w : World) (x : StepR) : Prop := Cel3 w B x.ra x.rn (x.L.map rngV) ∧ x.rn ≤ x.rc ∧ x.rc ≤ 9223372036854775807 ∧ x.rn ≤ 1099511627776 ∧ (∀ r ∈ x.L, R64 r) ∧ (0 < x.rn → FreshL lo x.ra)
/-- The way up, from the last step on: the address, and the error. -/
def climbF (s : Int) : List StepR → Int → Int × Int
  | [], a => (a, 0)
  | x :: r, a => if x.e ≠ 0 then (0, x.e) else match upOne x.L a s with
    | none => (0, 12)
    | some b => climbF s r b

/-- While it climbs: the boxes. -/
def ClI (g : Nat) (w : World) (s a : Int) (A : Option Addr) (n c : Nat) (pre : List StepR) (W : World) : Prop :=
  (∃ a', W.heap[g]? = some (.cells #[.int .u64 a'] 39 (0, 0)) ∧ U64 a' ∧ ∀ r, climbF s (pre ++ r) a = climbF s r a') ∧ W.heap[g + 1]? = some (.cells #[.int .u64 s] 39 (0, 0)) ∧ W.heap[g + 2]? = some (.cells #[.int .u64 0] 39 (0, 0)) ∧ W.heap[g + 3]? = some (.cells #[.int .i64 0] 33 (0, 0)) ∧ W.heap[g + 4]? = some (.cells #[.slice A n c] 90 (0, 0)) ∧ Below g w W
/-- When it has come to an error: the results. -/
def ClX (g : Nat) (w : World) (s a : Int) (pre : List StepR) (W : World) : Prop :=
  Below g w W ∧ ∃ er : Int, (∀ r, climbF s (pre ++ r) a = (0, er)) ∧ W.heap[g + 2]? = some (.cells #[.int .u64 0] 39 (0, 0)) ∧ W.heap[g + 3]? = some (.cells #[.int .i64 er] 33 (0, 0))
theorem ClI.keep {g : Nat} {w : World} {s a : Int} {A : Option Addr} {n c : Nat} {pre : List StepR} {W W' : World} (h : ClI g w s a A n c pre W) (hk : ∀ k, k < g + 5 → W'.heap[k]? = W.heap[k]?) (hb : Below g W W') : ClI g w s a A n c pre W' := by
  obtain ⟨⟨a', h0, h64, hr⟩, h1, h2, h3, h4, h5⟩ := h
  exact ⟨⟨a', (hk _ (by omega)).trans h0, h64, hr⟩, (hk _ (by omega)).trans h1, (hk _ (by omega)).trans h2, (hk _ (by omega)).trans h3, (hk _ (by omega)).trans h4, h5.trans hb⟩
theorem ClI.size {g : Nat} {w : World} {s a : Int} {A : Option Addr} {n c : Nat} {pre : List StepR} {W : World} (h : ClI g w s a A n c pre W) : g + 5 ≤ W.heap.size := by
  have := (Array.getElem?_eq_some_iff.1 h.2.2.2.2.1).1
  omega
theorem climb_stop {s a a' : Int} {pre : List StepR} {x : StepR} (h : ∀ r, climbF s (pre ++ r) a = climbF s r a') (he : x.e ≠ 0) (r : List StepR) : climbF s ((pre ++ [x]) ++ r) a = (0, x.e) := by
  rw [List.append_assoc, h, List.singleton_append, climbF, if_pos he]
theorem climb_none {s a a' : Int} {pre : List StepR} {x : StepR} (h : ∀ r, climbF s (pre ++ r) a = climbF s r a') (he : x.e = 0) (hu : upOne x.L a' s = none) (r : List StepR) : climbF s ((pre ++ [x]) ++ r) a = (0, 12) := by
  rw [List.append_assoc, h, List.singleton_append, climbF, if_neg (by simp [he]), hu]
theorem climb_some {s a a' b : Int} {pre : List StepR} {x : StepR} (h : ∀ r, climbF s (pre ++ r) a = climbF s r a') (he : x.e = 0) (hu : upOne x.L a' s = some b) (r : List StepR) : climbF s ((pre ++ [x]) ++ r) a = climbF s r b := by
  rw [List.append_assoc, h, List.singleton_append, climbF, if_neg (by simp [he]), hu]

set_option maxRecDepth 20000 in
set_option maxHeartbeats 8000000 in
theorem climb_any (A : Option Addr) (n c lo : Nat) (xs : List StepR) (a s : Int) (w : World) (hl : xs.length = n) (hrow : SRow w w.heap.size A xs) (hok : ∀ x ∈ xs, StepOk lo w.heap.size w x) (hnc : n ≤ c) (hc : c ≤ 9223372036854775807) (hn : n ≤ 1099511627776) (ha : U64 a) (hs : U64 s) :
    Calls Try.prog 30 #[.slice A n c, .int .u64 a, .int .u64 s] w fun e w' => e = .returned (.tuple #[.int .u64 (climbF s xs.reverse a).1, .int .i64 (climbF s xs.reverse a).2]) ∧ Below w.heap.size w w' := by
  have HS64 := Lib.hid hs
  have HA64 := Lib.hid ha
  have HOK := Lib.hid hok
  have HLN := Lib.hid hl
  have HBK := Lib.hid (fun W => backS_any A n c W)
  have HWK0 := Lib.hid (fun (k : Nat) (W : World) (hb : Below w.heap.size w W) (hk : k < W.heap.size) => backS_walks A c xs w.heap.size k W (hrow.keep (fun a h => hb.cell h)) hb.size hk (by rw [hl]; exact ⟨hnc, hc, by omega⟩))
  rw [hl] at HWK0
  obtain ⟨CV, hCV⟩ : ∃ CV, climbF s xs.reverse a = CV := ⟨_, rfl⟩
  have HCV := Lib.hid hCV
  rw [hCV]
  obtain ⟨g, hg⟩ : ∃ g, w.heap.size = g := ⟨_, rfl⟩
  obtain ⟨W0, hW0⟩ : ∃ W0, ((((w.alloc (.cells #[.int .u64 a] 39)).alloc (.cells #[.int .u64 s] 39)).alloc (.cells #[.int .u64 0] 39)).alloc (.cells #[.int .i64 0] 33)) = W0 := ⟨_, rfl⟩
  obtain ⟨s4, s0, s1, s2, s3, sb⟩ := allocs4x w (.cells #[.int .u64 a] 39) (.cells #[.int .u64 s] 39) (.cells #[.int .u64 0] 39) (.cells #[.int .i64 0] 33)
  rw [hW0] at s4 s0 s1 s2 s3 sb
  rw [hg] at s4 s0 s1 s2 s3 sb HWK0 HOK ⊢
  obtain ⟨W1, hW1⟩ : ∃ W1, W0.alloc (.cells #[.slice A n c] 90) = W1 := ⟨_, rfl⟩
  have b01 : Below W0.heap.size W0 W1 := by rw [← hW1]; exact (Below.refl _ _).alloc (Nat.le_refl _) _
  have n1 : W1.heap[g + 4]? = some (.cells #[.slice A n c] 90 (0, 0)) := by rw [← hW1, ← s4]; exact heap_alloc_new _ _
  have z1 : W1.heap.size = g + 5 := by rw [← hW1]; simp [s4]
  have bw1 : Below g w W1 := sb.trans (b01.mono (by omega))
  have HI0 : Hid (ClI g w s a A n c [] W1) :=
    Lib.hid ⟨⟨a, (b01.block _ (by omega)).trans s0, ha, fun r => rfl⟩, (b01.block _ (by omega)).trans s1, (b01.block _ (by omega)).trans s2, (b01.block _ (by omega)).trans s3, n1, bw1⟩
  have HWK := Lib.hid (HWK0.out (g + 4) W1 (by rw [← hg] at bw1; rw [hg] at bw1; exact bw1) (by omega))
  have HB0 : Hid (Calls Try.prog 46 #[.slice A n c] W0 fun e w' => e = .returned (.func (.func 54) #[] #[.pointer (some ⟨g + 4, 0, none⟩)]) ∧ w' = W1) := Lib.hid (by
    have h := HBK.out W0
    rwa [s4, hW1] at h)
  have HZ1 := Lib.hid z1
  clear hl hrow hok hnc hs HBK HWK0 hCV s0 s1 s2 s3 sb s4 hW1 b01 n1 z1 bw1 ha
  refine (callsIn_wide (n := 0)).1 ?_
  refine callsIn_of_wp_marks Try.func30 rfl trivial ?_ rfl
  simp only [Try.ntmps30, List.size_toArray, List.length_cons, List.length_nil, Nat.reduceAdd, Nat.reduceSub, Array.replicate_succ, Array.replicate_zero, List.push_toArray, List.append_toArray, List.nil_append, List.cons_append]
  gi_wp2_with (refine ⟨trivial, rfl, (callsIn_wide.2 HB0.out).mono ?_⟩; rintro e W4 ⟨rfl, hW4⟩)
  subst hW4
  clear HB0
  refine rangeFunc_iterX (gf := 54) (lb := #[.pointer (some ⟨g + 4, 0, none⟩)]) rfl (enters_of Try.func54 (by kernel_rfl) rfl) HWK.out (Below.refl _ _) (by rw [HZ1.out]; omega) (fun Wx x args h => by obtain ⟨i, rfl⟩ := h; rfl) (g + 5) (by rw [HZ1.out]; exact Nat.le_refl _) (fun _ => False) (fun k h => h.elim)
    (fun M pre Wx => ClI g w s a A n c pre Wx) (fun c M pre Wx => c = .ret ∧ ClX g w s a pre Wx)
    (fun T T' s A C hs hB hT ht hst => hs.keep (fun k hk => ht.same k (by have := hs.size; omega) (fun h => by have := (hT k h).1; omega)) ((ht.below hT hB).mono (by omega)))
    (fun c T T' s A C hs hB hT ht hst => by
      obtain ⟨rfl, hb, er, h1, h2, h3⟩ := hs
      have nt : ∀ k, k < g + 5 → ¬ T k := fun k hk h => by have := (hT k h).1; omega
      exact ⟨rfl, hb.trans ((ht.below hT hB).mono (by omega)), er, h1, (ht.same _ (Array.getElem?_eq_some_iff.1 h2).1 (nt _ (by omega))).trans h2, (ht.same _ (Array.getElem?_eq_some_iff.1 h3).1 (nt _ (by omega))).trans h3⟩)
    (fun M s W1 h => h.2.2.2.2.1) HI0.out ?round ?done ?stop
  case round =>
    rintro l2 M pre x args Wr hM hu hsz hbn hix ⟨i, rfl⟩ hpre
    have hxm : x ∈ xs := by
      have := hpre.subset (show x ∈ pre ++ [x] by simp)
      simpa using this
    have HX := Lib.hid (HOK.out x hxm)
    have HIX := Lib.hid hix
    have HWS := Lib.hid hix.size
    have HU : Hid (∀ k, k < g + 5 → ¬ M k) := Lib.hid (fun k hk h => by have := (hu k h).1; omega)
    have HUU := Lib.hid hu
    clear hxm hix hu hsz hbn hpre hM
    obtain ⟨ra, rn, rc, ex, L⟩ := x
    simp only [StepR.val, StepR.sv]
    obtain ⟨Wb, hWb⟩ : ∃ Wb, Wr.alloc (.cells #[.slice ra rn rc, .int .i64 ex] 111) = Wb := ⟨_, rfl⟩
    have hbb : Below Wr.heap.size Wr Wb := by rw [← hWb]; exact (Below.refl _ _).alloc (Nat.le_refl _) _
    have HC : Hid (Wb.cell? ⟨Wr.heap.size, 0, none⟩ = some (.slice ra rn rc) ∧ Wb.cell? ⟨Wr.heap.size, 1, none⟩ = some (.int .i64 ex)) := Lib.hid ⟨by rw [← hWb]; exact World.cell?_alloc_new _ _ _ _, by rw [← hWb]; exact World.cell?_alloc_new _ _ _ _⟩
    have HIB : Hid (ClI g w s a A n c pre Wb ∧ Kp g M Wr Wb) := Lib.hid ⟨HIX.out.keep (fun k hk => hbb.block k (by have := HWS.out; omega)) (hbb.mono (by have := HWS.out; omega)), Kp.of_below hbb (by have := HWS.out; omega) HUU.out⟩
    obtain ⟨sb, hsb⟩ : ∃ sb, Wr.heap.size = sb := ⟨_, rfl⟩
    have HSB : Hid (g + 5 ≤ sb ∧ Wb.heap.size = sb + 1) := Lib.hid ⟨by rw [← hsb]; exact HWS.out, by rw [← hWb, ← hsb]; simp⟩
    rw [hsb] at HC
    clear hbb HIX
    gi_wp2
    refine ⟨HIB.out.1, HIB.out.2, ?_⟩
    intro W3 hi3 ht3 hcl3 hfz3
    have d0 := (hcl3 _).trans HC.out.1
    have d1 := (hcl3 _).trans HC.out.2
    have HU3 := Lib.hid (ht3.ups (B := g + 5) (fun k hk => ⟨(HUU.out k hk).1, by have := (HUU.out k hk).2; have := HSB.out; omega⟩) (by have := HSB.out; omega))
    have HS3 : Hid (sb + 1 ≤ W3.heap.size) := Lib.hid (by have := ht3.size; have := HSB.out; omega)
    clear ht3 hcl3 hfz3 hWb hsb HC HIB
    have HI3 := Lib.hid hi3
    obtain ⟨⟨a', h0, h64, hr⟩, h1, h2, h3, h4, h5⟩ := hi3
    have HR := Lib.hid hr
    have H64 := Lib.hid h64
    have HSL := HS3.out
    have HSG := HSB.out.1
    by_cases he : ex = 0
    rotate_left
    · have k1 : (ex != 0) = true := by rw [bne_iff_ne]; exact he
      have f2 := Lib.frozen_of_heap h2 0
      have f3 := Lib.frozen_of_heap h3 0
      obtain ⟨r2, r3, ro, rs', rb⟩ := two_setx (W := W3.drew) (.int .u64 0) (.int .i64 ex) h2 h3
      have hx := climb_stop (s := s) (a := a) (pre := pre) (x := ⟨ra, rn, rc, ex, L⟩) hr he
      have hk3 : Kp g M W3 ((W3.drew.setCell ⟨g + 2, 0, none⟩ (.int .u64 0)).setCell ⟨g + 3, 0, none⟩ (.int .i64 ex)) := ⟨(Below.refl g W3).drew.trans (rb.mono (by omega)), fun k hk => by
        have := (HU3.out k hk).1
        exact (ro k (by omega) (by omega))⟩
      have c2 : W3.drew.cell? ⟨g + 2, 0, none⟩ = some (.int .u64 0) := by rw [Lib.cell_of_heap (w := W3.drew) h2]; rfl
      have c3 : W3.cell? ⟨g + 1 + 1 + 1, 0, none⟩ = some (.int .i64 0) := by rw [Lib.cell_of_heap (w := W3) h3]; rfl
      have f3' : W3.frozen? ⟨g + 1 + 1 + 1, 0, none⟩ = false := f3
      have g2 : (W3.drew.setCell ⟨g + 2, 0, none⟩ (.int .u64 0)).cell? ⟨sb, 1, none⟩ = some (.int .i64 ex) := (World.cell?_of_block (Below.heap_setCell _ _ _ _ (by show sb ≠ g + 2; omega))).trans d1
      have g3 : ((W3.drew.setCell ⟨g + 2, 0, none⟩ (.int .u64 0)).setCell ⟨g + 3, 0, none⟩ (.int .i64 ex)).cell? ⟨sb, 1, none⟩ = some (.int .i64 ex) := (World.cell?_of_block (ro sb (by omega) (by omega))).trans d1
      have G2 := Lib.hid g2
      have G3 := Lib.hid g3
      have HE : Hid (Kp g M W3 ((W3.drew.setCell ⟨g + 2, 0, none⟩ (.int .u64 0)).setCell ⟨g + 3, 0, none⟩ (.int .i64 ex)) ∧ ClX g w s a (pre ++ [⟨ra, rn, rc, ex, L⟩]) ((W3.drew.setCell ⟨g + 2, 0, none⟩ (.int .u64 0)).setCell ⟨g + 3, 0, none⟩ (.int .i64 ex))) := Lib.hid ⟨hk3, h5.trans hk3.below, ex, hx, r2, r3⟩
      clear h0 h1 h2 h3 h4 h5 hr h64 r2 r3 ro rs' rb hx hk3 he HX HI3 HSL f3 g2 g3
      gi_wp2_with fail
      refine in_begin (S := fun W => W.cell? ⟨sb, 1, none⟩ = some (.int .i64 ex)) (by kernel_rfl) d1 (fun hHeld => ?_)
      refine in_take 0 (fun _ => trivial) rfl (by kernel_rfl) (by kernel_rfl) (by kernel_rfl) (by kernel_rfl) (fun _ _ _ h => h) (by rfl) (by kernel_rfl) hHeld (v := ?_) (fun w hSw => ?_) (fun _ => ?_)
      rotate_left
      · ((try dsimp only at hSw); go_simp; (try with_reducible rfl))
      simp only [Act.put, List.setIfInBounds_toArray, List.set_cons_zero, List.set_cons_succ]
      refine in_take 1 (fun _ => trivial) rfl (by kernel_rfl) (by kernel_rfl) (by kernel_rfl) (by kernel_rfl) (fun _ _ _ h => h) (by rfl) (by kernel_rfl) hHeld (v := ?_) (fun w hSw => ?_) (fun _ => ?_)
      rotate_left
      · ((try dsimp only at hSw); go_simp; (try with_reducible rfl))
      simp only [Act.put, List.setIfInBounds_toArray, List.set_cons_zero, List.set_cons_succ]
      refine in_call 2 (by kernel_rfl) rfl (by rfl) (fun K hK => ?_)
      refine ⟨fun _ _ => trivial, ?_⟩
      go_simp
      refine hK.out _ _ G2.out (fun hHeld => ?_)
      clear hK K
      refine in_call 3 (by kernel_rfl) rfl (by rfl) (fun K hK => ?_)
      refine ⟨fun _ _ => trivial, ?_⟩
      go_simp
      refine hK.out _ _ G3.out (fun hHeld => ?_)
      clear hK K
      refine in_done (by kernel_rfl) ?_ _
      clear hHeld
      gi_wp2
      exact ⟨HE.out.1, rfl, HE.out.2⟩
    have k1 : (ex != 0) = false := by rw [he]; rfl
    have d2 : W3.cell? ⟨g, 0, none⟩ = some (.int .u64 a') := by rw [Lib.cell_of_heap h0]; rfl
    have d3 : W3.cell? ⟨g + 1, 0, none⟩ = some (.int .u64 s) := by rw [Lib.cell_of_heap h1]; rfl
    have HCL := Lib.hid (through_any ra rn rc L a' s W3 ((HX.out.1.below h5).more (by show g ≤ W3.heap.size; omega)) HX.out.2.1 HX.out.2.2.1 HX.out.2.2.2.2.1 h64 HS64.out HX.out.2.2.2.1)
    rcases hup : upOne L a' s with _ | b
    · rw [hup] at HCL
      have hx := climb_none (s := s) (a := a) (pre := pre) (x := ⟨ra, rn, rc, ex, L⟩) hr he hup
      have CL2 : Hid (Calls Try.prog 47 #[.slice ra rn rc, .int .u64 a', .int .u64 s] W3 fun e W4 => e = .returned (.tuple #[.int .u64 0, .bool false]) ∧ Hid (Below W3.heap.size W3 W4 ∧ W4.heap[g + 2]? = some (.cells #[.int .u64 0] 39 (0, 0)) ∧ W4.heap[g + 3]? = some (.cells #[.int .i64 0] 33 (0, 0))) ∧ W4.cell? ⟨g + 2, 0, none⟩ = some (.int .u64 0) ∧ W4.cell? ⟨g + 3, 0, none⟩ = some (.int .i64 0) ∧ W4.frozen? ⟨g + 2, 0, none⟩ = false ∧ W4.frozen? ⟨g + 3, 0, none⟩ = false) := Lib.hid (HCL.out.mono (by
        rintro e W4 ⟨rfl, hb4⟩
        have b2 := (hb4.block (g + 2) (by omega)).trans h2
        have b3 := (hb4.block (g + 3) (by omega)).trans h3
        exact ⟨rfl, ⟨hb4, b2, b3⟩, by rw [Lib.cell_of_heap b2]; rfl, by rw [Lib.cell_of_heap b3]; rfl, Lib.frozen_of_heap b2 0, Lib.frozen_of_heap b3 0⟩))
      have HXN := Lib.hid hx
      have H5 := Lib.hid h5
      have HSGG := Lib.hid HSG
      have HSLL := Lib.hid HSL
      clear h0 h1 h2 h3 h4 h5 hr h64 hx he HX HI3 HSL HSG HCL hup
      gi_wp2_with (refine ⟨trivial, rfl, (CallsIn.inRound l2 (callsIn_wide.2 CL2.out)).mono ?_⟩; clear CL2; rintro e W4 ⟨rfl, hb4, q2, q3, g2, g3⟩)
      obtain ⟨r2, r3, ro, rs', rb⟩ := two_setx (.int .u64 0) (.int .i64 12) hb4.out.2.1 hb4.out.2.2
      have hss := HSLL.out
      have hgg := HSGG.out
      have hk3 : Kp g M W3 W4 := Kp.of_below hb4.out.1 (by omega) HU3.out
      have hk4 : Kp g M W4 ((W4.setCell ⟨g + 2, 0, none⟩ (.int .u64 0)).setCell ⟨g + 3, 0, none⟩ (.int .i64 12)) := ⟨rb.mono (by omega), fun k hk => by
        have := (HU3.out k hk).1
        exact ro k (by omega) (by omega)⟩
      exact ⟨hk3.trans hk4, rfl, (H5.out.trans hk3.below).trans hk4.below, 12, HXN.out, r2, r3⟩
    · rw [hup] at HCL
      have hx : ∀ r, climbF s ((pre ++ [⟨ra, rn, rc, ex, L⟩]) ++ r) a = climbF s r b := climb_some (s := s) (a := a) (pre := pre) (x := ⟨ra, rn, rc, ex, L⟩) hr he hup
      have hb64 : U64 b := upOne_64 HX.out.2.2.2.2.1 h64 hup
      have CL2 : Hid (Calls Try.prog 47 #[.slice ra rn rc, .int .u64 a', .int .u64 s] W3 fun e W4 => e = .returned (.tuple #[.int .u64 b, .bool true]) ∧ Hid (Below W3.heap.size W3 W4 ∧ W4.heap[g]? = some (.cells #[.int .u64 a'] 39 (0, 0))) ∧ W4.cell? ⟨g, 0, none⟩ = some (.int .u64 a') ∧ W4.frozen? ⟨g, 0, none⟩ = false) := Lib.hid (HCL.out.mono (by
        rintro e W4 ⟨rfl, hb4⟩
        have b2 := (hb4.block g (by omega)).trans h0
        exact ⟨rfl, ⟨hb4, b2⟩, by rw [Lib.cell_of_heap b2]; rfl, Lib.frozen_of_heap b2 0⟩))
      have HXN := Lib.hid (And.intro hx hb64)
      have HSGG := Lib.hid HSG
      have HSLL := Lib.hid HSL
      clear h0 h1 h2 h3 h4 h5 hr h64 hx he HX HSL HSG HCL hup hb64
      gi_wp2_with (refine ⟨trivial, rfl, (CallsIn.inRound l2 (callsIn_wide.2 CL2.out)).mono ?_⟩; clear CL2; rintro e W4 ⟨rfl, hb4, q2, g2⟩)
      have hss := HSLL.out
      have hgg := HSGG.out
      have hk3 : Kp g M W3 W4 := Kp.of_below hb4.out.1 (by omega) HU3.out
      have hk4 : Kp g M W4 (W4.setCell ⟨g, 0, none⟩ (.int .u64 b)) := ⟨(Below.refl g W4).setCell (p := ⟨g, 0, none⟩) (Nat.le_refl _) _, fun k hk => by
        have := (HU3.out k hk).1
        exact Below.heap_setCell _ _ _ _ (by show k ≠ g; omega)⟩
      have hkk := hk3.trans hk4
      have hbl : ∀ k, k < g + 5 → k ≠ g → (W4.setCell ⟨g, 0, none⟩ (.int .u64 b)).heap[k]? = W3.heap[k]? := fun k hk hne => (Below.heap_setCell _ _ _ _ (by show k ≠ g; exact hne)).trans (hb4.out.1.block k (by omega))
      obtain ⟨_, h1, h2, h3, h4, h5⟩ := HI3.out
      exact ⟨hkk, ⟨b, heap_set1x hb4.out.2 _, HXN.out.2, HXN.out.1⟩, (hbl _ (by omega) (by omega)).trans h1, (hbl _ (by omega) (by omega)).trans h2, (hbl _ (by omega) (by omega)).trans h3, (hbl _ (by omega) (by omega)).trans h4, h5.trans hkk.below⟩
  case done =>
    rintro D M Wd hM hu hsz hD ⟨⟨a', h0, h64, hr⟩, h1, h2, h3, h4, h5⟩ hd
    have hDb := (hu D hD).1
    have d0 : Wd.cell? ⟨g, 0, none⟩ = some (.int .u64 a') := by rw [Lib.cell_of_heap h0]; rfl
    have c2 : Wd.cell? ⟨g + 2, 0, none⟩ = some (.int .u64 0) := by rw [Lib.cell_of_heap h2]; rfl
    have c3 : Wd.cell? ⟨g + 3, 0, none⟩ = some (.int .i64 0) := by rw [Lib.cell_of_heap h3]; rfl
    have f2 := Lib.frozen_of_heap h2 0
    have f3 := Lib.frozen_of_heap h3 0
    obtain ⟨r2, r3, ro, rs', rb⟩ := two_setx (.int .u64 a') (.int .i64 0) h2 h3
    have hd2 := (ro D (by omega) (by omega)).trans hd
    have pt : ∀ k, k ≠ D → (((Wd.setCell ⟨g + 2, 0, none⟩ (.int .u64 a')).setCell ⟨g + 3, 0, none⟩ (.int .i64 0)).putObj D (.deferred none)).heap[k]? = ((Wd.setCell ⟨g + 2, 0, none⟩ (.int .u64 a')).setCell ⟨g + 3, 0, none⟩ (.int .i64 0)).heap[k]? := fun k hk => World.putObj_heap_other hk
    have R2 := Lib.hid ((pt (g + 2) (by omega)).trans r2)
    have R3 := Lib.hid ((pt (g + 3) (by omega)).trans r3)
    have RB : Hid (Below g w (((Wd.setCell ⟨g + 2, 0, none⟩ (.int .u64 a')).setCell ⟨g + 3, 0, none⟩ (.int .i64 0)).putObj D (.deferred none))) := Lib.hid ((h5.trans (rb.mono (by omega))).trans ⟨rfl, rfl, rfl, by simp, fun k hk => pt k (by omega)⟩)
    have HNO : Hid (CV = (a', 0)) := Lib.hid (by
      have h := hr []
      rw [List.append_nil, HCV.out] at h
      exact h)
    have HD2 := Lib.hid hd2
    clear r2 r3 ro rs' rb hd2 pt h0 h1 h2 h3 h4 h5 hu hsz hM hd hDb hr h64
    gi_wp2
    refine ⟨by simp, .inl ⟨_, _, rfl, run_takeDeferred HD2.out, ?_⟩⟩
    have e2 : (((Wd.setCell ⟨g + 1 + 1, 0, none⟩ (.int .u64 a')).setCell ⟨g + 1 + 1 + 1, 0, none⟩ (.int .i64 0)).putObj D (.deferred none)).cell? ⟨g + 1 + 1, 0, none⟩ = some (.int .u64 a') := (Lib.cell_of_heap R2.out 0).trans rfl
    have e3 : (((Wd.setCell ⟨g + 1 + 1, 0, none⟩ (.int .u64 a')).setCell ⟨g + 1 + 1 + 1, 0, none⟩ (.int .i64 0)).putObj D (.deferred none)).cell? ⟨g + 1 + 1 + 1, 0, none⟩ = some (.int .i64 0) := (Lib.cell_of_heap R3.out 0).trans rfl
    refine ⟨.tuple #[.int .u64 a', .int .i64 0], by simp [results, Try.results30, go_sem, e2, e3], ?_⟩
    exact ⟨by rw [HNO.out], RB.out⟩
  case stop =>
    rintro D cc M pre Wd hM hu hsz hD hpre ⟨rfl, hb, er, h1, h2, h3⟩ hd
    have hDb := (hu D hD).1
    have pt : ∀ k, k ≠ D → (Wd.putObj D (.deferred none)).heap[k]? = Wd.heap[k]? := fun k hk => World.putObj_heap_other hk
    have R2 := Lib.hid ((pt (g + 2) (by omega)).trans h2)
    have R3 := Lib.hid ((pt (g + 3) (by omega)).trans h3)
    have RB : Hid (Below g w (Wd.putObj D (.deferred none))) := Lib.hid (hb.trans ⟨rfl, rfl, rfl, by simp, fun k hk => pt k (by omega)⟩)
    have HNO : Hid (CV = (0, er)) := Lib.hid (by
      obtain ⟨r, hr⟩ := hpre
      rw [← HCV.out, ← hr]
      exact h1 r)
    clear pt hb h1 h2 h3 hu hsz hM hDb hpre
    gi_wp2
    refine ⟨by simp, .inl ⟨_, _, rfl, run_takeDeferred hd, ?_⟩⟩
    have e2 : (Wd.putObj D (.deferred none)).cell? ⟨g + 1 + 1, 0, none⟩ = some (.int .u64 0) := (Lib.cell_of_heap R2.out 0).trans rfl
    have e3 : (Wd.putObj D (.deferred none)).cell? ⟨g + 1 + 1 + 1, 0, none⟩ = some (.int .i64 er) := (Lib.cell_of_heap R3.out 0).trans rfl
    refine ⟨.tuple #[.int .u64 0, .int .i64 er], by simp [results, Try.results30, go_sem, e2, e3], ?_⟩
    exact ⟨by rw [HNO.out], RB.out⟩
end Go.Proofs.Ytbblgkidgecdpaa
