/-
  Iter, part 13.
-/
import Derived.Test.YtcfinbapfhhpgaaGreatDoorIter12
import Derived.Test.YtcfinbapfhhpgaaGreatDoorBase10
import Derived.Test.YtcfinbapfhhpgaaGreatDoorBase7
namespace Go.Proofs.YtcfinbapfhhpgaaGreatDoor
open Go.RowKit
set_option linter.unusedVariables false
set_option linter.unusedSimpArgs false
set_option maxRecDepth 20000
set_option maxHeartbeats 16000000
section
attribute [local go_sem] Oper.semAt_some
theorem allocs4x (w : World) (o0 o1 o2 o3 : Obj) : ((((w.alloc o0).alloc o1).alloc o2).alloc o3).heap.size = w.heap.size + 4 /\ ((((w.alloc o0).alloc o1).alloc o2).alloc o3).heap[w.heap.size]? = some o0 /\ ((((w.alloc o0).alloc o1).alloc o2).alloc o3).heap[w.heap.size + 1]? = some o1 /\ ((((w.alloc o0).alloc o1).alloc o2).alloc o3).heap[w.heap.size + 2]? = some o2 /\
  ((((w.alloc o0).alloc o1).alloc o2).alloc o3).heap[w.heap.size + 3]? = some o3 /\ Below w.heap.size w ((((w.alloc o0).alloc o1).alloc o2).alloc o3) := by
 obtain ⟨w1, h1⟩ : ∃ w1, w.alloc o0 = w1 := ⟨_, rfl⟩
 obtain ⟨w2, h2⟩ : ∃ w2, w1.alloc o1 = w2 := ⟨_, rfl⟩
 obtain ⟨w3, h3⟩ : ∃ w3, w2.alloc o2 = w3 := ⟨_, rfl⟩
 obtain ⟨w4, h4⟩ : ∃ w4, w3.alloc o3 = w4 := ⟨_, rfl⟩
 have z1 : w1.heap.size = w.heap.size + 1 := by rw [<- h1]; simp
 have z2 : w2.heap.size = w.heap.size + 2 := by rw [<- h2]; simp [z1]
 have z3 : w3.heap.size = w.heap.size + 3 := by rw [<- h3]; simp [z2]
 have z4 : w4.heap.size = w.heap.size + 4 := by rw [<- h4]; simp [z3]
 have b1 : Below w.heap.size w w1 := by rw [<- h1]; exact (Below.refl _ _).alloc (Nat.le_refl _) _
 have b2 : Below w1.heap.size w1 w2 := by rw [<- h2]; exact (Below.refl _ _).alloc (Nat.le_refl _) _
 have b3 : Below w2.heap.size w2 w3 := by rw [<- h3]; exact (Below.refl _ _).alloc (Nat.le_refl _) _
 have b4 : Below w3.heap.size w3 w4 := by rw [<- h4]; exact (Below.refl _ _).alloc (Nat.le_refl _) _
 have n1 : w1.heap[w.heap.size]? = some o0 := by rw [<- h1]; exact heap_alloc_new _ _
 have n2 : w2.heap[w.heap.size + 1]? = some o1 := by rw [<- z1, <- h2]; exact heap_alloc_new _ _
 have n3 : w3.heap[w.heap.size + 2]? = some o2 := by rw [<- z2, <- h3]; exact heap_alloc_new _ _
 have n4 : w4.heap[w.heap.size + 3]? = some o3 := by rw [<- z3, <- h4]; exact heap_alloc_new _ _
 rw [h1, h2, h3, h4]
 refine ⟨z4, ?_, ?_, ?_, n4, b1.trans ((b2.mono (by omega)).trans ((b3.mono (by omega)).trans (b4.mono (by omega))))⟩
 ·rw [b4.block _ (by omega), b3.block _ (by omega), b2.block _ (by omega)]; exact n1
 ·rw [b4.block _ (by omega), b3.block _ (by omega)]; exact n2
 ·rw [b4.block _ (by omega)]; exact n3
theorem qfp_ {W : World} {b : Nat} {v : Value} {t : TypeId} (h : W.heap[b]? = some (.cells #[v] t (0, 0))) (x : Value) : (W.setCell ⟨b, 0, none⟩ x).heap[b]? = some (.cells #[x] t (0, 0)) := by simp [World.setCell, Array.getElem?_modify, h]
theorem qkf_ {W : World} {g : Nat} {a b : Value} (x y : Value) {t t' : TypeId} (h2 : W.heap[g + 2]? = some (.cells #[a] t (0, 0))) (h3 : W.heap[g + 3]? = some (.cells #[b] t' (0, 0))) :
  ((W.setCell ⟨g + 2, 0, none⟩ x).setCell ⟨g + 3, 0, none⟩ y).heap[g + 2]? = some (.cells #[x] t (0, 0)) /\ ((W.setCell ⟨g + 2, 0, none⟩ x).setCell ⟨g + 3, 0, none⟩ y).heap[g + 3]? = some (.cells #[y] t' (0, 0)) /\
  (∀ k, k ≠ g + 2 -> k ≠ g + 3 -> ((W.setCell ⟨g + 2, 0, none⟩ x).setCell ⟨g + 3, 0, none⟩ y).heap[k]? = W.heap[k]?) /\ ((W.setCell ⟨g + 2, 0, none⟩ x).setCell ⟨g + 3, 0, none⟩ y).heap.size = W.heap.size /\ Below (g + 2) W ((W.setCell ⟨g + 2, 0, none⟩ x).setCell ⟨g + 3, 0, none⟩ y) := by
 refine ⟨?_, ?_, fun k k2 k3 => ?_, by simp [World.setCell], ((Below.refl _ W).setCell (p := ⟨g + 2, 0, none⟩) (Nat.le_refl _) x).setCell (p := ⟨g + 3, 0, none⟩) (by show g + 2 <= g + 3; omega) y⟩
 ·rw [Below.heap_setCell _ _ _ _ (by show g + 2 ≠ g + 3; omega)]
  exact qfp_ h2 x
 ·have e : (W.setCell ⟨g + 2, 0, none⟩ x).heap[g + 3]? = some (.cells #[b] t' (0, 0)) := (Below.heap_setCell _ _ _ _ (by show g + 3 ≠ g + 2; omega)).trans h3
  exact qfp_ e y
 ·rw [Below.heap_setCell _ _ _ _ (by show k ≠ g + 3; exact k3), Below.heap_setCell _ _ _ _ (by show k ≠ g + 2; exact k2)]
def FreshL (g : Nat) (A : Option Addr) : Prop := ∀ b o, A = some ⟨b, o, none⟩ -> g <= b
def StepOk (lo B : Nat) (w : World) (x : StepR) : Prop := Cel3 w B x.ra x.rn (x.L.map rngV) /\ x.rn <= x.rc /\ x.rc <= 9223372036854775807 /\ x.rn <= 1099511627776 /\ (∀ r ∈ x.L, R64 r) /\ (0 < x.rn -> FreshL lo x.ra)
def qby_ (s : Int) : List StepR -> Int -> Int × Int
 | [], a => (a, 0)
 | x :: r, a => if x.e ≠ 0 then (0, x.e) else match upOne x.L a s with
  | none => (0, 12)
  | some b => qby_ s r b
def ClI (g : Nat) (w : World) (s a : Int) (A : Option Addr) (n c : Nat) (pre : List StepR) (W : World) : Prop :=
 (∃ a', W.heap[g]? = some (.cells #[.int .u64 a'] 49 (0, 0)) /\ U64 a' /\ ∀ r, qby_ s (pre ++ r) a = qby_ s r a') /\ W.heap[g + 1]? = some (.cells #[.int .u64 s] 49 (0, 0)) /\ W.heap[g + 2]? = some (.cells #[.int .u64 0] 49 (0, 0)) /\ W.heap[g + 3]? = some (.cells #[.int .i64 0] 32 (0, 0)) /\ W.heap[g + 4]? = some (.cells #[.slice A n c] 239 (0, 0)) /\ Below g w W
def ClX (g : Nat) (w : World) (s a : Int) (pre : List StepR) (W : World) : Prop :=
 Below g w W /\ ∃ er : Int, (∀ r, qby_ s (pre ++ r) a = (0, er)) /\ W.heap[g + 2]? = some (.cells #[.int .u64 0] 49 (0, 0)) /\ W.heap[g + 3]? = some (.cells #[.int .i64 er] 32 (0, 0))
theorem ClI.keep {g : Nat} {w : World} {s a : Int} {A : Option Addr} {n c : Nat} {pre : List StepR} {W W' : World} (h : ClI g w s a A n c pre W) (hk : ∀ k, k < g + 5 -> W'.heap[k]? = W.heap[k]?) (hb : Below g W W') : ClI g w s a A n c pre W' := by
 obtain ⟨⟨a', h0, h64, hr⟩, h1, h2, h3, h4, h5⟩ := h
 exact ⟨⟨a', (hk _ (by omega)).trans h0, h64, hr⟩, (hk _ (by omega)).trans h1, (hk _ (by omega)).trans h2, (hk _ (by omega)).trans h3, (hk _ (by omega)).trans h4, h5.trans hb⟩
theorem ClI.size {g : Nat} {w : World} {s a : Int} {A : Option Addr} {n c : Nat} {pre : List StepR} {W : World} (h : ClI g w s a A n c pre W) : g + 5 <= W.heap.size := by
 have := (Array.getElem?_eq_some_iff.1 h.2.2.2.2.1).1
 omega
theorem qon_ {s a a' : Int} {pre : List StepR} {x : StepR} (h : ∀ r, qby_ s (pre ++ r) a = qby_ s r a') (he : x.e ≠ 0) (r : List StepR) : qby_ s ((pre ++ [x]) ++ r) a = (0, x.e) := by
 rw [List.append_assoc, h, List.singleton_append, qby_, if_pos he]
theorem qo3_ {s a a' : Int} {pre : List StepR} {x : StepR} (h : ∀ r, qby_ s (pre ++ r) a = qby_ s r a') (he : x.e = 0) (hu : upOne x.L a' s = none) (r : List StepR) : qby_ s ((pre ++ [x]) ++ r) a = (0, 12) := by
 rw [List.append_assoc, h, List.singleton_append, qby_, if_neg (by simp [he]), hu]
theorem qob_ {s a a' b : Int} {pre : List StepR} {x : StepR} (h : ∀ r, qby_ s (pre ++ r) a = qby_ s r a') (he : x.e = 0) (hu : upOne x.L a' s = some b) (r : List StepR) : qby_ s ((pre ++ [x]) ++ r) a = qby_ s r b := by
 rw [List.append_assoc, h, List.singleton_append, qby_, if_neg (by simp [he]), hu]
theorem climb_any (A : Option Addr) (n c lo : Nat) (xs : List StepR) (a s : Int) (w : World) (hl : xs.length = n) (hrow : SRow w w.heap.size A xs) (hok : ∀ x ∈ xs, StepOk lo w.heap.size w x) (hnc : n <= c) (hc : c <= 9223372036854775807) (hn : n <= 1099511627776) (ha : U64 a) (hs : U64 s) :
  Calls Tryz.prog 119 #[.slice A n c, .int .u64 a, .int .u64 s] w fun e w' => e = .returned (.tuple #[.int .u64 (qby_ s xs.reverse a).1, .int .i64 (qby_ s xs.reverse a).2]) /\ Below w.heap.size w w' := by
 have HS64 := Lib.hid hs
 have HA64 := Lib.hid ha
 have HOK := Lib.hid hok
 have HLN := Lib.hid hl
 have HBK := Lib.hid (fun W => backS_any A n c W)
 have HWK0 := Lib.hid (fun (k : Nat) (W : World) (hb : Below w.heap.size w W) (hk : k < W.heap.size) => qmb_ A c xs w.heap.size k W (hrow.keep (fun a h => hb.cell h)) hb.size hk (by rw [hl]; exact ⟨hnc, hc, by omega⟩))
 rw [hl] at HWK0
 obtain ⟨CV, hCV⟩ : ∃ CV, qby_ s xs.reverse a = CV := ⟨_, rfl⟩
 have HCV := Lib.hid hCV
 rw [hCV]
 obtain ⟨g, hg⟩ : ∃ g, w.heap.size = g := ⟨_, rfl⟩
 obtain ⟨W0, hW0⟩ : ∃ W0, ((((w.alloc (.cells #[.int .u64 a] 49)).alloc (.cells #[.int .u64 s] 49)).alloc (.cells #[.int .u64 0] 49)).alloc (.cells #[.int .i64 0] 32)) = W0 := ⟨_, rfl⟩
 obtain ⟨s4, s0, s1, s2, s3, sb⟩ := allocs4x w (.cells #[.int .u64 a] 49) (.cells #[.int .u64 s] 49) (.cells #[.int .u64 0] 49) (.cells #[.int .i64 0] 32)
 rw [hW0] at s4 s0 s1 s2 s3 sb
 rw [hg] at s4 s0 s1 s2 s3 sb HWK0 HOK ⊢
 obtain ⟨W1, hW1⟩ : ∃ W1, W0.alloc (.cells #[.slice A n c] 239) = W1 := ⟨_, rfl⟩
 have b01 : Below W0.heap.size W0 W1 := by rw [<- hW1]; exact (Below.refl _ _).alloc (Nat.le_refl _) _
 have n1 : W1.heap[g + 4]? = some (.cells #[.slice A n c] 239 (0, 0)) := by rw [<- hW1, <- s4]; exact heap_alloc_new _ _
 have z1 : W1.heap.size = g + 5 := by rw [<- hW1]; simp [s4]
 have bw1 : Below g w W1 := sb.trans (b01.mono (by omega))
 have HI0 : Hid (ClI g w s a A n c [] W1) :=
  Lib.hid ⟨⟨a, (b01.block _ (by omega)).trans s0, ha, fun r => rfl⟩, (b01.block _ (by omega)).trans s1, (b01.block _ (by omega)).trans s2, (b01.block _ (by omega)).trans s3, n1, bw1⟩
 have HWK := Lib.hid (HWK0.out (g + 4) W1 (by rw [<- hg] at bw1; rw [hg] at bw1; exact bw1) (by omega))
 have HB0 : Hid (Calls Tryz.prog 148 #[.slice A n c] W0 fun e w' => e = .returned (.func (.func 179) #[] #[.pointer (some ⟨g + 4, 0, none⟩)]) /\ w' = W1) := Lib.hid (by
  have h := HBK.out W0
  rwa [s4, hW1] at h)
 have HZ1 := Lib.hid z1
 clear hl hrow hok hnc hs HBK HWK0 hCV s0 s1 s2 s3 sb s4 hW1 b01 n1 z1 bw1 ha
 refine (callsIn_wide (n := 0)).1 ?_
 refine callsIn_of_wp_marks Tryz.func119 rfl trivial ?_ rfl
 simp only [Tryz.ntmps119, List.size_toArray, List.length_cons, List.length_nil, Nat.reduceAdd, Nat.reduceSub, Array.replicate_succ, Array.replicate_zero, List.push_toArray, List.append_toArray, List.nil_append, List.cons_append]
 gi_wp2_with (refine ⟨trivial, rfl, (callsIn_wide.2 HB0.out).mono ?_⟩; rintro e W4 ⟨rfl, hW4⟩)
 subst hW4
 clear HB0
 refine qa3_ (gf := 179) (lb := #[.pointer (some ⟨g + 4, 0, none⟩)]) rfl (enters_of Tryz.func179 (by kernel_rfl) rfl) HWK.out (Below.refl _ _) (by rw [HZ1.out]; omega) (fun Wx x args h => by obtain ⟨i, rfl⟩ := h; rfl) (g + 5) (by rw [HZ1.out]; exact Nat.le_refl _) (fun _ => False) (fun k h => h.elim)
  (fun M pre Wx => ClI g w s a A n c pre Wx) (fun c M pre Wx => c = .ret /\ ClX g w s a pre Wx)
  (fun T T' s A C hs hB hT ht hst => hs.keep (fun k hk => ht.same k (by have := hs.size; omega) (fun h => by have := (hT k h).1; omega)) ((ht.below hT hB).mono (by omega)))
  (fun c T T' s A C hs hB hT ht hst => by
   obtain ⟨rfl, hb, er, h1, h2, h3⟩ := hs
   have nt : ∀ k, k < g + 5 -> ¬ T k := fun k hk h => by have := (hT k h).1; omega
   exact ⟨rfl, hb.trans ((ht.below hT hB).mono (by omega)), er, h1, (ht.same _ (Array.getElem?_eq_some_iff.1 h2).1 (nt _ (by omega))).trans h2, (ht.same _ (Array.getElem?_eq_some_iff.1 h3).1 (nt _ (by omega))).trans h3⟩)
  (fun M s W1 h => h.2.2.2.2.1) HI0.out ?round ?done ?stop
 case round =>
  rintro l2 M pre x args Wr hM hu hsz hbn hix ⟨i, rfl⟩ hpre
  have hxm : x ∈ xs := by
   have := hpre.subset (show x ∈ pre ++ [x] by simp)
   simpa using this
  have HX := Lib.hid (HOK.out x hxm)
  have HIX := Lib.hid hix
  have HWS := Lib.hid hix.size
  have HU : Hid (∀ k, k < g + 5 -> ¬ M k) := Lib.hid (fun k hk h => by have := (hu k h).1; omega)
  have HUU := Lib.hid hu
  clear hxm hix hu hsz hbn hpre hM
  obtain ⟨ra, rn, rc, ex, L⟩ := x
  simp only [StepR.val, StepR.sv]
  obtain ⟨Wb, hWb⟩ : ∃ Wb, Wr.alloc (.cells #[.slice ra rn rc, .int .i64 ex] 273) = Wb := ⟨_, rfl⟩
  have hbb : Below Wr.heap.size Wr Wb := by rw [<- hWb]; exact (Below.refl _ _).alloc (Nat.le_refl _) _
  have HC : Hid (Wb.cell? ⟨Wr.heap.size, 0, none⟩ = some (.slice ra rn rc) /\ Wb.cell? ⟨Wr.heap.size, 1, none⟩ = some (.int .i64 ex)) := Lib.hid ⟨by rw [<- hWb]; exact World.cell?_alloc_new _ _ _ _, by rw [<- hWb]; exact World.cell?_alloc_new _ _ _ _⟩
  have HIB : Hid (ClI g w s a A n c pre Wb /\ Kp g M Wr Wb) := Lib.hid ⟨HIX.out.keep (fun k hk => hbb.block k (by have := HWS.out; omega)) (hbb.mono (by have := HWS.out; omega)), Kp.of_below hbb (by have := HWS.out; omega) HUU.out⟩
  obtain ⟨sb, hsb⟩ : ∃ sb, Wr.heap.size = sb := ⟨_, rfl⟩
  have HSB : Hid (g + 5 <= sb /\ Wb.heap.size = sb + 1) := Lib.hid ⟨by rw [<- hsb]; exact HWS.out, by rw [<- hWb, <- hsb]; simp⟩
  rw [hsb] at HC
  clear hbb HIX
  gi_wp2
  refine ⟨HIB.out.1, HIB.out.2, ?_⟩
  intro W3 hi3 ht3 hcl3 hfz3
  have d0 := (hcl3 _).trans HC.out.1
  have d1 := (hcl3 _).trans HC.out.2
  have HU3 := Lib.hid (ht3.ups (B := g + 5) (fun k hk => ⟨(HUU.out k hk).1, by have := (HUU.out k hk).2; have := HSB.out; omega⟩) (by have := HSB.out; omega))
  have HS3 : Hid (sb + 1 <= W3.heap.size) := Lib.hid (by have := ht3.size; have := HSB.out; omega)
  clear ht3 hcl3 hfz3 hWb hsb HC HIB
  have HI3 := Lib.hid hi3
  obtain ⟨⟨a', h0, h64, hr⟩, h1, h2, h3, h4, h5⟩ := hi3
  have HR := Lib.hid hr
  have H64 := Lib.hid h64
  have HSL := HS3.out
  have HSG := HSB.out.1
  by_cases he : ex = 0
  rotate_left
  ·have k1 : (ex != 0) = true := by rw [bne_iff_ne]; exact he
   have f2 := Lib.frozen_of_heap h2 0
   have f3 := Lib.frozen_of_heap h3 0
   obtain ⟨r2, r3, ro, rs', rb⟩ := qkf_ (W := W3.drew) (.int .u64 0) (.int .i64 ex) h2 h3
   have hx := qon_ (s := s) (a := a) (pre := pre) (x := ⟨ra, rn, rc, ex, L⟩) hr he
   have hk3 : Kp g M W3 ((W3.drew.setCell ⟨g + 2, 0, none⟩ (.int .u64 0)).setCell ⟨g + 3, 0, none⟩ (.int .i64 ex)) := ⟨(Below.refl g W3).drew.trans (rb.mono (by omega)), fun k hk => by
    have := (HU3.out k hk).1
    exact (ro k (by omega) (by omega))⟩
   have c2 : W3.drew.cell? ⟨g + 2, 0, none⟩ = some (.int .u64 0) := by rw [Lib.cell_of_heap (w := W3.drew) h2]; rfl
   have c3 : W3.cell? ⟨g + 1 + 1 + 1, 0, none⟩ = some (.int .i64 0) := by rw [Lib.cell_of_heap (w := W3) h3]; rfl
   have f3' : W3.frozen? ⟨g + 1 + 1 + 1, 0, none⟩ = false := f3
   have g2 : (W3.drew.setCell ⟨g + 2, 0, none⟩ (.int .u64 0)).cell? ⟨sb, 1, none⟩ = some (.int .i64 ex) := (World.cell?_of_block (Below.heap_setCell _ _ _ _ (by show sb ≠ g + 2; omega))).trans d1
   have g3 : ((W3.drew.setCell ⟨g + 2, 0, none⟩ (.int .u64 0)).setCell ⟨g + 3, 0, none⟩ (.int .i64 ex)).cell? ⟨sb, 1, none⟩ = some (.int .i64 ex) := (World.cell?_of_block (ro sb (by omega) (by omega))).trans d1
   have G2 := Lib.hid g2
   have G3 := Lib.hid g3
   have HE : Hid (Kp g M W3 ((W3.drew.setCell ⟨g + 2, 0, none⟩ (.int .u64 0)).setCell ⟨g + 3, 0, none⟩ (.int .i64 ex)) /\ ClX g w s a (pre ++ [⟨ra, rn, rc, ex, L⟩]) ((W3.drew.setCell ⟨g + 2, 0, none⟩ (.int .u64 0)).setCell ⟨g + 3, 0, none⟩ (.int .i64 ex))) := Lib.hid ⟨hk3, h5.trans hk3.below, ex, hx, r2, r3⟩
   clear h0 h1 h2 h3 h4 h5 hr h64 r2 r3 ro rs' rb hx hk3 he HX HI3 HSL f3 g2 g3
   gi_wp2_with fail
   refine qc2_ (S := fun W => W.cell? ⟨sb, 1, none⟩ = some (.int .i64 ex)) (by kernel_rfl) d1 (fun hHeld => ?_)
   refine tkI 0 hHeld fun _ => ?_
   refine tkI 1 hHeld fun _ => ?_
   refine qb1_ 2 (by kernel_rfl) rfl (by rfl) (fun K hK => ?_)
   refine ⟨fun _ _ => trivial, ?_⟩
   go_simp
   refine hK.out _ _ G2.out (fun hHeld => ?_)
   clear hK K
   refine qb1_ 3 (by kernel_rfl) rfl (by rfl) (fun K hK => ?_)
   refine ⟨fun _ _ => trivial, ?_⟩
   go_simp
   refine hK.out _ _ G3.out (fun hHeld => ?_)
   clear hK K
   refine qcg_ (by kernel_rfl) ?_ _
   clear hHeld
   gi_wp2
   exact ⟨HE.out.1, rfl, HE.out.2⟩
  have k1 : (ex != 0) = false := by rw [he]; rfl
  have d2 : W3.cell? ⟨g, 0, none⟩ = some (.int .u64 a') := by rw [Lib.cell_of_heap h0]; rfl
  have d3 : W3.cell? ⟨g + 1, 0, none⟩ = some (.int .u64 s) := by rw [Lib.cell_of_heap h1]; rfl
  have HCL := Lib.hid (ql0_ ra rn rc L a' s W3 ((HX.out.1.below h5).more (by show g <= W3.heap.size; omega)) HX.out.2.1 HX.out.2.2.1 HX.out.2.2.2.2.1 h64 HS64.out HX.out.2.2.2.1)
  rcases hup : upOne L a' s with _ | b
  ·rw [hup] at HCL
   have hx := qo3_ (s := s) (a := a) (pre := pre) (x := ⟨ra, rn, rc, ex, L⟩) hr he hup
   have CL2 : Hid (Calls Tryz.prog 149 #[.slice ra rn rc, .int .u64 a', .int .u64 s] W3 fun e W4 => e = .returned (.tuple #[.int .u64 0, .bool false]) /\ Hid (Below W3.heap.size W3 W4 /\ W4.heap[g + 2]? = some (.cells #[.int .u64 0] 49 (0, 0)) /\ W4.heap[g + 3]? = some (.cells #[.int .i64 0] 32 (0, 0))) /\ W4.cell? ⟨g + 2, 0, none⟩ = some (.int .u64 0) /\ W4.cell? ⟨g + 3, 0, none⟩ = some (.int .i64 0) /\ W4.frozen? ⟨g + 2, 0, none⟩ = false /\ W4.frozen? ⟨g + 3, 0, none⟩ = false) := Lib.hid (HCL.out.mono (by
    rintro e W4 ⟨rfl, hb4⟩
    have b2 := (hb4.block (g + 2) (by omega)).trans h2
    have b3 := (hb4.block (g + 3) (by omega)).trans h3
    exact ⟨rfl, ⟨hb4, b2, b3⟩, by rw [Lib.cell_of_heap b2]; rfl, by rw [Lib.cell_of_heap b3]; rfl, Lib.frozen_of_heap b2 0, Lib.frozen_of_heap b3 0⟩))
   have HXN := Lib.hid hx
   have H5 := Lib.hid h5
   have HSGG := Lib.hid HSG
   have HSLL := Lib.hid HSL
   clear h0 h1 h2 h3 h4 h5 hr h64 hx he HX HI3 HSL HSG HCL hup
   gi_wp2_with (refine ⟨trivial, rfl, (CallsIn.inRound l2 (callsIn_wide.2 CL2.out)).mono ?_⟩; clear CL2; rintro e W4 ⟨rfl, hb4, q2, q3, g2, g3⟩)
   obtain ⟨r2, r3, ro, rs', rb⟩ := qkf_ (.int .u64 0) (.int .i64 12) hb4.out.2.1 hb4.out.2.2
   have hss := HSLL.out
   have hgg := HSGG.out
   have hk3 : Kp g M W3 W4 := Kp.of_below hb4.out.1 (by omega) HU3.out
   have hk4 : Kp g M W4 ((W4.setCell ⟨g + 2, 0, none⟩ (.int .u64 0)).setCell ⟨g + 3, 0, none⟩ (.int .i64 12)) := ⟨rb.mono (by omega), fun k hk => by
    have := (HU3.out k hk).1
    exact ro k (by omega) (by omega)⟩
   exact ⟨hk3.trans hk4, rfl, (H5.out.trans hk3.below).trans hk4.below, 12, HXN.out, r2, r3⟩
  ·rw [hup] at HCL
   have hx : ∀ r, qby_ s ((pre ++ [⟨ra, rn, rc, ex, L⟩]) ++ r) a = qby_ s r b := qob_ (s := s) (a := a) (pre := pre) (x := ⟨ra, rn, rc, ex, L⟩) hr he hup
   have hb64 : U64 b := qnb_ HX.out.2.2.2.2.1 h64 hup
   have CL2 : Hid (Calls Tryz.prog 149 #[.slice ra rn rc, .int .u64 a', .int .u64 s] W3 fun e W4 => e = .returned (.tuple #[.int .u64 b, .bool true]) /\ Hid (Below W3.heap.size W3 W4 /\ W4.heap[g]? = some (.cells #[.int .u64 a'] 49 (0, 0))) /\ W4.cell? ⟨g, 0, none⟩ = some (.int .u64 a') /\ W4.frozen? ⟨g, 0, none⟩ = false) := Lib.hid (HCL.out.mono (by
    rintro e W4 ⟨rfl, hb4⟩
    have b2 := (hb4.block g (by omega)).trans h0
    exact ⟨rfl, ⟨hb4, b2⟩, by rw [Lib.cell_of_heap b2]; rfl, Lib.frozen_of_heap b2 0⟩))
   have HXN := Lib.hid (And.intro hx hb64)
   have HSGG := Lib.hid HSG
   have HSLL := Lib.hid HSL
   clear h0 h1 h2 h3 h4 h5 hr h64 hx he HX HSL HSG HCL hup hb64
   gi_wp2_with (refine ⟨trivial, rfl, (CallsIn.inRound l2 (callsIn_wide.2 CL2.out)).mono ?_⟩; clear CL2; rintro e W4 ⟨rfl, hb4, q2, g2⟩)
   have hss := HSLL.out
   have hgg := HSGG.out
   have hk3 : Kp g M W3 W4 := Kp.of_below hb4.out.1 (by omega) HU3.out
   have hk4 : Kp g M W4 (W4.setCell ⟨g, 0, none⟩ (.int .u64 b)) := ⟨(Below.refl g W4).setCell (p := ⟨g, 0, none⟩) (Nat.le_refl _) _, fun k hk => by
    have := (HU3.out k hk).1
    exact Below.heap_setCell _ _ _ _ (by show k ≠ g; omega)⟩
   have hkk := hk3.trans hk4
   have hbl : ∀ k, k < g + 5 -> k ≠ g -> (W4.setCell ⟨g, 0, none⟩ (.int .u64 b)).heap[k]? = W3.heap[k]? := fun k hk hne => (Below.heap_setCell _ _ _ _ (by show k ≠ g; exact hne)).trans (hb4.out.1.block k (by omega))
   obtain ⟨_, h1, h2, h3, h4, h5⟩ := HI3.out
   exact ⟨hkk, ⟨b, qfp_ hb4.out.2 _, HXN.out.2, HXN.out.1⟩, (hbl _ (by omega) (by omega)).trans h1, (hbl _ (by omega) (by omega)).trans h2, (hbl _ (by omega) (by omega)).trans h3, (hbl _ (by omega) (by omega)).trans h4, h5.trans hkk.below⟩
 case done =>
  rintro D M Wd hM hu hsz hD ⟨⟨a', h0, h64, hr⟩, h1, h2, h3, h4, h5⟩ hd
  have hDb := (hu D hD).1
  have d0 : Wd.cell? ⟨g, 0, none⟩ = some (.int .u64 a') := by rw [Lib.cell_of_heap h0]; rfl
  have c2 : Wd.cell? ⟨g + 2, 0, none⟩ = some (.int .u64 0) := by rw [Lib.cell_of_heap h2]; rfl
  have c3 : Wd.cell? ⟨g + 3, 0, none⟩ = some (.int .i64 0) := by rw [Lib.cell_of_heap h3]; rfl
  have f2 := Lib.frozen_of_heap h2 0
  have f3 := Lib.frozen_of_heap h3 0
  obtain ⟨r2, r3, ro, rs', rb⟩ := qkf_ (.int .u64 a') (.int .i64 0) h2 h3
  have hd2 := (ro D (by omega) (by omega)).trans hd
  have pt : ∀ k, k ≠ D -> (((Wd.setCell ⟨g + 2, 0, none⟩ (.int .u64 a')).setCell ⟨g + 3, 0, none⟩ (.int .i64 0)).putObj D (.deferred none)).heap[k]? = ((Wd.setCell ⟨g + 2, 0, none⟩ (.int .u64 a')).setCell ⟨g + 3, 0, none⟩ (.int .i64 0)).heap[k]? := fun k hk => World.putObj_heap_other hk
  have R2 := Lib.hid ((pt (g + 2) (by omega)).trans r2)
  have R3 := Lib.hid ((pt (g + 3) (by omega)).trans r3)
  have RB : Hid (Below g w (((Wd.setCell ⟨g + 2, 0, none⟩ (.int .u64 a')).setCell ⟨g + 3, 0, none⟩ (.int .i64 0)).putObj D (.deferred none))) := Lib.hid ((h5.trans (rb.mono (by omega))).trans ⟨rfl, rfl, rfl, by simp, fun k hk => pt k (by omega)⟩)
  have HNO : Hid (CV = (a', 0)) := Lib.hid (by
   have h := hr []
   rw [List.append_nil, HCV.out] at h
   exact h)
  have HD2 := Lib.hid hd2
  clear r2 r3 ro rs' rb hd2 pt h0 h1 h2 h3 h4 h5 hu hsz hM hd hDb hr h64
  gi_wp2
  refine ⟨by simp, .inl ⟨_, _, rfl, run_takeDeferred HD2.out, ?_⟩⟩
  have e2 : (((Wd.setCell ⟨g + 1 + 1, 0, none⟩ (.int .u64 a')).setCell ⟨g + 1 + 1 + 1, 0, none⟩ (.int .i64 0)).putObj D (.deferred none)).cell? ⟨g + 1 + 1, 0, none⟩ = some (.int .u64 a') := (Lib.cell_of_heap R2.out 0).trans rfl
  have e3 : (((Wd.setCell ⟨g + 1 + 1, 0, none⟩ (.int .u64 a')).setCell ⟨g + 1 + 1 + 1, 0, none⟩ (.int .i64 0)).putObj D (.deferred none)).cell? ⟨g + 1 + 1 + 1, 0, none⟩ = some (.int .i64 0) := (Lib.cell_of_heap R3.out 0).trans rfl
  refine ⟨.tuple #[.int .u64 a', .int .i64 0], by simp [results, Tryz.results119, go_sem, e2, e3], ?_⟩
  exact ⟨by rw [HNO.out], RB.out⟩
 case stop =>
  rintro D cc M pre Wd hM hu hsz hD hpre ⟨rfl, hb, er, h1, h2, h3⟩ hd
  have hDb := (hu D hD).1
  have pt : ∀ k, k ≠ D -> (Wd.putObj D (.deferred none)).heap[k]? = Wd.heap[k]? := fun k hk => World.putObj_heap_other hk
  have R2 := Lib.hid ((pt (g + 2) (by omega)).trans h2)
  have R3 := Lib.hid ((pt (g + 3) (by omega)).trans h3)
  have RB : Hid (Below g w (Wd.putObj D (.deferred none))) := Lib.hid (hb.trans ⟨rfl, rfl, rfl, by simp, fun k hk => pt k (by omega)⟩)
  have HNO : Hid (CV = (0, er)) := Lib.hid (by
   obtain ⟨r, hr⟩ := hpre
   rw [<- HCV.out, <- hr]
   exact h1 r)
  clear pt hb h1 h2 h3 hu hsz hM hDb hpre
  gi_wp2
  refine ⟨by simp, .inl ⟨_, _, rfl, run_takeDeferred hd, ?_⟩⟩
  have e2 : (Wd.putObj D (.deferred none)).cell? ⟨g + 1 + 1, 0, none⟩ = some (.int .u64 0) := (Lib.cell_of_heap R2.out 0).trans rfl
  have e3 : (Wd.putObj D (.deferred none)).cell? ⟨g + 1 + 1 + 1, 0, none⟩ = some (.int .i64 er) := (Lib.cell_of_heap R3.out 0).trans rfl
  refine ⟨.tuple #[.int .u64 0, .int .i64 er], by simp [results, Tryz.results119, go_sem, e2, e3], ?_⟩
  exact ⟨by rw [HNO.out], RB.out⟩
end
section
theorem qhf_ {parent n : Nd} : (qap_ parent n).2.2.length <= heftN n + 1 := by
 unfold qap_
 split
 ·exact Nat.zero_le _
 ·rename_i x hx
  split
  ·exact Nat.zero_le _
  ·split
   ·exact Nat.succ_le_succ (Nat.zero_le _)
   ·obtain ⟨k, hk, rfl⟩ := List.getElem_of_mem (List.mem_of_find?_eq_some hx)
    show (rngs _ _ _ _ _).length <= _
    rw [rngs, List.length_map, List.length_range]
    exact Nat.le_succ_of_le (Nat.le_trans (Nat.div_le_self _ _) (qc0_ hk))
def cut3 (A : Option Addr) (c l : Nat) : Option Addr := if c = l then A else A.map (·.add (l * 3))
section
variable {P : Program} {t e : TypeId} (ht : P.underlying t = some (.slice e)) (he : ∀ w, (Go.sizeOf e).run P w = .ok 3 w)
include ht he
theorem run_upto3 (A : Option Addr) (n c : Nat) (H : Int) (h : Nat) (hH : H = h) (hh : h <= c) (W : World) : (Instr.slice t (.slice A n c) none (some (.int .i64 H)) none).run P W = .ok (.slice A h c) W := by
 subst hH
 have ht' : P.underlying t = some (.slice (P.elem t)) := by simp [Program.elem, ht]
 have he' : P.elem t = e := by simp [Program.elem, ht]
 rw [run_slice_h W t _ _ _ ht' .i64 _ (by omega) (by omega), he', he]
 rcases A with _ | ⟨b, o, s⟩ <;> simp [Result.andThen, sliced, Addr.add]
theorem run_from3 (A : Option Addr) (n c : Nat) (L : Int) (l : Nat) (hL : L = l) (hl : l <= n) (W : World) : (Instr.slice t (.slice A n c) (some (.int .i64 L)) none none).run P W = .ok (.slice (cut3 A c l) (n - l) (c - l)) W := by
 subst hL
 have ht' : P.underlying t = some (.slice (P.elem t)) := by simp [Program.elem, ht]
 have he' : P.elem t = e := by simp [Program.elem, ht]
 rw [run_slice_l W t _ _ _ ht' .i64 _ (by omega) (by omega), he', he]
 simp [Result.andThen, sliced, cut3]
end
theorem qii_ (w : World) : (Go.sizeOf 27).run Tryz.prog w = .ok 3 w := by kernel_rfl
theorem info_step : (Tryz.prog.info? 273).map (fun i => (i.zero, i.size, i.bytes)) = some (some (.agg #[.slice none 0 0, .int .i64 0]), 2, 32) := by kernel_rfl
theorem StepOk.keep {lo B B' : Nat} {w w' : World} {x : StepR} (h : StepOk lo B w x) (hk : ∀ b o, 0 < x.rn -> x.ra = some ⟨b, o, none⟩ -> b < B -> w'.heap[b]? = w.heap[b]?) (hB : B <= B') : StepOk lo B' w' x := by
 obtain ⟨h1, h2⟩ := h
 refine ⟨⟨h1.1, fun h0 => ?_⟩, h2⟩
 obtain ⟨b, o, e, hb, hc⟩ := h1.2 h0
 have hs := fun (k : Nat) => World.cell?_of_block (a := ⟨b, k, none⟩) (hk b o h0 e hb)
 exact ⟨b, o, e, by omega, fun i hi => ⟨(hs _).trans (hc i hi).1, (hs _).trans (hc i hi).2.1, (hs _).trans (hc i hi).2.2⟩⟩
theorem srow_of {w : World} {B n : Nat} {A : Option Addr} {xs : List StepR} (h : Cel2 w B A n (xs.map StepR.two)) : SRow w B A xs := fun h0 => by
 obtain ⟨b, o, e, hb, hc⟩ := h.2 (by have := h.1; rw [List.length_map] at this; omega)
 refine ⟨b, o, e, hb, fun i hi => ?_⟩
 have := hc i (by rw [List.length_map]; exact hi)
 rw [List.getElem_map] at this
 exact this
def StepP (ns : List Nd) (j : Nat) (x : StepR) : Prop := ((qap_ (ns.getD j ndZ) (ns.getD (j + 1) ndZ)).2.1 = true -> x.e = 0 /\ x.L = (qap_ (ns.getD j ndZ) (ns.getD (j + 1) ndZ)).2.2) /\ ((qap_ (ns.getD j ndZ) (ns.getD (j + 1) ndZ)).2.1 = false -> x.e = 10)
def StepsI (lo : Nat) (ns : List Nd) (v : Value) (xs : List StepR) (W : World) : Prop :=
 W.ownsRow lo 273 2 v xs.length (flat2 (xs.map StepR.two)) /\ (∀ x ∈ xs, StepOk lo W.heap.size W x /\ (0 < x.rn -> ∀ b o, x.ra = some ⟨b, o, none⟩ -> v.ownBlock ≠ some b)) /\ ∀ j (h : j < xs.length), StepP ns j xs[j]
theorem qit_ {lo : Nat} {ns : List Nd} {v : Value} {xs : List StepR} {W W4 : World} (h : StepsI lo ns v xs W) (hlo : lo <= W.heap.size) (hb : Below W.heap.size W W4) (x : StepR) (hx : StepOk W.heap.size W4.heap.size W4 x) (hp : StepP ns xs.length x) (hlen : xs.length <= 1048576) :
  ∃ A' c' w5, (Builtin.append_ #[239, 239] 239 #[v, .slice (some ⟨W4.heap.size, 0, none⟩) 1 1]).run Tryz.prog (W4.alloc (.cells #[x.sv, .int .i64 x.e] 273)) = .ok (.slice A' (xs.length + 1) c') w5 /\ StepsI lo ns (.slice A' (xs.length + 1) c') (xs ++ [x]) w5 /\ Below lo W4 w5 := by
 obtain ⟨h1, h2, h3⟩ := h
 have hsz := hb.size
 have h1' := qez_ h1 hb
 obtain ⟨i0, hi, hz, hs1, hby⟩ := qaw_ info_step
 obtain ⟨A', c', w5, r5, o5, b5, g5, e5⟩ := qd6_ Tryz.underlying239 hi hz hs1 hby rfl h1' x.two rfl rfl (by omega) (by omega) (by omega) 239
 have hlt := h1.lt
 have hs5 := g5.size
 refine ⟨A', c', w5, r5, ⟨?_, ?_, ?_⟩, b5⟩
 ·rw [List.length_append, List.length_singleton, List.map_append, List.map_cons, List.map_nil]
  exact o5
 ·intro y hy
  have hown : ∀ b o, 0 < y.rn -> y.ra = some ⟨b, o, none⟩ -> b < W4.heap.size /\ v.ownBlock ≠ some b := by
   intro b o h0 he
   rcases List.mem_append.1 hy with hy | hy
   ·obtain ⟨hs, ho⟩ := h2 y hy
    obtain ⟨b', o', e', hb', _⟩ := hs.1.2 h0
    obtain ⟨rfl, rfl⟩ : b' = b /\ o' = o := by
     have := e'.symm.trans he
     simp only [Option.some.injEq, Addr.mk.injEq, and_true] at this
     exact this
    exact ⟨by omega, ho h0 _ _ he⟩
   ·rw [List.mem_singleton.1 hy] at h0 he
    obtain ⟨b', o', e', hb', _⟩ := hx.1.2 h0
    obtain ⟨rfl, rfl⟩ : b' = b /\ o' = o := by
     have := e'.symm.trans he
     simp only [Option.some.injEq, Addr.mk.injEq, and_true] at this
     exact this
    have hf := hx.2.2.2.2.2 h0 _ _ he
    exact ⟨hb', fun hv => by have := (hlt _ hv).2; omega⟩
  refine ⟨?_, fun h0 b o he hv => ?_⟩
  ·rcases List.mem_append.1 hy with hy' | hy'
   ·exact ((h2 y hy').1.keep (fun b o _ _ hbl => hb.block b hbl) hb.size).keep (fun b o h0 he hbl => g5.block b hbl (fun e => (hown b o h0 he).2 e.symm)) hs5
   ·obtain rfl := List.mem_singleton.1 hy'
    have hk := hx.keep (w' := w5) (fun b o h0 he hbl => g5.block b hbl (fun e => (hown b o h0 he).2 e.symm)) hs5
    exact ⟨hk.1, hk.2.1, hk.2.2.1, hk.2.2.2.1, hk.2.2.2.2.1, fun h0 b o he => Nat.le_trans hlo (hk.2.2.2.2.2 h0 b o he)⟩
  ·obtain ⟨hb1, hv1⟩ := hown b o h0 he
   rcases e5 with e | e
   ·rw [e] at hv; exact hv1 hv
   ·rw [e] at hv
    have := Option.some.inj hv
    omega
 ·intro j hj
  by_cases hjx : j < xs.length
  ·rw [List.getElem_append_left hjx]; exact h3 j hjx
  ·have : j = xs.length := by rw [List.length_append, List.length_singleton] at hj; omega
   subst this
   simpa using hp
theorem steps_any (A : Option Addr) (m c k : Nat) (ns : List Nd) (w : World) (hm : m = k + 1) (hs : Cel3 w w.heap.size A m (ns.map Nd.tri)) (hin : ∀ x ∈ ns, x.In w w.heap.size) (hh : ∀ x ∈ ns, heftN x <= 1073741824) (hmc : m <= c) (hc : c <= 9223372036854775807) (hk : k <= 1048576) :
  Calls Tryz.prog 118 #[.slice A m c] w fun e w' => (∃ A' c' xs, e = .returned (.slice A' k c') /\ xs.length = k /\ k <= c' /\ c' <= 9223372036854775807 /\ SRow w' w'.heap.size A' xs /\ FreshL w.heap.size A' /\ (∀ x ∈ xs, StepOk w.heap.size w'.heap.size w' x) /\ ∀ j (h : j < xs.length), StepP ns j xs[j]) /\ Below w.heap.size w w' := by
 have HS := Lib.hid hs
 have HLN : Hid (ns.length = m) := Lib.hid (by have := hs.1; rwa [List.length_map] at this)
 have HIN := Lib.hid hin
 have HH := Lib.hid hh
 obtain ⟨g, hg⟩ : ∃ g, w.heap.size = g := ⟨_, rfl⟩
 have HG := Lib.hid hg
 have R1 : ∀ W : World, (Instr.slice 25 (.slice A m c) (some (.int .i64 1)) none none).run Tryz.prog W = .ok (.slice (cut3 A c 1) (m - 1) (c - 1)) W := fun W => run_from3 Tryz.underlying25 qii_ A m c 1 1 rfl (by omega) W
 subst hm
 have hm1 : k + 1 - 1 = k := by omega
 rw [hm1] at R1
 obtain ⟨A1, hA1⟩ : ∃ A1, cut3 A c 1 = A1 := ⟨_, rfl⟩
 rw [hA1] at R1
 have HA1 := Lib.hid hA1
 clear hs hin hh hm1 hA1
 go_enter Tryz.func118, Tryz.ntmps118
 go_wp2_with fail
 go_loopw [3, 12] (fun l i wr => ∃ (j : Nat) (xs : List StepR), j <= k /\ i = .int .i64 j /\ xs.length = j /\ StepsI g ns l xs wr /\ Below g w wr) (fun _ i _ => k - (intOf i).toNat)
 case atStart => exact ⟨0, [], Nat.zero_le _, rfl, rfl, ⟨World.ownsRow_nil _ _ _ _, fun x hx => by (cases hx), fun j hj => absurd hj (Nat.not_lt_zero _)⟩, by rw [<- hg]; exact Below.refl _ _⟩
 case round =>
  obtain ⟨j, xs, hj, rfl, hxl, hsi, hb⟩ := hrel
  have HSI := Lib.hid hsi
  have HB := Lib.hid hb
  have HXL := Lib.hid hxl
  obtain ⟨Av, cv, e0, hcel, hcv1, hcv2, hob⟩ := qa0_ hsi.1
  rw [hxl] at e0
  subst e0
  by_cases hlt : j < k
  ·have hnl : j < ns.length := by rw [HLN.out]; omega
   have hnl1 : j + 1 < ns.length := by rw [HLN.out]; omega
   obtain ⟨b, o, e, hbl, hc3⟩ := (HS.out).2 (by omega)
   obtain rfl : A = _ := e
   obtain rfl : A1 = (if c = 1 then some ⟨b, o, none⟩ else some ⟨b, o + 3, none⟩) := by rw [<- HA1.out]; rfl
   rw [if_neg (by omega)]
   have p := hc3 j (by rw [List.length_map]; exact hnl)
   have q := hc3 (j + 1) (by rw [List.length_map]; exact hnl1)
   rw [List.getElem_map] at p q
   have hg1 : ns.getD j ndZ = ns[j] := by simp [List.getD, List.getElem?_eq_getElem hnl]
   have hg2 : ns.getD (j + 1) ndZ = ns[j + 1] := by simp [List.getD, List.getElem?_eq_getElem hnl1]
   have HXI := Lib.hid (HIN.out _ (List.getElem_mem hnl))
   have HYI := Lib.hid (HIN.out _ (List.getElem_mem hnl1))
   have HXH := Lib.hid (HH.out _ (List.getElem_mem hnl))
   have HYH := Lib.hid (HH.out _ (List.getElem_mem hnl1))
   have HSP : Hid (∀ x : StepR, ((qap_ ns[j] ns[j + 1]).2.1 = true -> x.e = 0 /\ x.L = (qap_ ns[j] ns[j + 1]).2.2) -> ((qap_ ns[j] ns[j + 1]).2.1 = false -> x.e = 10) -> StepP ns j x) := Lib.hid (fun x h1 h2 => by unfold StepP; rw [hg1, hg2]; exact ⟨h1, h2⟩)
   generalize ns[j] = X at *
   generalize ns[j + 1] = Y at *
   obtain ⟨p0, p1, p2⟩ := p
   obtain ⟨q0, q1, q2⟩ := q
   have ew : ∀ k, wr.cell? ⟨b, k, none⟩ = w.cell? ⟨b, k, none⟩ := fun k => hb.cell (p := ⟨b, k, none⟩) (by show b < g; omega)
   rw [<- ew] at p0 p1 p2 q0 q1 q2
   have CR := Lib.hid (fun W (hW : Below w.heap.size w W) => qe2_ X Y W ((HXI.out.under hW).more hW.size) ((HYI.out.under hW).more hW.size) HXH.out HYH.out)
   have hlr := Nat.le_trans (qhf_ (parent := X) (n := Y)) (Nat.succ_le_succ HYH.out)
   have h64 := qc9_ HXI.out HYI.out
   obtain ⟨o1, okr, L, hL⟩ : ∃ o1 okr L, qap_ X Y = (o1, okr, L) := ⟨_, _, _, rfl⟩
   rw [hL] at CR hlr h64 HSP
   have H64 := Lib.hid h64
   have HLR := Lib.hid hlr
   clear hL hlr h64 HXI HYI HXH HYH hnl hnl1 hg1 hg2 hc3 ew
   obtain ⟨xn, xpa, xpc, xps, xka, xkc, xks⟩ := X
   obtain ⟨yn, ypa, ypc, yps, yka, ykc, yks⟩ := Y
   replace p0 : wr.cell? ⟨b, o + j * 3, none⟩ = some (.string xn) := p0
   replace p1 : wr.cell? ⟨b, o + j * 3 + 1, none⟩ = some (.slice xpa xps.length xpc) := p1
   replace p2 : wr.cell? ⟨b, o + j * 3 + 2, none⟩ = some (.slice xka xks.length xkc) := p2
   have ej : o + (j + 1) * 3 = o + 3 + j * 3 := by omega
   rw [ej] at q0 q1 q2
   replace q0 : wr.cell? ⟨b, o + 3 + j * 3, none⟩ = some (.string yn) := q0
   replace q1 : wr.cell? ⟨b, o + 3 + j * 3 + 1, none⟩ = some (.slice ypa yps.length ypc) := q1
   replace q2 : wr.cell? ⟨b, o + 3 + j * 3 + 2, none⟩ = some (.slice yka yks.length ykc) := q2
   simp only [Nd.val, Nd.pv, Nd.kv, Nd.name, Nd.pa, Nd.pc, Nd.props, Nd.ka, Nd.kc, Nd.kids] at CR
   obtain ⟨V, hV⟩ : ∃ V, wr.alloc (.cells #[.string yn, .slice ypa yps.length ypc, .slice yka yks.length ykc] 27) = V := ⟨_, rfl⟩
   have bV : Below wr.heap.size wr V := by rw [<- hV]; exact (Below.refl _ _).alloc (Nat.le_refl _) _
   have r0 : V.cell? ⟨wr.heap.size, 0, none⟩ = some (.string yn) := by rw [<- hV]; exact World.cell?_alloc_new _ _ _ _
   have r1 : V.cell? ⟨wr.heap.size, 1, none⟩ = some (.slice ypa yps.length ypc) := by rw [<- hV]; exact World.cell?_alloc_new _ _ _ _
   have r2 : V.cell? ⟨wr.heap.size, 2, none⟩ = some (.slice yka yks.length ykc) := by rw [<- hV]; exact World.cell?_alloc_new _ _ _ _
   have hbw : b < wr.heap.size := by have := hb.size; omega
   have ko : ∀ {a : Addr} {v : Value}, a.block < wr.heap.size -> wr.cell? a = some v -> V.cell? a = some v := fun {a v} h h1 => (bV.cell (p := a) h).trans h1
   replace p0 := ko (a := ⟨b, o + j * 3, none⟩) hbw p0
   replace p1 := ko (a := ⟨b, o + j * 3 + 1, none⟩) hbw p1
   replace p2 := ko (a := ⟨b, o + j * 3 + 2, none⟩) hbw p2
   have HVD : Hid (Below wr.heap.size wr V.drew /\ V.heap.size = wr.heap.size + 1) := Lib.hid ⟨bV.drew, by rw [<- hV]; simp⟩
   have CL := Lib.hid (CR.out V.drew (by rw [HG.out]; exact hb.trans (bV.drew.mono (by have := hb.size; omega))))
   have HP := Lib.hid (fun (W : World) (h : Below V.heap.size V W) => And.intro (And.intro ((h.cell (p := ⟨b, o + j * 3, none⟩) (by have := bV.size; show b < _; omega)).trans p0) (And.intro ((h.cell (p := ⟨b, o + j * 3 + 1, none⟩) (by have := bV.size; show b < _; omega)).trans p1) ((h.cell (p := ⟨b, o + j * 3 + 2, none⟩) (by have := bV.size; show b < _; omega)).trans p2)))
    (And.intro ((h.cell (p := ⟨wr.heap.size, 0, none⟩) (by rw [<- hV]; simp)).trans r0) (And.intro ((h.cell (p := ⟨wr.heap.size, 1, none⟩) (by rw [<- hV]; simp)).trans r1) ((h.cell (p := ⟨wr.heap.size, 2, none⟩) (by rw [<- hV]; simp)).trans r2))))
   have HBZ : Hid (g <= wr.heap.size) := Lib.hid (by have := hb.size; omega)
   clear CR bV ko hb hsi hxl hcel hob hcv1 hcv2 p0 p1 p2 r0 r1 r2 hbw
   generalize xps.length = xpl at *
   generalize xks.length = xkl at *
   generalize yps.length = ypl at *
   generalize yks.length = ykl at *
   have hjk1 : j < k + 1 := by omega
   have hjk2 : (j : Int) < (k : Int) + 1 := by omega
   go_wp2_with fail
   refine wp_region_held_drew (S := fun W => (W.cell? ⟨b, o + j * 3, none⟩ = some (.string xn) /\ W.cell? ⟨b, o + j * 3 + 1, none⟩ = some (.slice xpa xpl xpc) /\ W.cell? ⟨b, o + j * 3 + 2, none⟩ = some (.slice xka xkl xkc)) /\ W.cell? ⟨wr.heap.size, 0, none⟩ = some (.string yn) /\ W.cell? ⟨wr.heap.size, 1, none⟩ = some (.slice ypa ypl ypc) /\ W.cell? ⟨wr.heap.size, 2, none⟩ = some (.slice yka ykl ykc)) (by kernel_rfl) (HP.out _ (Below.refl _ _).drew) (fun hHeld => ?_)
   clear hV
   refine tk 0 hHeld fun _ => ?_
   refine tk 1 hHeld fun _ => ?_
   refine tk 2 hHeld fun _ => ?_
   refine tk 3 hHeld fun _ => ?_
   refine tk 4 hHeld fun _ => ?_
   refine qab_ 5 (by kernel_rfl) rfl (by rfl) (fun K hK => ?_)
   go_simp
   refine CL.out.mono ?_
   rintro e w4 ⟨ho1, ho2, hb4⟩
   have HB4 : Hid (Below wr.heap.size wr w4) := Lib.hid (HVD.out.1.trans (hb4.mono (by have := HVD.out.2; show _ <= V.heap.size; omega)))
   have HK4 := Lib.hid (HP.out w4 ((Below.refl V.heap.size V).drew.trans hb4))
   clear hb4
   cases okr
   ·obtain ⟨A4, c4, rfl, hc4⟩ := ho2 rfl
    have hstep := qit_ HSI.out HBZ.out HB4.out ⟨A4, 0, c4, 10, []⟩ ⟨Cel3.nil _ _ _, Nat.zero_le _, hc4, Nat.zero_le _, fun r hr => (by cases hr), fun h => absurd h (Nat.lt_irrefl 0)⟩ (by rw [HXL.out]; exact HSP.out _ (fun h => by cases h) (fun _ => rfl)) (by rw [HXL.out]; omega)
    obtain ⟨A5, c5, w5, r5, hsi5, hb5⟩ := hstep
    rw [HXL.out] at r5
    replace r5 : (Builtin.append_ #[239, 239] 239 #[.slice Av j cv, .slice (some ⟨w4.heap.size, 0, none⟩) 1 1]).run Tryz.prog (w4.alloc (.cells #[.slice A4 0 c4, .int .i64 10] 273)) = .ok (.slice A5 (j + 1) c5) w5 := r5
    have HR5 := Lib.hid r5
    have HS5 := Lib.hid hsi5
    rw [HXL.out] at HS5
    have HB5 := Lib.hid (HB.out.trans ((HB4.out.mono HBZ.out).trans hb5))
    clear ho1 ho2 r5 hsi5 hb5
    dsimp only
    refine hK.out _ _ HK4.out (fun hHeld => ?_)
    clear hK K
    refine tk 6 hHeld fun _ => ?_
    refine tk 7 hHeld fun _ => ?_
    refine tk 8 hHeld fun _ => ?_
    refine tk 9 hHeld fun _ => ?_
    refine tk 10 hHeld fun _ => ?_
    refine tk 11 hHeld fun _ => ?_
    refine tk 12 hHeld fun _ => ?_
    refine wpAnyH_done (by kernel_rfl) ?_ _
    clear hHeld
    go_wp2_with (at_builtin; refine Lib.wpList_append_run_sl _ rfl _ _ _ rfl _ _ rfl rfl HR5.out ?_)
    go_roundw
    case rel => exact ⟨j + 1, xs ++ [⟨A4, 0, c4, 10, []⟩], by omega, by go_num, by (rw [List.length_append, HXL.out]; rfl), HS5.out, HB5.out⟩
    case measure => simp [intOf]; omega
   ·obtain ⟨A4, m4, c4, rfl, s4, l4, l4', f4⟩ := ho1 rfl
    have hl4 : L.length = m4 := by have := s4.1; rwa [List.length_map] at this
    have hstep := qit_ HSI.out HBZ.out HB4.out ⟨A4, m4, c4, 0, L⟩ ⟨s4, l4, l4', by show m4 <= _; rw [<- hl4]; have := HLR.out; omega, H64.out, fun _ b o h => Nat.le_trans (by have := HVD.out.2; show _ <= V.heap.size; omega) (f4 b o h)⟩ (by rw [HXL.out]; exact HSP.out _ (fun _ => ⟨rfl, rfl⟩) (fun h => by cases h)) (by rw [HXL.out]; omega)
    obtain ⟨A5, c5, w5, r5, hsi5, hb5⟩ := hstep
    rw [HXL.out] at r5
    replace r5 : (Builtin.append_ #[239, 239] 239 #[.slice Av j cv, .slice (some ⟨w4.heap.size, 0, none⟩) 1 1]).run Tryz.prog (w4.alloc (.cells #[.slice A4 m4 c4, .int .i64 0] 273)) = .ok (.slice A5 (j + 1) c5) w5 := r5
    have HR5 := Lib.hid r5
    have HS5 := Lib.hid hsi5
    rw [HXL.out] at HS5
    have HB5 := Lib.hid (HB.out.trans ((HB4.out.mono HBZ.out).trans hb5))
    clear ho1 ho2 r5 hsi5 hb5 s4 l4 l4' f4 hl4
    dsimp only
    refine hK.out _ _ HK4.out (fun hHeld => ?_)
    clear hK K
    refine tk 6 hHeld fun _ => ?_
    refine tk 7 hHeld fun _ => ?_
    refine tk 8 hHeld fun _ => ?_
    refine tk 9 hHeld fun _ => ?_
    refine tk 10 hHeld fun _ => ?_
    refine tk 11 hHeld fun _ => ?_
    refine tk 12 hHeld fun _ => ?_
    refine wpAnyH_done (by kernel_rfl) ?_ _
    clear hHeld
    go_wp2_with (at_builtin; refine Lib.wpList_append_run_sl _ rfl _ _ _ rfl _ _ rfl rfl HR5.out ?_)
    go_roundw
    case rel => exact ⟨j + 1, xs ++ [⟨A4, m4, c4, 0, L⟩], by omega, by go_num, by (rw [List.length_append, HXL.out]; rfl), HS5.out, HB5.out⟩
    case measure => simp [intOf]; omega
  ·obtain rfl : j = k := by omega
   have HR := Lib.hid (srow_of (hxl ▸ hcel))
   have HF : Hid (FreshL g Av) := Lib.hid (fun b o h => (hob b (by rw [h]; rfl)).1)
   have HCC : Hid (j <= cv /\ cv <= 9223372036854775807) := Lib.hid ⟨hxl ▸ hcv1, hcv2⟩
   clear hsi hb hxl hcel hcv1 hcv2 hob
   go_wp2
   go_ret
   rw [HG.out]
   exact ⟨⟨Av, cv, xs, rfl, HXL.out, HCC.out.1, HCC.out.2, HR.out, HF.out, fun x hx => (HSI.out.2.1 x hx).1, HSI.out.2.2⟩, HB.out⟩
end
theorem qll_ (R : Nd) (z : List Int) (n j : Nat) (h : j <= n) : (wayL R z n).getD j ndZ = (nodeZ R (z.take j)).getD ndZ := by
 have hl : j < (wayL R z n).length := by rw [qbx_]; omega
 rw [List.getD, List.getElem?_eq_getElem hl, Option.getD_some, qnc_]
theorem qnf_ (R : Nd) (z : List Int) (s : Int) (n : Nat) (xs : List StepR) (hl : xs.length = n) (hP : ∀ j (h : j < xs.length), StepP (wayL R z n) j xs[j]) : ∀ (k : Nat) (a : Int), k <= n ->
  (upV R z s k a = none -> ∃ er, qby_ s (xs.take k).reverse a = (0, er) /\ (er = 12 \/ er = 10)) /\ (∀ b, upV R z s k a = some b -> qby_ s (xs.take k).reverse a = (b, 0))
 | 0, a, _ => ⟨fun h => by (unfold upV at h; cases h), fun b h => by (unfold upV at h; rw [<- Option.some.inj h]; rfl)⟩
 | k + 1, a, hk => by
  have hkl : k < xs.length := by omega
  have e : (xs.take (k + 1)).reverse = xs[k] :: (xs.take k).reverse := by
   rw [List.take_add_one, List.getElem?_eq_getElem hkl, List.reverse_append]; rfl
  have hp := hP k hkl
  unfold StepP at hp
  rw [qll_ R z n k (by omega), qll_ R z n (k + 1) hk] at hp
  have ih := qnf_ R z s n xs hl hP k
  rw [e, upV, wayR]
  generalize xs[k] = x at *
  generalize qap_ ((nodeZ R (z.take k)).getD ndZ) ((nodeZ R (z.take (k + 1))).getD ndZ) = O at *
  obtain ⟨o1, ok, L⟩ := O
  simp only at hp ⊢
  cases ok
  ·have h10 := hp.2 rfl
   rw [if_pos rfl, qby_, if_pos (by rw [h10]; decide), h10]
   exact ⟨fun _ => ⟨10, rfl, .inr rfl⟩, fun b h => by (cases h)⟩
  ·obtain ⟨h0, hL⟩ := hp.1 rfl
   rw [if_neg (by simp), qby_, if_neg (by simp [h0]), hL]
   cases hu : upOne L a s with
   | none => exact ⟨fun _ => ⟨12, rfl, .inl rfl⟩, fun b h => by (cases h)⟩
   | some b => exact ih b (by omega)
theorem qhl_ {R : Nd} {z : List Int} {n : Nat} {y x : Nd} (hr : nodeZ R z = some y) (hx : x ∈ wayL R z n) : ∃ k, nodeZ R (z.take k) = some x := by
 obtain ⟨j, _, rfl⟩ := List.mem_map.1 hx
 obtain ⟨v, hv⟩ := qcv_ hr j
 exact ⟨j, by rw [hv]; rfl⟩
end Go.Proofs.YtcfinbapfhhpgaaGreatDoor
