/-
  Layer 8: the program's Most.
-/
import Derived.Test.YtapfcbcojnplaaaRIndex
namespace Go.Proofs.Ytapfcbcojnplaaa
open Go.RowKit
set_option linter.unusedVariables false
set_option linter.unusedSimpArgs false
attribute [local go_sem] Oper.semAt_some

theorem fold_max (l : List (Int × List Nat)) (m : Int) (h0 : 0 ≤ m ∧ m ≤ 4294967295) (h : ∀ x ∈ l, 0 ≤ x.1 ∧ x.1 ≤ 4294967295) : 0 ≤ l.foldl (fun m x => max m x.1) m ∧ l.foldl (fun m x => max m x.1) m ≤ 4294967295 := by
  induction l generalizing m with
  | nil => exact h0
  | cons x l ih =>
    rw [List.foldl_cons]
    have := h x (by simp)
    exact ih _ (by omega) (fun y hy => h y (by simp [hy]))

set_option maxRecDepth 20000 in
set_option maxHeartbeats 8000000 in
theorem mostOK : MostOK := by
  intro t w hin hh
  have hal : ∀ o, Below w.heap.size w (w.alloc o) := fun o => (Below.refl _ w).alloc (Nat.le_refl _) o
  have HC := Lib.hid (fun o => hcheck_any t (w.alloc o) (hin.on (hal o)) hh)
  have HNA := Lib.hid (handles_any t)
  have HNW := Lib.hid (fun (k : Nat) (W : World) (h : Below w.heap.size w W) hk => handles_walks t w.heap.size k W (hin.under h) h.size hk hh)
  have HIN := Lib.hid hin
  have HPN : Hid ((placesN t.root []).length ≤ 134217728) := Lib.hid (Nat.le_trans (places_len t.root []).1 hh)
  have HRN : Hid (∀ x ∈ (refsOf t.root).1, 0 ≤ x.1 ∧ x.1 ≤ 4294967295) := Lib.hid (refsOf_range hin.root)
  have HMO : Hid (mostOf t.root = (refsOf t.root).1.foldl (fun m x => max m x.1) 0) := Lib.hid rfl
  have HERR : Hid ((refsOf t.root).2 ≠ 0 → (refsOf t.root).1 = []) := Lib.hid refsOf_err
  have HALL : Hid ((refsOf t.root).2 = 0 → (refsOf t.root).1 = (placesN t.root []).filterMap (hOf t.root)) := Lib.hid refs_all
  have HPL : Hid (∀ q ∈ placesN t.root [], q.length ≤ 134217728) := Lib.hid (fun q hq => by have := (places_len t.root []).2 q hq; simp at this; omega)
  obtain ⟨R, hR⟩ : ∃ R, t.root = R := ⟨_, rfl⟩
  rw [hR] at HNW HC HERR HALL HPN HPL HRN HMO ⊢
  obtain ⟨MO, hMO⟩ : ∃ MO, mostOf R = MO := ⟨_, rfl⟩
  rw [hMO] at HMO ⊢
  clear hMO
  obtain ⟨RS, hRS⟩ : ∃ RS, refsOf R = RS := ⟨_, rfl⟩
  rw [hRS] at HC HERR HALL HRN HMO ⊢
  clear hR hRS hin hh
  obtain ⟨rl, er⟩ := RS
  simp only at HC HERR HALL HRN HMO ⊢
  obtain ⟨boot, ra, rc, rs, ⟨nm, pa, pc, ps, ka, kc, ks⟩⟩ := t
  simp only [tbox, Tr.val, Tr.rv, Nd.val, Nd.pv, Nd.kv, Nd.name, Nd.pa, Nd.pc, Nd.props, Nd.ka, Nd.kc, Nd.kids] at HNA HNW HC ⊢
  have HB0 := Lib.hid (hal (.cells #[.int .u32 boot, .slice ra rs.length rc, .string nm, .slice pa ps.length pc, .slice ka ks.length kc] 29))
  have HG0 := Lib.hid (heap_alloc_new w (.cells #[.int .u32 boot, .slice ra rs.length rc, .string nm, .slice pa ps.length pc, .slice ka ks.length kc] 29))
  have HS0 : Hid ((w.alloc (.cells #[.int .u32 boot, .slice ra rs.length rc, .string nm, .slice pa ps.length pc, .slice ka ks.length kc] 29)).heap.size = w.heap.size + 1) := Lib.hid (by simp)
  clear hal
  refine (callsIn_wide (n := 0)).1 ?_
  refine callsIn_of_wp_marks Try.func37 rfl trivial ?_ rfl
  simp only [Try.ntmps37, List.size_toArray, List.length_cons, List.length_nil, Nat.reduceAdd, Nat.reduceSub, Array.replicate_succ, Array.replicate_zero, List.push_toArray, List.append_toArray, List.nil_append, List.cons_append]
  gi_wp2_with fail
  refine ⟨trivial, rfl, (callsIn_wide.2 (HC.out _)).mono ?_⟩
  rintro e w1 ⟨rfl, hb1⟩
  have HB1 := Lib.hid (HB0.out.trans (hb1.mono (by have := HS0.out; omega)))
  have HG1 := Lib.hid ((hb1.block _ (by have := HS0.out; omega)).trans HG0.out)
  have HS1 : Hid (w.heap.size + 1 ≤ w1.heap.size) := Lib.hid (by have := HS0.out; have := hb1.size; omega)
  clear hb1
  by_cases her : er = 0
  · subst her
    have HL := Lib.hid (HALL.out rfl)
    obtain ⟨d0, d1, d2, d3, d4⟩ := tbox_cells HG1.out (.cells #[.int .u32 0] 22)
    gi_wp2_with (refine ⟨trivial, rfl, (callsIn_wide.2 (HNA.out _)).mono ?_⟩; rintro e W4 ⟨rfl, hW4⟩)
    clear hW4 HNA d0 d1 d2 d3 d4
    obtain ⟨lb, hlb⟩ : ∃ lb, w1.heap.size = lb := ⟨_, rfl⟩
    have HLB := Lib.hid hlb
    obtain ⟨W2, hW2⟩ : ∃ W2, (w1.alloc (.cells #[.int .u32 0] 22)).alloc (.cells #[.int .u32 boot, .slice ra rs.length rc, .string nm, .slice pa ps.length pc, .slice ka ks.length kc] 29) = W2 := ⟨_, rfl⟩
    have z2 : W2.heap.size = lb + 2 := by rw [← hW2]; simp [hlb]
    have b2 : Below lb w1 W2 := by rw [← hW2, ← hlb]; exact ((Below.refl _ _).alloc (Nat.le_refl _) _).alloc (by simp) _
    have n1 : W2.heap[lb]? = some (.cells #[.int .u32 0] 22 (0, 0)) := by rw [← hW2, Below.heap_alloc _ _ _ (by simp [hlb]), ← hlb]; exact heap_alloc_new _ _
    have n2 : W2.heap[lb + 1]? = some (.cells #[.int .u32 boot, .slice ra rs.length rc, .string nm, .slice pa ps.length pc, .slice ka ks.length kc] 29 (0, 0)) := by
      rw [← hW2, ← hlb]
      have := heap_alloc_new (w1.alloc (.cells #[.int .u32 0] 22)) (.cells #[.int .u32 boot, .slice ra rs.length rc, .string nm, .slice pa ps.length pc, .slice ka ks.length kc] 29)
      rwa [World.size_alloc] at this
    rw [hW2]
    clear hW2
    rw [hlb] at HS1 ⊢
    have hbw2 : Below w.heap.size w W2 := HB1.out.trans (b2.mono (by have := HS1.out; omega))
    have HW := Lib.hid (HNW.out (lb + 1) W2 hbw2 n2)
    have HZ2 := Lib.hid z2
    have HI0 : Hid (W2.heap[lb]? = some (.cells #[.int .u32 (([] : List (Int × List Nat)).foldl (fun m x => max m x.1) 0)] 22 (0, 0)) ∧ Below w.heap.size w W2) := Lib.hid ⟨n1, hbw2⟩
    clear z2 b2 n1 n2 hbw2 hlb HNW
    refine rangeFunc_iter (gf := 49) (lb := #[.pointer (some ⟨lb + 1, 0, none⟩)]) rfl (enters_of Try.func49 (by kernel_rfl) rfl) HW.out (Below.refl _ _) (by have := HZ2.out; have := HS1.out; omega) (fun Wx p args h => by obtain ⟨A, c, rfl, _⟩ := h; rfl) (lb + 2) (by have := HZ2.out; omega) (fun _ => False) (fun k h => h.elim)
      (fun M pre Wx => Wx.heap[lb]? = some (.cells #[.int .u32 (pre.foldl (fun m x => max m x.1) 0)] 22 (0, 0)) ∧ Below w.heap.size w Wx) (fun c M pre Wx => False)
      (fun T T' s A C hs hB hT ht hst => ⟨(ht.same _ (by omega) (fun h => by have := (hT lb h).1; omega)).trans hs.1, hs.2.trans ((ht.below hT hB).mono (by have := HS1.out; omega))⟩)
      (fun c T T' s A C hs hB hT ht hst => hs) HI0.out ?round ?done ?stop
    case round =>
      rintro l2 M pre ⟨hv, p⟩ args Wr hM hu hsz hbn ⟨hmb, hbw⟩ ⟨A, c, rfl, hcel, hc1, hc2, hr1, hr2⟩ hpre
      have HIX : Hid (Wr.heap[lb]? = some (.cells #[.int .u32 (pre.foldl (fun m x => max m x.1) 0)] 22 (0, 0)) ∧ Below w.heap.size w Wr) := Lib.hid ⟨hmb, hbw⟩
      have HNL : Hid (¬ M lb) := Lib.hid (fun h => by have := (hu lb h).1; omega)
      have HFL : Hid ((pre ++ [(hv, p)]).foldl (fun m x => max m x.1) 0 = max (pre.foldl (fun m x => max m x.1) 0) hv) := Lib.hid (by rw [List.foldl_append]; rfl)
      clear hmb hbw hcel hc1 hc2 hu hsz hbn hpre hM hr1 hr2
      gi_wp2
      refine ⟨HIX.out, Kp.refl _ _ _, ?_⟩
      rintro W3 ⟨hm3, hbw3⟩ ht3 hcl3 hfz3
      obtain ⟨m, hm⟩ : ∃ m, pre.foldl (fun m x => max m x.1) 0 = m := ⟨_, rfl⟩
      rw [hm] at hm3 HFL
      have c0 : W3.cell? ⟨lb, 0, none⟩ = some (.int .u32 m) := by rw [Lib.cell_of_heap hm3]; rfl
      have f0 := Lib.frozen_of_heap hm3 0
      have HM3 := Lib.hid hm3
      have HB3 := Lib.hid hbw3
      clear hm3 hbw3 ht3 hcl3 hfz3 hm
      gi_wp2
      exact ⟨Kp.setCell W3 (by have := HS1.out; omega) HNL.out 0 _, by rw [HFL.out]; simp [World.setCell, Array.getElem?_modify, HM3.out], HB3.out.setCell (p := ⟨lb, 0, none⟩) (by have := HS1.out; show w.heap.size ≤ lb; omega) _⟩
    case done =>
      rintro D M Wd hM hu hsz hD ⟨hmb, hbw⟩ hd
      have hDb := (hu D hD).1
      have c0 : Wd.cell? ⟨lb, 0, none⟩ = some (.int .u32 MO) := by rw [Lib.cell_of_heap hmb, HMO.out, HL.out]; rfl
      have HBF : Hid (Below w.heap.size w (Wd.putObj D (.deferred none))) := Lib.hid (hbw.trans ⟨rfl, rfl, rfl, by simp, fun k hk => World.putObj_heap_other (by have := HS1.out; omega)⟩)
      clear hmb hbw hu hsz hM
      gi_wp2
      refine ⟨by simp, .inl ⟨_, _, rfl, run_takeDeferred hd, ?_⟩⟩
      exact ⟨.tuple #[.int .u32 MO, .int .i64 0], by simp [results, Try.results37, go_sem], rfl, HBF.out⟩
    case stop =>
      rintro D c M pre Wd hM hu hsz hD hpre h hd
      exact h.elim
  · have k1 : (er != 0) = true := by rw [bne_iff_ne]; exact her
    have hrl := HERR.out her
    subst hrl
    have HM0 : Hid (MO = 0) := Lib.hid HMO.out
    clear her
    gi_wp2
    exact ⟨.tuple #[.int .u32 0, .int .i64 er], by simp [results, Try.results37, go_sem], by rw [HM0.out], HB1.out⟩
end Go.Proofs.Ytapfcbcojnplaaa
