/-
  Layer 8: the program's Find.
-/
import Derived.Test.YtihlpcbebpnmkaaGreatDoorRMost
namespace Go.Proofs.YtihlpcbebpnmkaaGreatDoor
open Go.RowKit
set_option linter.unusedVariables false
set_option linter.unusedSimpArgs false
attribute [local go_sem] Oper.semAt_some

theorem allocs4 (w : World) (o0 o1 o2 o3 : Obj) : ((((w.alloc o0).alloc o1).alloc o2).alloc o3).heap.size = w.heap.size + 4 ∧ ((((w.alloc o0).alloc o1).alloc o2).alloc o3).heap[w.heap.size]? = some o0 ∧ ((((w.alloc o0).alloc o1).alloc o2).alloc o3).heap[w.heap.size + 1]? = some o1 ∧ ((((w.alloc o0).alloc o1).alloc o2).alloc o3).heap[w.heap.size + 2]? = some o2 ∧
    ((((w.alloc o0).alloc o1).alloc o2).alloc o3).heap[w.heap.size + 3]? = some o3 ∧ Below w.heap.size w ((((w.alloc o0).alloc o1).alloc o2).alloc o3) := by
  obtain ⟨w1, h1⟩ : ∃ w1, w.alloc o0 = w1 := ⟨_, rfl⟩
  obtain ⟨w2, h2⟩ : ∃ w2, w1.alloc o1 = w2 := ⟨_, rfl⟩
  obtain ⟨w3, h3⟩ : ∃ w3, w2.alloc o2 = w3 := ⟨_, rfl⟩
  obtain ⟨w4, h4⟩ : ∃ w4, w3.alloc o3 = w4 := ⟨_, rfl⟩
  have z1 : w1.heap.size = w.heap.size + 1 := by rw [← h1]; simp
  have z2 : w2.heap.size = w.heap.size + 2 := by rw [← h2]; simp [z1]
  have z3 : w3.heap.size = w.heap.size + 3 := by rw [← h3]; simp [z2]
  have z4 : w4.heap.size = w.heap.size + 4 := by rw [← h4]; simp [z3]
  have b1 : Below w.heap.size w w1 := by rw [← h1]; exact (Below.refl _ _).alloc (Nat.le_refl _) _
  have b2 : Below w1.heap.size w1 w2 := by rw [← h2]; exact (Below.refl _ _).alloc (Nat.le_refl _) _
  have b3 : Below w2.heap.size w2 w3 := by rw [← h3]; exact (Below.refl _ _).alloc (Nat.le_refl _) _
  have b4 : Below w3.heap.size w3 w4 := by rw [← h4]; exact (Below.refl _ _).alloc (Nat.le_refl _) _
  have n1 : w1.heap[w.heap.size]? = some o0 := by rw [← h1]; exact heap_alloc_new _ _
  have n2 : w2.heap[w.heap.size + 1]? = some o1 := by rw [← z1, ← h2]; exact heap_alloc_new _ _
  have n3 : w3.heap[w.heap.size + 2]? = some o2 := by rw [← z2, ← h3]; exact heap_alloc_new _ _
  have n4 : w4.heap[w.heap.size + 3]? = some o3 := by rw [← z3, ← h4]; exact heap_alloc_new _ _
  rw [h1, h2, h3, h4]
  refine ⟨z4, ?_, ?_, ?_, n4, b1.trans ((b2.mono (by omega)).trans ((b3.mono (by omega)).trans (b4.mono (by omega))))⟩
  · rw [b4.block _ (by omega), b3.block _ (by omega), b2.block _ (by omega)]; exact n1
  · rw [b4.block _ (by omega), b3.block _ (by omega)]; exact n2
  · rw [b4.block _ (by omega)]; exact n3
/-- A slice shows a place in a block that is not one of M's. -/
def PlO (M : Nat → Prop) (w : World) (A : Option Addr) (p : List Nat) : Prop := 0 < p.length → ∃ b o, A = some ⟨b, o, none⟩ ∧ b < w.heap.size ∧ ¬ M b ∧ ∀ i, i < p.length → w.cell? ⟨b, o + i, none⟩ = (ints p)[i]?
theorem PlO.turn {M M' : Nat → Prop} {w w' : World} {A : Option Addr} {p : List Nat} (h : PlO M w A p) (ht : Turn M M' w w') : PlO M' w' A p := fun h0 => by
  obtain ⟨b, o, e, h1, h2, h3⟩ := h h0
  exact ⟨b, o, e, Nat.lt_of_lt_of_le h1 ht.size, fun h => (ht.fresh b h).elim h2 (fun h => by omega), fun i hi => (World.cell?_of_block (ht.same b h1 h2)).trans (h3 i hi)⟩
theorem PlO.cel {M : Nat → Prop} {w : World} {A : Option Addr} {p : List Nat} (h : PlO M w A p) : Cel w w.heap.size A p.length (ints p) := ⟨by simp, fun h0 => by
  obtain ⟨b, o, e, h1, h2, h3⟩ := h h0
  exact ⟨b, o, e, h1, h3⟩⟩

theorem heap_set1 {W : World} {b : Nat} {v : Value} {t : TypeId} (h : W.heap[b]? = some (.cells #[v] t (0, 0))) (x : Value) : (W.setCell ⟨b, 0, none⟩ x).heap[b]? = some (.cells #[x] t (0, 0)) := by simp [World.setCell, Array.getElem?_modify, h]
/-- Both results are written. -/
theorem two_set {W : World} {g : Nat} {a b : Value} (x y : Value) {t t' : TypeId} (h2 : W.heap[g + 2]? = some (.cells #[a] t (0, 0))) (h3 : W.heap[g + 3]? = some (.cells #[b] t' (0, 0))) :
    ((W.setCell ⟨g + 2, 0, none⟩ x).setCell ⟨g + 3, 0, none⟩ y).heap[g + 2]? = some (.cells #[x] t (0, 0)) ∧ ((W.setCell ⟨g + 2, 0, none⟩ x).setCell ⟨g + 3, 0, none⟩ y).heap[g + 3]? = some (.cells #[y] t' (0, 0)) ∧
    (∀ k, k ≠ g + 2 → k ≠ g + 3 → ((W.setCell ⟨g + 2, 0, none⟩ x).setCell ⟨g + 3, 0, none⟩ y).heap[k]? = W.heap[k]?) ∧ ((W.setCell ⟨g + 2, 0, none⟩ x).setCell ⟨g + 3, 0, none⟩ y).heap.size = W.heap.size ∧ Below (g + 2) W ((W.setCell ⟨g + 2, 0, none⟩ x).setCell ⟨g + 3, 0, none⟩ y) := by
  refine ⟨?_, ?_, fun k k2 k3 => ?_, by simp [World.setCell], ((Below.refl _ W).setCell (p := ⟨g + 2, 0, none⟩) (Nat.le_refl _) x).setCell (p := ⟨g + 3, 0, none⟩) (by show g + 2 ≤ g + 3; omega) y⟩
  · rw [Below.heap_setCell _ _ _ _ (by show g + 2 ≠ g + 3; omega)]
    exact heap_set1 h2 x
  · have e : (W.setCell ⟨g + 2, 0, none⟩ x).heap[g + 3]? = some (.cells #[b] t' (0, 0)) := (Below.heap_setCell _ _ _ _ (by show g + 3 ≠ g + 2; omega)).trans h3
    exact heap_set1 e y
  · rw [Below.heap_setCell _ _ _ _ (by show k ≠ g + 3; exact k3), Below.heap_setCell _ _ _ _ (by show k ≠ g + 2; exact k2)]

/-- None of these is the handle h. -/
def NoH (h : Int) (pre : List (Int × List Nat)) : Prop := ∀ x ∈ pre, x.1 ≠ h
/-- The place is in the results. -/
def FndH (g : Nat) (HO : Option (List Nat)) (M : Nat → Prop) (Wx : World) : Prop := ∃ p A cc, HO = some p ∧ Wx.heap[g + 2]? = some (.cells #[.slice A p.length cc] 39 (0, 0)) ∧ Wx.heap[g + 3]? = some (.cells #[.int .i64 0] 32 (0, 0)) ∧ p.length ≤ cc ∧ cc ≤ 9223372036854775807 ∧ PlO M Wx A p
theorem hand_mem {R : Nd} {hv : Int} {p : List Nat} (h : (hv, p) ∈ (placesN R []).filterMap (hOf R)) : p ∈ placesN R [] := by
  obtain ⟨q, hq, he⟩ := List.mem_filterMap.1 h
  have e : q = p := by
    unfold hOf at he
    split at he
    · split at he
      · exact (Prod.mk.inj (Option.some.inj he)).2
      · cases he
    · cases he
  rw [← e]; exact hq

set_option maxRecDepth 20000 in
set_option maxHeartbeats 8000000 in
theorem hfindOK : HFindOK := by
  intro t h w hin hh h0 h1
  have HCK := Lib.hid (fun (W : World) (hb : Below w.heap.size w W) => hcheck_any t W (hin.on hb) hh)
  have HNA := Lib.hid (handles_any t)
  have HNW := Lib.hid (fun (k : Nat) (W : World) (hb : Below w.heap.size w W) hk => handles_walks t w.heap.size k W (hin.under hb) hb.size hk hh)
  have HALL : Hid ((refsOf t.root).2 = 0 → (refsOf t.root).1 = (placesN t.root []).filterMap (hOf t.root)) := Lib.hid refs_all
  have HHO : Hid (handleOf t.root h = ((refsOf t.root).1.find? fun x => decide (x.1 = h)).map Prod.snd) := Lib.hid rfl
  have HPL : Hid (∀ q ∈ placesN t.root [], q.length ≤ 134217728) := Lib.hid (fun q hq => by have := (places_len t.root []).2 q hq; simp at this; omega)
  obtain ⟨R, hR⟩ : ∃ R, t.root = R := ⟨_, rfl⟩
  rw [hR] at HNW HCK HALL HHO HPL ⊢
  obtain ⟨HO, hHO⟩ : ∃ HO, handleOf R h = HO := ⟨_, rfl⟩
  rw [hHO] at HHO ⊢
  obtain ⟨RS, hRS⟩ : ∃ RS, refsOf R = RS := ⟨_, rfl⟩
  rw [hRS] at HCK HALL HHO ⊢
  clear hR hRS hHO hin hh
  obtain ⟨rl, er⟩ := RS
  simp only at HCK HALL HHO ⊢
  obtain ⟨boot, ra, rc, rs, ⟨nm, pa, pc, ps, ka, kc, ks⟩⟩ := t
  simp only [tbox, Tr.val, Tr.rv, Nd.val, Nd.pv, Nd.kv, Nd.name, Nd.pa, Nd.pc, Nd.props, Nd.ka, Nd.kc, Nd.kids] at HNA HNW HCK ⊢
  obtain ⟨g, hg⟩ : ∃ g, w.heap.size = g := ⟨_, rfl⟩
  obtain ⟨W0, hW0⟩ : ∃ W0, ((((w.alloc (.cells #[.int .u32 boot, .slice ra rs.length rc, .string nm, .slice pa ps.length pc, .slice ka ks.length kc] 29)).alloc (.cells #[.int .u32 h] 22)).alloc (.cells #[.slice none 0 0] 39)).alloc (.cells #[.int .i64 0] 32)) = W0 := ⟨_, rfl⟩
  obtain ⟨s4, s0, s1, s2, s3, sb⟩ := allocs4 w (.cells #[.int .u32 boot, .slice ra rs.length rc, .string nm, .slice pa ps.length pc, .slice ka ks.length kc] 29) (.cells #[.int .u32 h] 22) (.cells #[.slice none 0 0] 39) (.cells #[.int .i64 0] 32)
  rw [hW0] at s4 s0 s1 s2 s3 sb
  have HC := Lib.hid (HCK.out W0 sb)
  rw [hg] at s4 s0 s1 s2 s3 sb HNW
  have HG := Lib.hid hg
  have HS := Lib.hid (And.intro s4 (And.intro s0 (And.intro s1 (And.intro s2 (And.intro s3 sb)))))
  have HW0 := Lib.hid hW0
  rw [← hW0] at HC
  clear hW0 s4 s0 s1 s2 s3 sb HCK hg
  refine (callsIn_wide (n := 0)).1 ?_
  refine callsIn_of_wp_marks Tryz.func46 rfl trivial ?_ rfl
  simp only [Tryz.ntmps46, List.size_toArray, List.length_cons, List.length_nil, Nat.reduceAdd, Nat.reduceSub, Array.replicate_succ, Array.replicate_zero, List.push_toArray, List.append_toArray, List.nil_append, List.cons_append]
  gi_wp2_with fail
  refine ⟨trivial, rfl, (callsIn_wide.2 HC.out).mono ?_⟩
  rw [HW0.out]
  rintro e w1 ⟨rfl, hb1⟩
  rw [HG.out]
  obtain ⟨s4, s0, s1, s2, s3, sb⟩ := HS.out
  have hz1 : g + 4 ≤ w1.heap.size := by have := hb1.size; omega
  have y0 := (hb1.block g (by omega)).trans s0
  have y1 := (hb1.block (g + 1) (by omega)).trans s1
  have y2 := (hb1.block (g + 2) (by omega)).trans s2
  have y3 := (hb1.block (g + 3) (by omega)).trans s3
  have HY0 := Lib.hid y0
  have HY1 := Lib.hid y1
  have HY2 := Lib.hid y2
  have HY3 := Lib.hid y3
  have HB1 := Lib.hid (sb.trans (hb1.mono (by omega)))
  have HZ1 := Lib.hid hz1
  clear hb1 s4 s0 s1 s2 s3 sb hz1 HC HW0 HS
  by_cases her : er = 0
  · subst her
    have HL := Lib.hid (HALL.out rfl)
    have d0 : w1.cell? ⟨g, 0, none⟩ = some (.int .u32 boot) := by rw [Lib.cell_of_heap y0]; rfl
    have d1 : w1.cell? ⟨g, 1, none⟩ = some (.slice ra rs.length rc) := by rw [Lib.cell_of_heap y0]; rfl
    have d2 : w1.cell? ⟨g, 2, none⟩ = some (.string nm) := by rw [Lib.cell_of_heap y0]; rfl
    have d3 : w1.cell? ⟨g, 3, none⟩ = some (.slice pa ps.length pc) := by rw [Lib.cell_of_heap y0]; rfl
    have d4 : w1.cell? ⟨g, 4, none⟩ = some (.slice ka ks.length kc) := by rw [Lib.cell_of_heap y0]; rfl
    clear y0 y1 y2 y3
    gi_wp2_with (refine ⟨trivial, rfl, (callsIn_wide.2 (HNA.out _)).mono ?_⟩; rintro e W4 ⟨rfl, hW4⟩)
    clear hW4 HNA d0 d1 d2 d3 d4
    obtain ⟨lb, hlb⟩ : ∃ lb, w1.heap.size = lb := ⟨_, rfl⟩
    obtain ⟨W2, hW2⟩ : ∃ W2, w1.alloc (.cells #[.int .u32 boot, .slice ra rs.length rc, .string nm, .slice pa ps.length pc, .slice ka ks.length kc] 29) = W2 := ⟨_, rfl⟩
    have z2 : W2.heap.size = lb + 1 := by rw [← hW2]; simp [hlb]
    have b2 : Below lb w1 W2 := by rw [← hW2, ← hlb]; exact (Below.refl _ _).alloc (Nat.le_refl _) _
    have n2 : W2.heap[lb]? = some (.cells #[.int .u32 boot, .slice ra rs.length rc, .string nm, .slice pa ps.length pc, .slice ka ks.length kc] 29) := by rw [← hW2, ← hlb]; exact heap_alloc_new _ _
    rw [hW2]
    clear hW2
    rw [hlb] at HZ1 ⊢
    have hz1 := HZ1.out
    have hbw2 : Below g w W2 := HB1.out.trans (b2.mono (by omega))
    have HW := Lib.hid (HNW.out lb W2 hbw2 n2)
    have HZ2 := Lib.hid z2
    have HI0 : Hid (NoH h [] ∧ W2.heap[g + 1]? = some (.cells #[.int .u32 h] 22 (0, 0)) ∧ W2.heap[g + 2]? = some (.cells #[.slice none 0 0] 39 (0, 0)) ∧ W2.heap[g + 3]? = some (.cells #[.int .i64 0] 32 (0, 0)) ∧ Below g w W2) :=
      Lib.hid ⟨fun x hx => (by cases hx), (b2.block _ (by omega)).trans HY1.out, (b2.block _ (by omega)).trans HY2.out, (b2.block _ (by omega)).trans HY3.out, hbw2⟩
    clear z2 b2 n2 hbw2 hlb HNW hz1
    refine rangeFunc_iter (gf := 56) (lb := #[.pointer (some ⟨lb, 0, none⟩)]) rfl (enters_of Tryz.func56 (by kernel_rfl) rfl) HW.out (Below.refl _ _) (by have := HZ2.out; have := HZ1.out; omega) (fun Wx p args h => by obtain ⟨A, c, rfl, _⟩ := h; rfl) (lb + 1) (by have := HZ2.out; omega) (fun _ => False) (fun k h => h.elim)
      (fun M pre Wx => NoH h pre ∧ Wx.heap[g + 1]? = some (.cells #[.int .u32 h] 22 (0, 0)) ∧ Wx.heap[g + 2]? = some (.cells #[.slice none 0 0] 39 (0, 0)) ∧ Wx.heap[g + 3]? = some (.cells #[.int .i64 0] 32 (0, 0)) ∧ Below g w Wx)
      (fun c M pre Wx => c = .ret ∧ Below g w Wx ∧ FndH g HO M Wx)
      (fun T T' s A C hs hB hT ht hst => by
        have hz1 := HZ1.out
        have nt : ∀ k, k < lb → ¬ T k := fun k hk h => by have := (hT k h).1; omega
        exact ⟨hs.1, (ht.same _ (by omega) (nt _ (by omega))).trans hs.2.1, (ht.same _ (by omega) (nt _ (by omega))).trans hs.2.2.1, (ht.same _ (by omega) (nt _ (by omega))).trans hs.2.2.2.1, hs.2.2.2.2.trans ((ht.below hT hB).mono (by omega))⟩)
      (fun c T T' s A C hs hB hT ht hst => by
        have hz1 := HZ1.out
        have nt : ∀ k, k < lb → ¬ T k := fun k hk h => by have := (hT k h).1; omega
        obtain ⟨a1, a2, p, A, cc, a3, a4, a5, a6, a7, a8⟩ := hs
        exact ⟨a1, a2.trans ((ht.below hT hB).mono (by omega)), p, A, cc, a3, (ht.same _ (by omega) (nt _ (by omega))).trans a4, (ht.same _ (by omega) (nt _ (by omega))).trans a5, a6, a7, a8.turn ht⟩) HI0.out ?round ?done ?stop
    case round =>
      rintro l2 M pre ⟨hv, p⟩ args Wr hM hu hsz hbn hix ⟨A, c, rfl, hcel, hc1, hc2, hr1, hr2⟩ hpre
      have hplen : p.length ≤ 134217728 := HPL.out p (hand_mem (hv := hv) (hpre.subset (by simp)))
      have HFI : Hid (NoH h pre → hv = h → HO = some p) := Lib.hid (fun hall he => by
        obtain ⟨t, ht⟩ := hpre
        rw [HHO.out, HL.out, ← ht, List.append_assoc, List.find?_append, List.find?_eq_none.2 (fun x hx => by simpa using hall x hx)]
        simp [he])
      have HIX := Lib.hid hix
      have HPN : Hid (p.length ≤ 134217728) := Lib.hid hplen
      have HCEL := Lib.hid hcel
      have HC12 := Lib.hid (And.intro hc1 hc2)
      have HU := Lib.hid hu
      have HWS : Hid (lb + 1 ≤ Wr.heap.size) := Lib.hid (by have := HZ2.out; omega)
      clear hplen hix hcel hc1 hc2 hu hsz hbn hpre hM
      gi_wp2
      refine ⟨HIX.out, Kp.refl _ _ _, ?_⟩
      intro W3 a1 a2 a3 a4 a5 ht3 hcl3 hfz3
      have HU3 := Lib.hid (ht3.ups HU.out HWS.out)
      have HS3 : Hid (lb + 1 ≤ W3.heap.size) := Lib.hid (Nat.le_trans HWS.out ht3.size)
      have c1 : W3.cell? ⟨g + 1, 0, none⟩ = some (.int .u32 h) := by rw [Lib.cell_of_heap a2]; rfl
      by_cases he : hv = h
      · have HHE := Lib.hid (HFI.out a1 he)
        subst he
        have CL := Lib.hid (iclone_any A p.length c p W3 ((HCEL.out.keep (w' := W3) (fun a _ => hcl3 a)).more ht3.size) HC12.out.1 HC12.out.2 (by have := HPN.out; omega))
        have CL2 : Hid (Calls Tryz.prog 67 #[.slice A p.length c] W3 fun e W4 => ∃ Au cu, e = .returned (.slice Au p.length cu) ∧ Hid (Below W3.heap.size W3 W4) ∧ Hid (W4.heap[g + 2]? = some (.cells #[.slice none 0 0] 39 (0, 0)) ∧ W4.heap[g + 3]? = some (.cells #[.int .i64 0] 32 (0, 0))) ∧ Hid (p.length ≤ cu ∧ cu ≤ 9223372036854775807 ∧ (0 < p.length → ∃ b o, Au = some ⟨b, o, none⟩ ∧ g + 3 < b ∧ b < W4.heap.size ∧ ¬ M b ∧ ∀ i, i < p.length → W4.cell? ⟨b, o + i, none⟩ = (ints p)[i]?)) ∧ W4.cell? ⟨g + 2, 0, none⟩ = some (.slice none 0 0) ∧ W4.cell? ⟨g + 3, 0, none⟩ = some (.int .i64 0) ∧ W4.frozen? ⟨g + 2, 0, none⟩ = false ∧ W4.frozen? ⟨g + 3, 0, none⟩ = false) := Lib.hid (CL.out.mono (by
          rintro e W4 ⟨⟨u, rfl, hown⟩, hb4⟩
          obtain ⟨Au, cu, rfl, hcelu, hcu1, hcu2, hub⟩ := owned_cel hown
          have hz1 := HZ1.out
          have hs3 := HS3.out
          have b2 := (hb4.block (g + 2) (by omega)).trans a3
          have b3 := (hb4.block (g + 3) (by omega)).trans a4
          refine ⟨Au, cu, rfl, hb4, ⟨b2, b3⟩, ⟨hcu1, hcu2, fun h0 => ?_⟩, by rw [Lib.cell_of_heap b2]; rfl, by rw [Lib.cell_of_heap b3]; rfl, Lib.frozen_of_heap b2 0, Lib.frozen_of_heap b3 0⟩
          obtain ⟨b, o, e, hbl, hc⟩ := hcelu.2 h0
          subst e
          have hbb := hub b rfl
          exact ⟨b, o, rfl, by omega, hbl, fun hm => (by have := (HU3.out b hm).2; omega), hc⟩))
        have HA5 := Lib.hid a5
        clear a1 a2 a3 a4 a5 ht3 hcl3 hfz3 CL
        gi_wp2_with (refine ⟨trivial, rfl, (CallsIn.inRound l2 (callsIn_wide.2 CL2.out)).mono ?_⟩; clear CL2; rintro e W4 ⟨Au, cu, rfl, hb4, hh4, hpl, q2, q3, g2, g3⟩)
        obtain ⟨r2, r3, ro, rs', rb⟩ := two_set (.slice Au p.length cu) (.int .i64 0) hh4.out.1 hh4.out.2
        have hz1 := HZ1.out
        have hs3 := HS3.out
        have hk3 : Kp g M W3 W4 := Kp.of_below hb4.out (by omega) HU3.out
        have hk4 : Kp g M W4 ((W4.setCell ⟨g + 2, 0, none⟩ (.slice Au p.length cu)).setCell ⟨g + 3, 0, none⟩ (.int .i64 0)) := ⟨rb.mono (by omega), fun k hk => by
          have := (HU3.out k hk).1
          exact ro k (by omega) (by omega)⟩
        refine ⟨hk3.trans hk4, rfl, (HA5.out.trans hk3.below).trans hk4.below, p, Au, cu, HHE.out, r2, r3, hpl.out.1, hpl.out.2.1, fun h0 => ?_⟩
        obtain ⟨b, o, e, h1', h2', h3', h4'⟩ := hpl.out.2.2 h0
        exact ⟨b, o, e, by rw [rs']; exact h2', h3', fun i hi => (World.cell?_of_block (ro b (by omega) (by omega))).trans (h4' i hi)⟩
      · have k1 : (hv == h) = false := by rw [beq_eq_false_iff_ne]; exact he
        have HN : Hid (NoH h (pre ++ [(hv, p)])) := Lib.hid (fun x hx => by
          rcases List.mem_append.1 hx with hx | hx
          · exact a1 x hx
          · rw [List.mem_singleton.1 hx]; exact he)
        have HA2 := Lib.hid a2
        have HA3 := Lib.hid a3
        have HA4 := Lib.hid a4
        have HA5 := Lib.hid a5
        clear a1 a2 a3 a4 a5 ht3 hcl3 hfz3 he
        gi_wp2
        exact ⟨Kp.refl _ _ _, HN.out, HA2.out, HA3.out, HA4.out, HA5.out⟩
    case done =>
      rintro D M Wd hM hu hsz hD ⟨a1, a2, a3, a4, a5⟩ hd
      have hz1 := HZ1.out
      have hDb := (hu D hD).1
      have c2 : Wd.cell? ⟨g + 2, 0, none⟩ = some (.slice none 0 0) := by rw [Lib.cell_of_heap a3]; rfl
      have c3 : Wd.cell? ⟨g + 3, 0, none⟩ = some (.int .i64 0) := by rw [Lib.cell_of_heap a4]; rfl
      have f2 := Lib.frozen_of_heap a3 0
      have f3 := Lib.frozen_of_heap a4 0
      obtain ⟨r2, r3, ro, rs', rb⟩ := two_set (.slice none 0 0) (.int .i64 11) a3 a4
      have hd2 := (ro D (by omega) (by omega)).trans hd
      have pt : ∀ k, k ≠ D → (((Wd.setCell ⟨g + 2, 0, none⟩ (.slice none 0 0)).setCell ⟨g + 3, 0, none⟩ (.int .i64 11)).putObj D (.deferred none)).heap[k]? = ((Wd.setCell ⟨g + 2, 0, none⟩ (.slice none 0 0)).setCell ⟨g + 3, 0, none⟩ (.int .i64 11)).heap[k]? := fun k hk => World.putObj_heap_other hk
      have R2 := Lib.hid ((pt (g + 2) (by omega)).trans r2)
      have R3 := Lib.hid ((pt (g + 3) (by omega)).trans r3)
      have RB : Hid (Below g w (((Wd.setCell ⟨g + 2, 0, none⟩ (.slice none 0 0)).setCell ⟨g + 3, 0, none⟩ (.int .i64 11)).putObj D (.deferred none))) := Lib.hid ((a5.trans (rb.mono (by omega))).trans ⟨rfl, rfl, rfl, by simp, fun k hk => pt k (by omega)⟩)
      have HNO : Hid (HO = none) := Lib.hid (by
        rw [HHO.out, List.find?_eq_none.2 (fun x hx => by rw [HL.out] at hx; simpa using a1 x hx)]
        rfl)
      have HD2 := Lib.hid hd2
      clear r2 r3 ro rs' rb hd2 pt a1 a2 a3 a4 a5 hu hsz hM hd hDb hz1
      gi_wp2
      refine ⟨by simp, .inl ⟨_, _, rfl, run_takeDeferred HD2.out, ?_⟩⟩
      have e2 : (((Wd.setCell ⟨g + 1 + 1, 0, none⟩ (.slice none 0 0)).setCell ⟨g + 1 + 1 + 1, 0, none⟩ (.int .i64 11)).putObj D (.deferred none)).cell? ⟨g + 1 + 1, 0, none⟩ = some (.slice none 0 0) := (Lib.cell_of_heap R2.out 0).trans rfl
      have e3 : (((Wd.setCell ⟨g + 1 + 1, 0, none⟩ (.slice none 0 0)).setCell ⟨g + 1 + 1 + 1, 0, none⟩ (.int .i64 11)).putObj D (.deferred none)).cell? ⟨g + 1 + 1 + 1, 0, none⟩ = some (.int .i64 11) := (Lib.cell_of_heap R3.out 0).trans rfl
      refine ⟨.tuple #[.slice none 0 0, .int .i64 11], by simp [results, Tryz.results46, go_sem, e2, e3], ?_, ?_⟩
      · unfold FindV
        rw [if_neg (by simp), HNO.out]
        exact ⟨none, 0, rfl, by omega⟩
      · rw [HG.out]; exact RB.out
    case stop =>
      rintro D c M pre Wd hM hu hsz hD hpre ⟨rfl, a1, p, A, cc, a2, a3, a4, a5, a6, a7⟩ hd
      have hz1 := HZ1.out
      have hDb := (hu D hD).1
      have pt : ∀ k, k ≠ D → (Wd.putObj D (.deferred none)).heap[k]? = Wd.heap[k]? := fun k hk => World.putObj_heap_other hk
      have R2 := Lib.hid ((pt (g + 2) (by omega)).trans a3)
      have R3 := Lib.hid ((pt (g + 3) (by omega)).trans a4)
      have RB : Hid (Below g w (Wd.putObj D (.deferred none))) := Lib.hid (a1.trans ⟨rfl, rfl, rfl, by simp, fun k hk => pt k (by omega)⟩)
      have RC := Lib.hid (a7.turn (Turn.putObj Wd hD (.deferred none))).cel
      have HNO := Lib.hid a2
      have HCC := Lib.hid (And.intro a5 a6)
      clear pt a1 a2 a3 a4 a5 a6 a7 hu hsz hM hDb hz1 hpre
      gi_wp2
      refine ⟨by simp, .inl ⟨_, _, rfl, run_takeDeferred hd, ?_⟩⟩
      have e2 : (Wd.putObj D (.deferred none)).cell? ⟨g + 1 + 1, 0, none⟩ = some (.slice A p.length cc) := (Lib.cell_of_heap R2.out 0).trans rfl
      have e3 : (Wd.putObj D (.deferred none)).cell? ⟨g + 1 + 1 + 1, 0, none⟩ = some (.int .i64 0) := (Lib.cell_of_heap R3.out 0).trans rfl
      refine ⟨.tuple #[.slice A p.length cc, .int .i64 0], by simp [results, Tryz.results46, go_sem, e2, e3], ?_, ?_⟩
      · unfold FindV
        rw [if_neg (by simp), HNO.out]
        exact ⟨A, cc, rfl, RC.out, HCC.out.1, HCC.out.2⟩
      · rw [HG.out]; exact RB.out
  · have k1 : (er != 0) = true := by rw [bne_iff_ne]; exact her
    have c2 : w1.cell? ⟨g + 2, 0, none⟩ = some (.slice none 0 0) := by rw [Lib.cell_of_heap y2]; rfl
    have c3 : w1.cell? ⟨g + 3, 0, none⟩ = some (.int .i64 0) := by rw [Lib.cell_of_heap y3]; rfl
    have f2 := Lib.frozen_of_heap y2 0
    have f3 := Lib.frozen_of_heap y3 0
    have HER := Lib.hid her
    obtain ⟨r2, r3, _, _, rb⟩ := two_set (.slice none 0 0) (.int .i64 er) HY2.out HY3.out
    have R2 := Lib.hid r2
    have R3 := Lib.hid r3
    have RB := Lib.hid (HB1.out.trans (rb.mono (by omega)))
    clear y0 y1 y2 y3 her r2 r3 rb
    gi_wp2
    have e2 : ((w1.setCell ⟨g + 1 + 1, 0, none⟩ (.slice none 0 0)).setCell ⟨g + 1 + 1 + 1, 0, none⟩ (.int .i64 er)).cell? ⟨g + 1 + 1, 0, none⟩ = some (.slice none 0 0) := (Lib.cell_of_heap R2.out 0).trans rfl
    have e3 : ((w1.setCell ⟨g + 1 + 1, 0, none⟩ (.slice none 0 0)).setCell ⟨g + 1 + 1 + 1, 0, none⟩ (.int .i64 er)).cell? ⟨g + 1 + 1 + 1, 0, none⟩ = some (.int .i64 er) := (Lib.cell_of_heap R3.out 0).trans rfl
    refine ⟨.tuple #[.slice none 0 0, .int .i64 er], by simp [results, Tryz.results46, go_sem, e2, e3], ?_, ?_⟩
    · unfold FindV
      rw [if_pos HER.out]
      exact ⟨none, 0, rfl, by omega⟩
    · rw [HG.out]; exact RB.out
end Go.Proofs.YtihlpcbebpnmkaaGreatDoor
