/-
  Layer 14: the program's next.
-/
import Derived.Test.YtapfcbcojnplaaaIFind
import Derived.Test.YtapfcbcojnplaaaIChunk
import Derived.Test.YtapfcbcojnplaaaBase4
namespace Go.Proofs.Ytapfcbcojnplaaa
open Go.RowKit
set_option linter.unusedVariables false
set_option linter.unusedSimpArgs false
attribute [local go_sem] Oper.semAt_some

/-- What next and through answer: a line at a spot, or an error. -/
def NOut (w' : World) (R : Nd) (D : Nat → Prop) (e : Ending) : Prop := ∃ p ln er, e = .returned (.tuple #[.agg #[.pointer p, .int .u32 ln], .int .i64 er]) ∧ (er = 0 → (0 ≤ ln ∧ ln ≤ 4294967295) ∧ ∃ b z x, p = some ⟨b, 0, none⟩ ∧ Spot w' R D b z x)
theorem allocs4 (w : World) (o0 o1 o2 o3 : Obj) : ((((w.alloc o0).alloc o1).alloc o2).alloc o3).heap.size = w.heap.size + 4 ∧ ((((w.alloc o0).alloc o1).alloc o2).alloc o3).heap[w.heap.size]? = some o0 ∧ ((((w.alloc o0).alloc o1).alloc o2).alloc o3).heap[w.heap.size + 1]? = some o1 ∧ ((((w.alloc o0).alloc o1).alloc o2).alloc o3).heap[w.heap.size + 2]? = some o2 ∧
    ((((w.alloc o0).alloc o1).alloc o2).alloc o3).heap[w.heap.size + 3]? = some o3 ∧ Below w.heap.size w ((((w.alloc o0).alloc o1).alloc o2).alloc o3) := by
  obtain ⟨w1, h1⟩ : ∃ w1, w.alloc o0 = w1 := ⟨_, rfl⟩
  obtain ⟨w2, h2⟩ : ∃ w2, w1.alloc o1 = w2 := ⟨_, rfl⟩
  obtain ⟨w3, h3⟩ : ∃ w3, w2.alloc o2 = w3 := ⟨_, rfl⟩
  obtain ⟨w4, h4⟩ : ∃ w4, w3.alloc o3 = w4 := ⟨_, rfl⟩
  have z1 : w1.heap.size = w.heap.size + 1 := by rw [← h1]; simp
  have z2 : w2.heap.size = w.heap.size + 2 := by rw [← h2]; simp [z1]
  have z3 : w3.heap.size = w.heap.size + 3 := by rw [← h3]; simp [z2]
  have z4 : w4.heap.size = w.heap.size + 4 := by rw [← h4]; simp [z3]
  have b1 : Below w.heap.size w w1 := by rw [← h1]; exact (Below.refl _ _).alloc (Nat.le_refl _) _
  have b2 : Below w1.heap.size w1 w2 := by rw [← h2]; exact (Below.refl _ _).alloc (Nat.le_refl _) _
  have b3 : Below w2.heap.size w2 w3 := by rw [← h3]; exact (Below.refl _ _).alloc (Nat.le_refl _) _
  have b4 : Below w3.heap.size w3 w4 := by rw [← h4]; exact (Below.refl _ _).alloc (Nat.le_refl _) _
  have g0 : w1.heap[w.heap.size]? = some o0 := by rw [← h1]; exact World.alloc_heap_new _ _
  have g1 : w2.heap[w1.heap.size]? = some o1 := by rw [← h2]; exact World.alloc_heap_new _ _
  have g2 : w3.heap[w2.heap.size]? = some o2 := by rw [← h3]; exact World.alloc_heap_new _ _
  have g3 : w4.heap[w3.heap.size]? = some o3 := by rw [← h4]; exact World.alloc_heap_new _ _
  rw [z1] at g1
  rw [z2] at g2
  rw [z3] at g3
  rw [h1, h2, h3, h4]
  refine ⟨z4, ?_, ?_, ?_, g3, ?_⟩
  · exact (b4.block _ (by omega)).trans ((b3.block _ (by omega)).trans ((b2.block _ (by omega)).trans g0))
  · exact (b4.block _ (by omega)).trans ((b3.block _ (by omega)).trans g1)
  · exact (b4.block _ (by omega)).trans g2
  · exact b1.trans ((b2.mono (by omega)).trans ((b3.mono (by omega)).trans (b4.mono (by omega))))
theorem one_cell14 {w : World} {b : Nat} {v : Value} {T : TypeId} (h : w.heap[b]? = some (.cells #[v] T (0, 0))) : w.cell? ⟨b, 0, none⟩ = some v := by rw [Lib.cell_of_heap h]; rfl
def imapName : ByteArray := ⟨#[105, 110, 116, 101, 114, 114, 117, 112, 116, 45, 109, 97, 112]⟩
def imaskName : ByteArray := ⟨#[105, 110, 116, 101, 114, 114, 117, 112, 116, 45, 109, 97, 112, 45, 109, 97, 115, 107]⟩
/-- The four boxes of next, as they came. -/
def NBox (g b r : Nat) (ln : Int) (W : World) : Prop := W.heap[g]? = some (.cells #[.pointer (some ⟨r, 0, none⟩)] 72 (0, 0)) ∧ W.heap[g + 1]? = some (.cells #[.pointer (some ⟨b, 0, none⟩), .int .u32 ln] 54 (0, 0)) ∧ W.heap[g + 2]? = some (.cells #[.pointer none, .int .u32 0] 54 (0, 0)) ∧ W.heap[g + 3]? = some (.cells #[.int .i64 0] 35 (0, 0))
theorem NBox.on {g b r : Nat} {ln : Int} {W W' : World} (h : NBox g b r ln W) (k : Below (g + 4) W W') : NBox g b r ln W' := ⟨(k.block _ (by omega)).trans h.1, (k.block _ (by omega)).trans h.2.1, (k.block _ (by omega)).trans h.2.2.1, (k.block _ (by omega)).trans h.2.2.2⟩
/-- The result's boxes, written. -/
theorem nres_heap {W : World} {g : Nat} {v0 v1 v2 : Value} {T U : TypeId} (h2 : W.heap[g + 2]? = some (.cells #[v0, v1] T (0, 0))) (h3 : W.heap[g + 3]? = some (.cells #[v2] U (0, 0))) (u0 u1 u2 : Value) :
    (((W.setCell ⟨g + 2, 0, none⟩ u0).setCell ⟨g + 2, 1, none⟩ u1).setCell ⟨g + 3, 0, none⟩ u2).heap[g + 2]? = some (.cells #[u0, u1] T (0, 0)) ∧ (((W.setCell ⟨g + 2, 0, none⟩ u0).setCell ⟨g + 2, 1, none⟩ u1).setCell ⟨g + 3, 0, none⟩ u2).heap[g + 3]? = some (.cells #[u2] U (0, 0)) ∧
    (∀ k, k ≠ g + 2 → k ≠ g + 3 → (((W.setCell ⟨g + 2, 0, none⟩ u0).setCell ⟨g + 2, 1, none⟩ u1).setCell ⟨g + 3, 0, none⟩ u2).heap[k]? = W.heap[k]?) ∧ (((W.setCell ⟨g + 2, 0, none⟩ u0).setCell ⟨g + 2, 1, none⟩ u1).setCell ⟨g + 3, 0, none⟩ u2).heap.size = W.heap.size ∧
    Below (g + 2) W (((W.setCell ⟨g + 2, 0, none⟩ u0).setCell ⟨g + 2, 1, none⟩ u1).setCell ⟨g + 3, 0, none⟩ u2) := by
  refine ⟨?_, ?_, ?_, by simp [World.setCell], ((Below.refl _ _).setCell (p := ⟨g + 2, 0, none⟩) (Nat.le_refl _) _ |>.setCell (p := ⟨g + 2, 1, none⟩) (Nat.le_refl _) _).setCell (p := ⟨g + 3, 0, none⟩) (by show g + 2 ≤ g + 3; omega) _⟩
  · rw [Below.heap_setCell _ _ _ _ (by show g + 2 ≠ g + 3; omega)]
    exact set2_heap h2 u0 u1
  · have e : ((W.setCell ⟨g + 2, 0, none⟩ u0).setCell ⟨g + 2, 1, none⟩ u1).heap[g + 3]? = some (.cells #[v2] U (0, 0)) := (set2_other W (by omega) u0 u1).trans h3
    simp [World.setCell, Array.getElem?_modify] at e ⊢
    simp [e]
  · intro k hk2 hk3
    rw [Below.heap_setCell _ _ _ _ (by show k ≠ g + 3; omega)]
    exact set2_other W hk2 u0 u1

theorem rbox_u32 {w : World} {r : Nat} {t : Tr} {own : Option Nat} {er : Int} (h : w.heap[r]? = some (rbox t own er)) (k : Nat) (v : Int) : w.cell? ⟨r, k + 1, none⟩ ≠ some (.int .u32 v) := by
  unfold rbox Tr.rv Nd.pv Nd.kv at h
  rw [Lib.cell_of_heap h]
  rcases k with _ | _ | _ | _ | _ | _ | k <;> simp
/-- How a round may be left: the result's boxes are written. -/
def NFin (t : Tr) (B r g : Nat) (D : Nat → Prop) (w : World) (Mk : Nat → Prop) (W : World) : Prop := ∃ (p : Option Addr) (ln er : Int), W.heap[g + 2]? = some (.cells #[.pointer p, .int .u32 ln] 54 (0, 0)) ∧ W.heap[g + 3]? = some (.cells #[.int .i64 er] 35 (0, 0)) ∧
  (er = 0 → (0 ≤ ln ∧ ln ≤ 4294967295) ∧ ∃ b z x, p = some ⟨b, 0, none⟩ ∧ Spot W t.root (fun k => (D k ∨ g ≤ k) ∧ ¬ Mk k) b z x) ∧ Rd W B r t (fun k => (D k ∨ g ≤ k) ∧ ¬ Mk k) ∧ Tn B r w W
theorem NFin.turn {t : Tr} {B r g gm : Nat} {D : Nat → Prop} {w W W' : World} {T T' : Nat → Prop} (h : NFin t B r g D w T W) (ht : Turn T T' W W') (hT : Ups gm T W) (hB : gm ≤ W.heap.size) (hr : r < gm) (hgm : g + 4 ≤ gm) (hBg : B ≤ g) (hw : w.heap.size ≤ gm) : NFin t B r g D w T' W' := by
  obtain ⟨p, ln, er, h1, h2, h3, h4, h5⟩ := h
  have nt : ∀ k, k < gm → ¬ T k := fun k hk h => by have := (hT k h).1; omega
  have st : ∀ k, k < gm → W'.heap[k]? = W.heap[k]? := fun k hk => ht.same k (Nat.lt_of_lt_of_le hk hB) (nt k hk)
  have hs : ∀ j, ((D j ∨ g ≤ j) ∧ ¬ T j) → j < W.heap.size → (D j ∨ g ≤ j) ∧ ¬ T' j := fun j hj hl => ⟨hj.1, fun h => (ht.fresh j h).elim hj.2 (fun h => by omega)⟩
  have hk : ∀ j, ((D j ∨ g ≤ j) ∧ ¬ T j) → j < W.heap.size → W'.heap[j]? = W.heap[j]? := fun j hj hl => ht.same j hl hj.2
  refine ⟨p, ln, er, (st _ (by omega)).trans h1, (st _ (by omega)).trans h2, fun he => ?_, h4.keep hs (fun j hj hl => hj.elim (fun e => by rw [e]; exact st r hr) (fun hj => hk j hj hl)), ⟨h5.below.trans ((ht.below hT hB).mono (by omega)), fun k hk' hkr => (st k (by omega)).trans (h5.same k hk' hkr)⟩⟩
  · obtain ⟨q1, b, z, x, q2, q3⟩ := h3 he
    exact ⟨q1, b, z, x, q2, (q3.sub (D' := fun j => ((D j ∨ g ≤ j) ∧ ¬ T j) ∧ ((D j ∨ g ≤ j) ∧ ¬ T' j)) (fun j hj hl => ⟨hj, hs j hj hl⟩)).keep (fun j hj hl => hk j hj.1 hl) |>.sub (fun j hj _ => hj.2)⟩
theorem fin_rd {t : Tr} {B r g : Nat} {D : Nat → Prop} {w W : World} (hr : Rd w B r t D) (hg : w.heap.size = g) (hB : B ≤ g) (hb : Below g w W) : Rd W B r t (fun k => D k ∨ g ≤ k) ∧ Tn B r w W := by
  subst hg
  exact ⟨hr.keep (fun j h _ => .inl h) (fun j _ hl => hb.block j hl), Tn.of_below hb hB⟩
set_option maxRecDepth 20000 in
set_option maxHeartbeats 8000000 in
theorem next_any (t : Tr) (B r : Nat) (D : Nat → Prop) (b : Nat) (z : List Nat) (x : Nd) (ln : Int) (w : World) (hr : Rd w B r t D) (hB : B ≤ w.heap.size) (hin : t.In w B) (hh : heftN t.root ≤ 134217728) (hs : Spot w t.root (fun _ => True) b z x) (h0 : 0 ≤ ln ∧ ln ≤ 4294967295) :
    Calls Try.prog 26 #[.pointer (some ⟨r, 0, none⟩), .agg #[.pointer (some ⟨b, 0, none⟩), .int .u32 ln]] w fun e w' => NOut w' t.root (fun k => D k ∨ w.heap.size ≤ k) e ∧ Rd w' B r t (fun k => D k ∨ w.heap.size ≤ k) ∧ Tn B r w w' := by
  have hxin := hs.inn (hin.root.more hB)
  have hxh : heftN x ≤ 134217728 := by have := hs.len; omega
  have CF := Lib.hid (fun W (hW : Below w.heap.size w W) => findc_any x imapName W (hxin.on hW) _ rfl)
  have CO := Lib.hid (fun W (hW : Below w.heap.size w W) => oneOK x imaskName W (hxin.on hW) (by decide))
  have HOR := Lib.hid (oneV_range hxin imaskName)
  have HSC : Hid (∀ W, Below w.heap.size w W → ∃ pa pi, W.heap[b]? = some (.cells #[.string x.name, x.pv, x.kv, .pointer pa, .int .i64 pi] 74 (0, 0))) := Lib.hid (fun W hW => (hs.on hW).heap)
  have HPH : Hid (∀ p ∈ x.props, p.zs.length ≤ 134217728) := Lib.hid (fun p hp => by
    obtain ⟨k, hk, rfl⟩ := List.getElem_of_mem hp
    exact Nat.le_trans (prop_heft hk) hxh)
  obtain ⟨g, hg⟩ : ∃ g, w.heap.size = g := ⟨_, rfl⟩
  have HR := Lib.hid hr
  have HH := Lib.hid hh
  have HIN := Lib.hid hin
  have HBG : Hid (B ≤ g) := Lib.hid (by omega)
  have HRG : Hid (r < g) := Lib.hid (by rw [← hg]; exact hr.lt)
  have HLN := Lib.hid h0
  generalize hidx : idxOf (x.props.map PV.name) imapName = ix at *
  generalize oneV x imaskName = O at *
  obtain ⟨mk, ok, er⟩ := O
  simp only [oneVal] at CO HOR
  clear hr hB hin hh hs h0 hxin hxh hidx
  have A4 := allocs4 w (.cells #[.pointer (some ⟨r, 0, none⟩)] 72) (.cells #[.pointer (some ⟨b, 0, none⟩), .int .u32 ln] 54) (.cells #[.pointer none, .int .u32 0] 54) (.cells #[.int .i64 0] 35)
  obtain ⟨W0, hW0⟩ : ∃ W0, (((w.alloc (.cells #[.pointer (some ⟨r, 0, none⟩)] 72)).alloc (.cells #[.pointer (some ⟨b, 0, none⟩), .int .u32 ln] 54)).alloc (.cells #[.pointer none, .int .u32 0] 54)).alloc (.cells #[.int .i64 0] 35) = W0 := ⟨_, rfl⟩
  rw [hW0] at A4
  rw [hg] at A4 CF CO HSC ⊢
  obtain ⟨z0, a0, a1, a2, a3, hb0⟩ := A4
  have HZ0 := Lib.hid z0
  have HNB : Hid (NBox g b r ln W0) := Lib.hid ⟨a0, a1, a2, a3⟩
  have HB0 := Lib.hid hb0
  obtain ⟨xn, xpa, xpc, xps, xka, xkc, xks⟩ := x
  simp only [Nd.val, Nd.pv, Nd.kv, Nd.name, Nd.pa, Nd.pc, Nd.props, Nd.ka, Nd.kc, Nd.kids, imapName, imaskName] at CF CO HSC HPH
  obtain ⟨pa, pi, hbk⟩ := HSC.out W0 hb0
  obtain ⟨s0, s1, s2, _, _⟩ := spot_cells hbk
  obtain ⟨l0, l1⟩ := two_cells a1
  clear a0 a1 a2 a3 hb0 z0 hbk
  refine (callsIn_wide (n := 0)).1 ?_
  refine callsIn_of_wp_marks Try.func26 rfl trivial ?_ rfl
  simp only [Try.ntmps26, List.size_toArray, List.length_cons, List.length_nil, Nat.reduceAdd, Nat.reduceSub, Array.replicate_succ, Array.replicate_zero, List.push_toArray, List.append_toArray, List.nil_append, List.cons_append]
  gi_wp2_with fail
  clear hW0
  refine ⟨trivial, rfl, (callsIn_wide.2 (CF.out _ HB0.out)).mono ?_⟩
  rintro e w1 ⟨A1, c1, zs1, rfl, hsh1, hw1, hb1⟩
  have HB1 := Lib.hid (HB0.out.trans (hb1.mono (by have := HZ0.out; omega)))
  have HNB1 := Lib.hid (HNB.out.on (hb1.mono (by have := HZ0.out; omega)))
  have HZ1 : Hid (g + 4 ≤ w1.heap.size) := Lib.hid (by have := HZ0.out; have := hb1.size; omega)
  have hz1 : zs1.length ≤ 134217728 := by
    rcases hw1 with ⟨_, rfl⟩ | ⟨k, hk, _, rfl⟩
    · simp
    · exact HPH.out _ (List.getElem_mem hk)
  have hgg := hg
  clear hw1 hb1 s0 s1 s2 l0 l1 hg
  have hg : w.heap.size = g := hgg
  clear hgg
  by_cases hix : 0 ≤ ix
  rotate_left
  · have q0 : decide (0 ≤ ix) = false := decide_eq_false hix
    rw [q0]
    have HNBW := HNB1
    have HBWW := HB1
    have HERR : (8 : Int) ≠ 0 := by decide
    have HG := Lib.hid hg
    clear hix q0 hsh1 hz1 CO HSC
    have hq2 := HNBW.out.2.2.1
    have hq3 := HNBW.out.2.2.2
    have c20 : w1.cell? ⟨g + 1 + 1, 0, none⟩ = some (.pointer none) := (two_cells hq2).1
    have c21 : w1.cell? ⟨g + 1 + 1, 1, none⟩ = some (.int .u32 0) := (two_cells hq2).2
    have c30 : w1.cell? ⟨g + 1 + 1 + 1, 0, none⟩ = some (.int .i64 0) := one_cell14 hq3
    have f20 : w1.frozen? ⟨g + 1 + 1, 0, none⟩ = false := Lib.frozen_of_heap hq2 0
    have f21 : w1.frozen? ⟨g + 1 + 1, 1, none⟩ = false := Lib.frozen_of_heap hq2 1
    have f30 : w1.frozen? ⟨g + 1 + 1 + 1, 0, none⟩ = false := Lib.frozen_of_heap hq3 0
    obtain ⟨r2, r3, ro, rs, rb⟩ := nres_heap hq2 hq3 (.pointer none) (.int .u32 0) (.int .i64 8)
    have HE := Lib.hid (And.intro (two_cells r2) (And.intro (one_cell14 r3) (fin_rd HR.out hg HBG.out (HBWW.out.trans (rb.mono (by omega))))))
    clear hq2 hq3 r2 r3 ro rs rb
    gi_wp2
    obtain ⟨⟨e20, e21⟩, e30, _⟩ := HE.out
    refine ⟨.tuple #[.agg #[.pointer none, .int .u32 0], .int .i64 8], by simp [results, Try.results26, go_sem, e20, e21, e30], ?_⟩
    exact ⟨⟨none, 0, 8, rfl, fun h => absurd h HERR⟩, HE.out.2.2⟩
  have q0 : decide (0 ≤ ix) = true := decide_eq_true hix
  rw [q0]
  have CC := Lib.hid (cells_any A1 zs1.length c1 zs1 w1 hsh1.1 (by omega) hsh1.2.1 hsh1.2.2)
  have hE : cellsE zs1 = 0 ∨ cellsE zs1 = 4 := by unfold cellsE; split <;> simp
  have hul : (u32s (cellsL zs1)).length ≤ 134217728 := by
    rw [List.length_map]
    unfold cellsL
    split
    · rw [List.length_map, List.length_range]; omega
    · simp
  have HRG2 : Hid (∀ v ∈ cellsL zs1, 0 ≤ v ∧ v ≤ 4294967295) := Lib.hid (by
    intro v hv
    unfold cellsL at hv
    split at hv
    · obtain ⟨k, _, rfl⟩ := List.mem_map.1 hv
      exact numTo_u32 hsh1.1 _
    · cases hv)
  generalize cellsL zs1 = L at *
  generalize cellsE zs1 = E1 at *
  unfold RowOut at CC
  generalize zs1.length = zl at *
  obtain ⟨M, hM⟩ : ∃ M, (u32s L).length = M := ⟨_, rfl⟩
  have HML := Lib.hid hM
  rw [hM] at CC hul
  clear hix q0 hsh1 hz1 hM
  gi_wp2_with fail
  refine ⟨trivial, rfl, (callsIn_wide.2 CC.out).mono ?_⟩
  rintro e w2 ⟨⟨A2, c2, rfl, hcel2, hmc, hc2⟩, hb2⟩
  have HB2 := Lib.hid (HB1.out.trans (hb2.mono (by have := HZ1.out; omega)))
  have HNB2 := Lib.hid (HNB1.out.on (hb2.mono HZ1.out))
  have HZ2 : Hid (g + 4 ≤ w2.heap.size) := Lib.hid (by have := HZ1.out; have := hb2.size; omega)
  have HCEL := Lib.hid hcel2
  clear hcel2 hb2 CC
  by_cases hE0 : E1 = 0
  rotate_left
  · have q1 : (E1 != 0) = true := by rw [bne_iff_ne]; exact hE0
    have HNBW := HNB2
    have HBWW := HB2
    have HERR : (4 : Int) ≠ 0 := by decide
    have HG := Lib.hid hg
    clear hE hE0 CO HSC
    have hq2 := HNBW.out.2.2.1
    have hq3 := HNBW.out.2.2.2
    have c20 : w2.cell? ⟨g + 1 + 1, 0, none⟩ = some (.pointer none) := (two_cells hq2).1
    have c21 : w2.cell? ⟨g + 1 + 1, 1, none⟩ = some (.int .u32 0) := (two_cells hq2).2
    have c30 : w2.cell? ⟨g + 1 + 1 + 1, 0, none⟩ = some (.int .i64 0) := one_cell14 hq3
    have f20 : w2.frozen? ⟨g + 1 + 1, 0, none⟩ = false := Lib.frozen_of_heap hq2 0
    have f21 : w2.frozen? ⟨g + 1 + 1, 1, none⟩ = false := Lib.frozen_of_heap hq2 1
    have f30 : w2.frozen? ⟨g + 1 + 1 + 1, 0, none⟩ = false := Lib.frozen_of_heap hq3 0
    obtain ⟨r2, r3, ro, rs, rb⟩ := nres_heap hq2 hq3 (.pointer none) (.int .u32 0) (.int .i64 4)
    have HE := Lib.hid (And.intro (two_cells r2) (And.intro (one_cell14 r3) (fin_rd HR.out hg HBG.out (HBWW.out.trans (rb.mono (by omega))))))
    clear hq2 hq3 r2 r3 ro rs rb
    gi_wp2
    obtain ⟨⟨e20, e21⟩, e30, _⟩ := HE.out
    refine ⟨.tuple #[.agg #[.pointer none, .int .u32 0], .int .i64 4], by simp [results, Try.results26, go_sem, e20, e21, e30], ?_⟩
    exact ⟨⟨none, 0, 4, rfl, fun h => absurd h HERR⟩, HE.out.2.2⟩
  subst hE0
  have HHM := Lib.hid hul
  by_cases hm3 : M % 3 = 0
  rotate_left
  · have q1 : (((M : Int) % 3) != 0) = true := by rw [bne_iff_ne]; omega
    have HNBW := HNB2
    have HBWW := HB2
    have HERR : (4 : Int) ≠ 0 := by decide
    have HG := Lib.hid hg
    clear hE hm3 CO HSC
    have hq2 := HNBW.out.2.2.1
    have hq3 := HNBW.out.2.2.2
    have c20 : w2.cell? ⟨g + 1 + 1, 0, none⟩ = some (.pointer none) := (two_cells hq2).1
    have c21 : w2.cell? ⟨g + 1 + 1, 1, none⟩ = some (.int .u32 0) := (two_cells hq2).2
    have c30 : w2.cell? ⟨g + 1 + 1 + 1, 0, none⟩ = some (.int .i64 0) := one_cell14 hq3
    have f20 : w2.frozen? ⟨g + 1 + 1, 0, none⟩ = false := Lib.frozen_of_heap hq2 0
    have f21 : w2.frozen? ⟨g + 1 + 1, 1, none⟩ = false := Lib.frozen_of_heap hq2 1
    have f30 : w2.frozen? ⟨g + 1 + 1 + 1, 0, none⟩ = false := Lib.frozen_of_heap hq3 0
    obtain ⟨r2, r3, ro, rs, rb⟩ := nres_heap hq2 hq3 (.pointer none) (.int .u32 0) (.int .i64 4)
    have HE := Lib.hid (And.intro (two_cells r2) (And.intro (one_cell14 r3) (fin_rd HR.out hg HBG.out (HBWW.out.trans (rb.mono (by omega))))))
    clear hq2 hq3 r2 r3 ro rs rb
    gi_wp2
    obtain ⟨⟨e20, e21⟩, e30, _⟩ := HE.out
    refine ⟨.tuple #[.agg #[.pointer none, .int .u32 0], .int .i64 4], by simp [results, Try.results26, go_sem, e20, e21, e30], ?_⟩
    exact ⟨⟨none, 0, 4, rfl, fun h => absurd h HERR⟩, HE.out.2.2⟩
  have q1 : (((M : Int) % 3) != 0) = false := by rw [bne_eq_false_iff_eq]; omega
  have HM3 := Lib.hid hm3
  obtain ⟨pa2, pi2, hbk2⟩ := HSC.out w2 HB2.out
  obtain ⟨s0, s1, s2, _, _⟩ := spot_cells hbk2
  obtain ⟨l0, l1⟩ := two_cells HNB2.out.2.1
  clear hE hm3 hbk2
  gi_wp2_with fail
  refine ⟨trivial, rfl, (callsIn_wide.2 (CO.out _ HB2.out)).mono ?_⟩
  rintro e w3 ⟨rfl, hb3⟩
  have HB3 := Lib.hid (HB2.out.trans (hb3.mono (by have := HZ2.out; omega)))
  have HNB3 := Lib.hid (HNB2.out.on (hb3.mono HZ2.out))
  have HZ3 : Hid (g + 4 ≤ w3.heap.size) := Lib.hid (by have := HZ2.out; have := hb3.size; omega)
  have HCEL3 := Lib.hid ((HCEL.out.below hb3).more hb3.size)
  clear s0 s1 s2 l0 l1 hb3 CO HSC q1
  -- the mask's box
  obtain ⟨gm, hgm⟩ : ∃ gm, w3.heap.size = gm := ⟨_, rfl⟩
  have hmb : Below w3.heap.size w3 (w3.alloc (.cells #[.int .u32 mk] 22)) := (Below.refl _ _).alloc (Nat.le_refl _) _
  have hmc' := heap_alloc_new w3 (.cells #[.int .u32 mk] 22)
  have hms : (w3.alloc (.cells #[.int .u32 mk] 22)).heap.size = gm + 1 := by simp [hgm]
  obtain ⟨w4, hw4⟩ : ∃ w4, w3.alloc (.cells #[.int .u32 mk] 22) = w4 := ⟨_, rfl⟩
  rw [hw4] at hmb hmc' hms
  rw [hgm] at hmc' HZ3
  have HB4 := Lib.hid (HB3.out.trans (hmb.mono (by rw [hgm]; have := HZ3.out; omega)))
  have HNB4 := Lib.hid (HNB3.out.on (hmb.mono (by rw [hgm]; exact HZ3.out)))
  have HCEL4 := Lib.hid ((HCEL3.out.below hmb).more hmb.size)
  have HMC := Lib.hid hmc'
  have HZ4 := Lib.hid hms
  clear hmb hmc' hms
  by_cases her : er = 0
  rotate_left
  · have q1 : (er != 0) = true := by rw [bne_iff_ne]; exact her
    have HNBW := HNB4
    have HBWW := HB4
    have HERR := her
    have HG := Lib.hid hg
    clear her
    have hq2 := HNBW.out.2.2.1
    have hq3 := HNBW.out.2.2.2
    have c20 : w4.cell? ⟨g + 1 + 1, 0, none⟩ = some (.pointer none) := (two_cells hq2).1
    have c21 : w4.cell? ⟨g + 1 + 1, 1, none⟩ = some (.int .u32 0) := (two_cells hq2).2
    have c30 : w4.cell? ⟨g + 1 + 1 + 1, 0, none⟩ = some (.int .i64 0) := one_cell14 hq3
    have f20 : w4.frozen? ⟨g + 1 + 1, 0, none⟩ = false := Lib.frozen_of_heap hq2 0
    have f21 : w4.frozen? ⟨g + 1 + 1, 1, none⟩ = false := Lib.frozen_of_heap hq2 1
    have f30 : w4.frozen? ⟨g + 1 + 1 + 1, 0, none⟩ = false := Lib.frozen_of_heap hq3 0
    obtain ⟨r2, r3, ro, rs, rb⟩ := nres_heap hq2 hq3 (.pointer none) (.int .u32 0) (.int .i64 er)
    have HE := Lib.hid (And.intro (two_cells r2) (And.intro (one_cell14 r3) (fin_rd HR.out hg HBG.out (HBWW.out.trans (rb.mono (by omega))))))
    clear hq2 hq3 r2 r3 ro rs rb
    gi_wp2
    obtain ⟨⟨e20, e21⟩, e30, _⟩ := HE.out
    refine ⟨.tuple #[.agg #[.pointer none, .int .u32 0], .int .i64 er], by simp [results, Try.results26, go_sem, e20, e21, e30], ?_⟩
    exact ⟨⟨none, 0, er, rfl, fun h => absurd h HERR⟩, HE.out.2.2⟩
  subst her
  have HBW0 := Lib.hid hg
  obtain ⟨m, hm⟩ : ∃ m, M = m * 3 := ⟨M / 3, by have := HM3.out; omega⟩
  have HMm := Lib.hid hm
  have HC2 := Lib.hid (And.intro hmc hc2)
  have cm : w4.cell? ⟨gm, 0, none⟩ = some (.int .u32 mk) := one_cell14 HMC.out
  have fm : w4.frozen? ⟨gm, 0, none⟩ = false := Lib.frozen_of_heap HMC.out 0
  cases ok
  · obtain ⟨W5, hW5⟩ : ∃ W5, w4.setCell ⟨gm, 0, none⟩ (.int .u32 4294967295) = W5 := ⟨_, rfl⟩
    have hb5 : Below gm w4 W5 := by rw [← hW5]; exact (Below.refl _ _).setCell (p := ⟨gm, 0, none⟩) (Nat.le_refl _) _
    have hz5 : W5.heap.size = gm + 1 := by rw [← hW5]; simp [HZ4.out]
    have hm5 : W5.heap[gm]? = some (.cells #[.int .u32 4294967295] 22 (0, 0)) := by
      have h := HMC.out
      rw [← hW5]
      simp [World.setCell, Array.getElem?_modify, h]
    have hc5 : Cel W5 W5.heap.size A2 M (u32s L) := by
      refine ((HCEL3.out).below ?_).more (by rw [hz5]; have := hgm; omega)
      rw [hgm]
      exact ((Below.refl gm w3).alloc (by omega) _ |> fun h => by rw [hw4] at h; exact h.trans hb5)
    replace HB4 := Lib.hid (HB4.out.trans (hb5.mono (by have := HZ3.out; omega)))
    replace HNB4 := Lib.hid (HNB4.out.on (hb5.mono HZ3.out))
    replace HCEL4 := Lib.hid hc5
    replace HMC := Lib.hid hm5
    replace HZ4 := Lib.hid hz5
    clear hb5 hz5 hm5 hc5 hm hmc hc2
    have HCEL5 := Lib.hid HCEL4.out
    obtain ⟨W6, hW6⟩ : ∃ W6, (W5.alloc (.cells #[.slice A2 M c2] 76)).alloc (.cells #[.int .i64 3] 3) = W6 := ⟨_, rfl⟩
    have HCH := chunk_any A2 M c2 3 (by omega) W5
    rw [HZ4.out] at HCH
    have hb6 : Below W5.heap.size W5 W6 := by rw [← hW6]; exact ((Below.refl _ _).alloc (Nat.le_refl _) _).alloc (by simp) _
    have hx1 : W6.heap[gm + 1]? = some (.cells #[.slice A2 M c2] 76 (0, 0)) := by
      rw [← hW6, Below.heap_alloc _ _ _ (by simp [HZ4.out]), ← HZ4.out]; exact heap_alloc_new _ _
    have hx2 : W6.heap[gm + 1 + 1]? = some (.cells #[.int .i64 3] 3 (0, 0)) := by
      have e : (W5.alloc (.cells #[.slice A2 M c2] 76)).heap.size = gm + 1 + 1 := by simp [HZ4.out]
      rw [← hW6, ← e]; exact heap_alloc_new _ _
    have hz6 : W6.heap.size = gm + 3 := by rw [← hW6]; simp [HZ4.out]
    have HCHH : Hid (Calls Try.prog 35 #[.slice A2 M c2, .int .i64 3] W5 fun e w' => e = .returned (.func (.func 43) #[] #[.pointer (some ⟨gm + 1, 0, none⟩), .pointer (some ⟨gm + 1 + 1, 0, none⟩)]) ∧ w' = W6) := Lib.hid (by rw [← hW6]; exact HCH)
    have HB6 := Lib.hid (HB4.out.trans (hb6.mono (by have := HZ4.out; have := HZ3.out; omega)))
    have HNB6 := Lib.hid (HNB4.out.on (hb6.mono (by have := HZ4.out; have := HZ3.out; omega)))
    have HCEL6 := Lib.hid ((HCEL5.out.below hb6).more (B' := gm + 3) (by have := HZ4.out; omega))
    have HMC6 := Lib.hid ((hb6.block gm (by have := HZ4.out; omega)).trans HMC.out)
    have HX6 := Lib.hid (And.intro hx1 hx2)
    have HZ6 := Lib.hid hz6
    have HGM : Hid (g + 4 ≤ gm) := HZ3
    have HWK := Lib.hid (chunk_walks0 A2 c2 M 3 m B (gm + 1) W6 (by rw [hz6]; have := HBG.out; have := HGM.out; omega) (by omega) HMm.out ⟨HC2.out.1, HC2.out.2, by have := HHM.out; omega⟩)
    clear hb6 hx1 hx2 hz6 HCH hW6
    gi_wp2_with (refine ⟨trivial, rfl, (callsIn_wide.2 HCHH.out).mono ?_⟩; rintro e W7 ⟨rfl, rfl⟩)
    clear HCHH cm fm
    refine rangeFunc_iterX (gf := 43) (lb := #[.pointer (some ⟨gm + 1, 0, none⟩), .pointer (some ⟨gm + 1 + 1, 0, none⟩)]) rfl (enters_of Try.func43 (by kernel_rfl) rfl) HWK.out (Below.refl _ _) (by rw [HZ6.out]; have := HBG.out; have := HGM.out; omega) (fun Wx j args h => by obtain rfl : args = _ := h; rfl) (gm + 3) (by rw [HZ6.out]; exact Nat.le_refl _) (fun _ => False) (fun k h => h.elim)
      (fun Mk pre Wx => Below (gm + 3) W7 Wx) (fun c Mk pre Wx => c = .ret ∧ NFin t B r g D w Mk Wx)
      (fun T T' s A C hs hB hT ht hst => hs.trans (ht.below hT hB)) (fun c T T' s A C hs hB hT ht hst => ⟨hs.1, hs.2.turn ht hT hB (by have := HRG.out; have := HGM.out; omega) (by have := HGM.out; omega) HBG.out (by rw [HBW0.out]; have := HGM.out; omega)⟩) (fun Mk s W1 h => ⟨(h.block _ (by omega)).trans HX6.out.1, (h.block _ (by omega)).trans HX6.out.2⟩) (Below.refl _ _) ?round ?done ?stop
    case round =>
      rintro l2 Mk pre j args Wr hM hu hsz hbn hI henc hpre
      obtain rfl : args = _ := henc
      have hjm : j < m := by
        have := hpre.subset (show j ∈ pre ++ [j] by simp)
        simpa using this
      have hj3 : j * 3 + 3 ≤ M := by rw [HMm.out]; omega
      gi_wp2
      refine ⟨hI, Kp.refl _ _ _, ?_⟩
      intro W3 hi3 ht3 hcl3 hfz3
      obtain ⟨eb, eo, eA, heb, hec⟩ := ((HCEL6.out.below hi3).chunk hj3).at_ (by omega)
      have hLl : L.length = M := by have := HML.out; rwa [List.length_map] at this
      have hv : ∀ i, i < 3 → ∃ v, W3.cell? ⟨eb, eo + i, none⟩ = some (.int .u32 v) ∧ 0 ≤ v ∧ v ≤ 4294967295 := fun i hi => by
        refine ⟨L[j * 3 + i]'(by omega), ?_, HRG2.out _ (List.getElem_mem _)⟩
        rw [hec i hi, List.getElem?_take_of_lt hi, List.getElem?_drop, List.getElem?_map, List.getElem?_eq_getElem (by omega)]
        rfl
      obtain ⟨v0, e0, _⟩ := hv 0 (by omega)
      obtain ⟨v1, e1, hv1⟩ := hv 1 (by omega)
      obtain ⟨v2, e2, hv2⟩ := hv 2 (by omega)
      rw [Nat.add_zero] at e0
      rw [eA]
      have HI3 := Lib.hid hi3
      have HEB : Hid (eb < W3.heap.size) := Lib.hid (by have := hi3.size; have := HZ6.out; omega)
      have HU3 := Lib.hid (ht3.ups hu (by have := HZ6.out; omega))
      have HV1 := Lib.hid hv1
      have HV2 := Lib.hid hv2
      have HS3 : Hid (gm + 3 ≤ W3.heap.size) := Lib.hid (by have := hi3.size; have := HZ6.out; omega)
      have l0 := (two_cells ((hi3.block (g + 1) (by have := HGM.out; omega)).trans HNB6.out.2.1)).2
      have l1 := one_cell14 ((hi3.block gm (by omega)).trans HMC6.out)
      have l2' := one_cell14 ((hi3.block g (by have := HGM.out; omega)).trans HNB6.out.1)
      have HEC := Lib.hid (And.intro e0 (And.intro e1 (And.intro e2 (And.intro l0 (And.intro l1 l2')))))
      clear hM hu hsz hbn hI hpre hjm hj3 hi3 ht3 hcl3 hfz3 hec hLl hv hv1 hv2 heb eA
      gi_wp2_with fail
      refine in_begin (S := fun W => W.cell? ⟨eb, eo, none⟩ = some (.int .u32 v0) ∧ W.cell? ⟨gm, 0, none⟩ = some (.int .u32 4294967295) ∧ W.cell? ⟨g + 1, 1, none⟩ = some (.int .u32 ln)) (by kernel_rfl) ⟨e0, l1, l0⟩ (fun hHeld => ?_)
      refine in_take 0 (fun _ => trivial) rfl (by kernel_rfl) (by kernel_rfl) (by kernel_rfl) (by kernel_rfl) (fun _ _ _ h => h) (by rfl) (by kernel_rfl) hHeld (v := ?_) (fun w hSw => ?_) (fun _ => ?_)
      rotate_left
      · ((try dsimp only at hSw); go_simp; (try with_reducible rfl))
      simp only [Act.put, List.setIfInBounds_toArray, List.set_cons_zero, List.set_cons_succ]
      refine in_take 1 (fun _ => trivial) rfl (by kernel_rfl) (by kernel_rfl) (by kernel_rfl) (by kernel_rfl) (fun _ _ _ h => h) (by rfl) (by kernel_rfl) hHeld (v := ?_) (fun w hSw => ?_) (fun _ => ?_)
      rotate_left
      · ((try dsimp only at hSw); go_simp; (try with_reducible rfl))
      simp only [Act.put, List.setIfInBounds_toArray, List.set_cons_zero, List.set_cons_succ]
      refine in_take 2 (fun _ => trivial) rfl (by kernel_rfl) (by kernel_rfl) (by kernel_rfl) (by kernel_rfl) (fun _ _ _ h => h) (by rfl) (by kernel_rfl) hHeld (v := ?_) (fun w hSw => ?_) (fun _ => ?_)
      rotate_left
      · ((try dsimp only at hSw); go_simp; (try with_reducible rfl))
      simp only [Act.put, List.setIfInBounds_toArray, List.set_cons_zero, List.set_cons_succ]
      refine in_take 3 (fun _ => trivial) rfl (by kernel_rfl) (by kernel_rfl) (by kernel_rfl) (by kernel_rfl) (fun _ _ _ h => h) (by rfl) (by kernel_rfl) hHeld (v := ?_) (fun w hSw => ?_) (fun _ => ?_)
      rotate_left
      · ((try dsimp only at hSw); go_simp; (try with_reducible rfl))
      simp only [Act.put, List.setIfInBounds_toArray, List.set_cons_zero, List.set_cons_succ]
      refine in_take 4 (fun _ => trivial) rfl (by kernel_rfl) (by kernel_rfl) (by kernel_rfl) (by kernel_rfl) (fun _ _ _ h => h) (by rfl) (by kernel_rfl) hHeld (v := ?_) (fun w hSw => ?_) (fun _ => ?_)
      rotate_left
      · ((try dsimp only at hSw); go_simp; (try with_reducible rfl))
      simp only [Act.put, List.setIfInBounds_toArray, List.set_cons_zero, List.set_cons_succ]
      refine in_take 5 (fun _ => trivial) rfl (by kernel_rfl) (by kernel_rfl) (by kernel_rfl) (by kernel_rfl) (fun _ _ _ h => h) (by rfl) (by kernel_rfl) hHeld (v := ?_) (fun w hSw => ?_) (fun _ => ?_)
      rotate_left
      · ((try dsimp only at hSw); go_simp; (try with_reducible rfl))
      simp only [Act.put, List.setIfInBounds_toArray, List.set_cons_zero, List.set_cons_succ]
      refine in_take 6 (fun _ => trivial) rfl (by kernel_rfl) (by kernel_rfl) (by kernel_rfl) (by kernel_rfl) (fun _ _ _ h => h) (by rfl) (by kernel_rfl) hHeld (v := ?_) (fun w hSw => ?_) (fun _ => ?_)
      rotate_left
      · ((try dsimp only at hSw); go_simp; (try with_reducible rfl))
      simp only [Act.put, List.setIfInBounds_toArray, List.set_cons_zero, List.set_cons_succ]
      refine in_take 7 (fun _ => trivial) rfl (by kernel_rfl) (by kernel_rfl) (by kernel_rfl) (by kernel_rfl) (fun _ _ _ h => h) (by rfl) (by kernel_rfl) hHeld (v := ?_) (fun w hSw => ?_) (fun _ => ?_)
      rotate_left
      · ((try dsimp only at hSw); go_simp; (try with_reducible rfl))
      simp only [Act.put, List.setIfInBounds_toArray, List.set_cons_zero, List.set_cons_succ]
      refine in_take 8 (fun _ => trivial) rfl (by kernel_rfl) (by kernel_rfl) (by kernel_rfl) (by kernel_rfl) (fun _ _ _ h => h) (by rfl) (by kernel_rfl) hHeld (v := ?_) (fun w hSw => ?_) (fun _ => ?_)
      rotate_left
      · ((try dsimp only at hSw); go_simp; (try with_reducible rfl))
      simp only [Act.put, List.setIfInBounds_toArray, List.set_cons_zero, List.set_cons_succ]
      refine in_take 9 (fun _ => trivial) rfl (by kernel_rfl) (by kernel_rfl) (by kernel_rfl) (by kernel_rfl) (fun _ _ _ h => h) (by rfl) (by kernel_rfl) hHeld (v := ?_) (fun w hSw => ?_) (fun _ => ?_)
      rotate_left
      · ((try dsimp only at hSw); go_simp; (try with_reducible rfl))
      simp only [Act.put, List.setIfInBounds_toArray, List.set_cons_zero, List.set_cons_succ]
      refine in_done (by kernel_rfl) ?_ _
      clear hHeld
      obtain ⟨q, hq⟩ : ∃ q, (bits BinOp.and IntKind.u32 v0 4294967295 == bits BinOp.and IntKind.u32 ln 4294967295) = q := ⟨_, rfl⟩
      rw [hq]
      clear hq e0 e1 e2 l0 l1 l2'
      cases q
      · gi_wp2
        exact ⟨⟨(Below.refl B W3).drew, fun _ _ => rfl⟩, HI3.out.drew⟩
      · have hbw3 : Below g w W3 := HB6.out.trans (HI3.out.mono (by have := HGM.out; omega))
        have HBW3 := Lib.hid hbw3
        have hrd3 : Rd W3.drew.drew B r t (fun k => D k ∧ k < g) := HR.out.keep (fun j h hl => ⟨h, by rw [HBW0.out] at hl; exact hl⟩) (fun j _ hl => hbw3.block j (by rw [HBW0.out] at hl; exact hl))
        have hne : eb ≠ r := by
          rintro rfl
          obtain ⟨_, own, er, hb, _⟩ := hrd3
          exact rbox_u32 hb _ _ HEC.out.2.1
        have CL := Lib.hid (find14_any t B r (fun k => D k ∧ k < g) v1 W3.drew.drew hrd3 (by have h1 := HS3.out; have h2 := HBG.out; have h3 := HGM.out; show B ≤ W3.heap.size; omega) (HIN.out.under ((hbw3.mono HBG.out).drew.drew)) HH.out HV1.out)
        have HNE := Lib.hid hne
        have e1 := HEC.out.2.1
        have l2' := HEC.out.2.2.2.2.2
        clear hbw3 hrd3 hne
        gi_wp2_with fail
        refine in_begin (S := fun W => W.cell? ⟨eb, eo + 1, none⟩ = some (.int .u32 v1) ∧ W.cell? ⟨g, 0, none⟩ = some (.pointer (some ⟨r, 0, none⟩))) (by kernel_rfl) ⟨e1, l2'⟩ (fun hHeld => ?_)
        clear e1 l2'
        refine in_take 0 (fun _ => trivial) rfl (by kernel_rfl) (by kernel_rfl) (by kernel_rfl) (by kernel_rfl) (fun _ _ _ h => h) (by rfl) (by kernel_rfl) hHeld (v := ?_) (fun w hSw => ?_) (fun _ => ?_)
        rotate_left
        · ((try dsimp only at hSw); go_simp; (try with_reducible rfl))
        simp only [Act.put, List.setIfInBounds_toArray, List.set_cons_zero, List.set_cons_succ]
        refine in_take 1 (fun _ => trivial) rfl (by kernel_rfl) (by kernel_rfl) (by kernel_rfl) (by kernel_rfl) (fun _ _ _ h => h) (by rfl) (by kernel_rfl) hHeld (v := ?_) (fun w hSw => ?_) (fun _ => ?_)
        rotate_left
        · ((try dsimp only at hSw); go_simp; (try with_reducible rfl))
        simp only [Act.put, List.setIfInBounds_toArray, List.set_cons_zero, List.set_cons_succ]
        refine in_take 2 (fun _ => trivial) rfl (by kernel_rfl) (by kernel_rfl) (by kernel_rfl) (by kernel_rfl) (fun _ _ _ h => h) (by rfl) (by kernel_rfl) hHeld (v := ?_) (fun w hSw => ?_) (fun _ => ?_)
        rotate_left
        · ((try dsimp only at hSw); go_simp; (try with_reducible rfl))
        simp only [Act.put, List.setIfInBounds_toArray, List.set_cons_zero, List.set_cons_succ]
        refine in_take 3 (fun _ => trivial) rfl (by kernel_rfl) (by kernel_rfl) (by kernel_rfl) (by kernel_rfl) (fun _ _ _ h => h) (by rfl) (by kernel_rfl) hHeld (v := ?_) (fun w hSw => ?_) (fun _ => ?_)
        rotate_left
        · ((try dsimp only at hSw); go_simp; (try with_reducible rfl))
        simp only [Act.put, List.setIfInBounds_toArray, List.set_cons_zero, List.set_cons_succ]
        refine in_call 4 (by kernel_rfl) rfl (by rfl) (fun K hK => ?_)
        refine ⟨fun _ _ => trivial, ?_⟩
        go_simp
        refine ⟨rfl, (CallsIn.inRound l2 (callsIn_wide.2 CL.out)).mono ?_⟩
        rintro e W4 ⟨⟨p, er, rfl, hgood⟩, hrd4, htn4⟩
        have hbk4 : ∀ k, k < gm + 3 → k ≠ r → W4.heap[k]? = W3.heap[k]? := fun k hk hkr => htn4.same k (by have := HS3.out; show k < W3.heap.size; omega) hkr
        have e1 : W4.cell? ⟨eb, eo + 1, none⟩ = some (.int .u32 v1) := (World.cell?_of_block (a := ⟨eb, eo + 1, none⟩) (htn4.same eb (HEB.out) HNE.out)).trans HEC.out.2.1
        have e2 : W4.cell? ⟨eb, eo + 2, none⟩ = some (.int .u32 v2) := (World.cell?_of_block (a := ⟨eb, eo + 2, none⟩) (htn4.same eb (HEB.out) HNE.out)).trans HEC.out.2.2.1
        have l2' : W4.cell? ⟨g, 0, none⟩ = some (.pointer (some ⟨r, 0, none⟩)) := (World.cell?_of_block (a := ⟨g, 0, none⟩) (hbk4 g (by have := HGM.out; omega) (by have := HRG.out; omega))).trans HEC.out.2.2.2.2.2
        have hq2 := (hbk4 (g + 2) (by have := HGM.out; omega) (by have := HRG.out; omega)).trans ((HI3.out.block (g + 2) (by have := HGM.out; omega)).trans HNB6.out.2.2.1)
        have hq3 := (hbk4 (g + 3) (by have := HGM.out; omega) (by have := HRG.out; omega)).trans ((HI3.out.block (g + 3) (by have := HGM.out; omega)).trans HNB6.out.2.2.2)
        have c20 : W4.cell? ⟨g + 1 + 1, 0, none⟩ = some (.pointer none) := (two_cells hq2).1
        have c21 : W4.cell? ⟨g + 1 + 1, 1, none⟩ = some (.int .u32 0) := (two_cells hq2).2
        have c30 : W4.cell? ⟨g + 1 + 1 + 1, 0, none⟩ = some (.int .i64 0) := one_cell14 hq3
        have f20 : W4.frozen? ⟨g + 1 + 1, 0, none⟩ = false := Lib.frozen_of_heap hq2 0
        have f21 : W4.frozen? ⟨g + 1 + 1, 1, none⟩ = false := Lib.frozen_of_heap hq2 1
        have f30 : W4.frozen? ⟨g + 1 + 1 + 1, 0, none⟩ = false := Lib.frozen_of_heap hq3 0
        obtain ⟨r2, r3, ro, rs, rb⟩ := nres_heap hq2 hq3 (.pointer p) (.int .u32 v2) (.int .i64 er)
        have hMk : ∀ k, ((D k ∧ k < g) ∨ W3.heap.size ≤ k) → (D k ∨ g ≤ k) ∧ ¬ Mk k := fun k hk => by
          have h1 := HGM.out
          have h2 := HS3.out
          rcases hk with ⟨h3, h4⟩ | h3
          · exact ⟨.inl h3, fun h => by have := (HU3.out k h).1; omega⟩
          · exact ⟨.inr (by omega), fun h => by have := (HU3.out k h).2; omega⟩
        have hro : ∀ k, ((D k ∧ k < g) ∨ W3.heap.size ≤ k) → k ≠ g + 2 ∧ k ≠ g + 3 := fun k hk => by
          have h1 := HGM.out
          have h2 := HS3.out
          rcases hk with ⟨_, h4⟩ | h3 <;> omega
        have HFIN : Hid (Kp B Mk W3 (((W4.setCell ⟨g + 2, 0, none⟩ (.pointer p)).setCell ⟨g + 2, 1, none⟩ (.int .u32 v2)).setCell ⟨g + 3, 0, none⟩ (.int .i64 er)) ∧ NFin t B r g D w Mk (((W4.setCell ⟨g + 2, 0, none⟩ (.pointer p)).setCell ⟨g + 2, 1, none⟩ (.int .u32 v2)).setCell ⟨g + 3, 0, none⟩ (.int .i64 er))) := Lib.hid (by
          have hB4 : Below B W3 W4 := (Below.refl B W3).drew.drew.trans htn4.below
          have hBr := HBG.out
          have h1 := HGM.out
          have h2 := HS3.out
          have h3 := HRG.out
          refine ⟨⟨hB4.trans (rb.mono (by omega)), fun k hk => ?_⟩, p, v2, er, r2, r3, fun he => ⟨HV2.out, ?_⟩, ?_, (HBW3.out.mono hBr).trans (hB4.trans (rb.mono (by omega))), fun k hk hkr => ?_⟩
          · obtain ⟨h4, h5⟩ := HU3.out k hk
            exact (ro k (by omega) (by omega)).trans (htn4.same k h5 (by omega))
          · obtain ⟨sb, sz, sx, e, hsp⟩ := hgood he
            exact ⟨sb, sz, sx, e, (hsp.keep (fun j hj _ => ro j (hro j hj).1 (hro j hj).2)).sub (fun j hj _ => hMk j hj)⟩
          · exact hrd4.keep (fun j hj _ => hMk j hj) (fun j hj _ => hj.elim (fun e => ro j (by omega) (by omega)) (fun hj => ro j (hro j hj).1 (hro j hj).2))
          · rw [HBW0.out] at hk
            exact (ro k (by omega) (by omega)).trans ((htn4.same k (by show k < W3.heap.size; omega) hkr).trans (HBW3.out.block k hk)))
        clear hgood hrd4 htn4 hbk4 hq2 hq3 r2 r3 ro rs rb hMk hro CL
        refine hK.out _ _ ⟨e1, l2'⟩ (fun hHeld => ?_)
        clear hK K
        refine in_take 5 (fun _ => trivial) rfl (by kernel_rfl) (by kernel_rfl) (by kernel_rfl) (by kernel_rfl) (fun _ _ _ h => h) (by rfl) (by kernel_rfl) hHeld (v := ?_) (fun w hSw => ?_) (fun _ => ?_)
        rotate_left
        · ((try dsimp only at hSw); go_simp; (try with_reducible rfl))
        simp only [Act.put, List.setIfInBounds_toArray, List.set_cons_zero, List.set_cons_succ]
        refine in_take 6 (fun _ => trivial) rfl (by kernel_rfl) (by kernel_rfl) (by kernel_rfl) (by kernel_rfl) (fun _ _ _ h => h) (by rfl) (by kernel_rfl) hHeld (v := ?_) (fun w hSw => ?_) (fun _ => ?_)
        rotate_left
        · ((try dsimp only at hSw); go_simp; (try with_reducible rfl))
        simp only [Act.put, List.setIfInBounds_toArray, List.set_cons_zero, List.set_cons_succ]
        refine in_take 7 (fun _ => trivial) rfl (by kernel_rfl) (by kernel_rfl) (by kernel_rfl) (by kernel_rfl) (fun _ _ _ h => h) (by rfl) (by kernel_rfl) hHeld (v := ?_) (fun w hSw => ?_) (fun _ => ?_)
        rotate_left
        · ((try dsimp only at hSw); go_simp; (try with_reducible rfl))
        simp only [Act.put, List.setIfInBounds_toArray, List.set_cons_zero, List.set_cons_succ]
        refine in_take 8 (fun _ => trivial) rfl (by kernel_rfl) (by kernel_rfl) (by kernel_rfl) (by kernel_rfl) (fun _ _ _ h => h) (by rfl) (by kernel_rfl) hHeld (v := ?_) (fun w hSw => ?_) (fun _ => ?_)
        rotate_left
        · ((try dsimp only at hSw); go_simp; (try with_reducible rfl))
        simp only [Act.put, List.setIfInBounds_toArray, List.set_cons_zero, List.set_cons_succ]
        refine in_take 9 (fun _ => trivial) rfl (by kernel_rfl) (by kernel_rfl) (by kernel_rfl) (by kernel_rfl) (fun _ _ _ h => h) (by rfl) (by kernel_rfl) hHeld (v := ?_) (fun w hSw => ?_) (fun _ => ?_)
        rotate_left
        · ((try dsimp only at hSw); go_simp; (try with_reducible rfl))
        simp only [Act.put, List.setIfInBounds_toArray, List.set_cons_zero, List.set_cons_succ]
        refine in_done (by kernel_rfl) ?_ _
        clear hHeld
        gi_wp2
        exact ⟨HFIN.out.1, rfl, HFIN.out.2⟩
    case done =>
      rintro Dd Mk Wd hM hu hsz hD hI hd
      have hgm4 := HGM.out
      have hDb := (hu Dd hD).1
      have hq2 := (hI.block (g + 2) (by omega)).trans HNB6.out.2.2.1
      have hq3 := (hI.block (g + 3) (by omega)).trans HNB6.out.2.2.2
      have c20 : Wd.cell? ⟨g + 1 + 1, 0, none⟩ = some (.pointer none) := (two_cells hq2).1
      have c21 : Wd.cell? ⟨g + 1 + 1, 1, none⟩ = some (.int .u32 0) := (two_cells hq2).2
      have c30 : Wd.cell? ⟨g + 1 + 1 + 1, 0, none⟩ = some (.int .i64 0) := one_cell14 hq3
      have f20 : Wd.frozen? ⟨g + 1 + 1, 0, none⟩ = false := Lib.frozen_of_heap hq2 0
      have f21 : Wd.frozen? ⟨g + 1 + 1, 1, none⟩ = false := Lib.frozen_of_heap hq2 1
      have f30 : Wd.frozen? ⟨g + 1 + 1 + 1, 0, none⟩ = false := Lib.frozen_of_heap hq3 0
      obtain ⟨r2, r3, ro, rs, rb⟩ := nres_heap hq2 hq3 (.pointer none) (.int .u32 0) (.int .i64 8)
      have HD2 := Lib.hid ((ro Dd (by omega) (by omega)).trans hd)
      have HE : Hid (((((((Wd.setCell ⟨g + 2, 0, none⟩ (.pointer none)).setCell ⟨g + 2, 1, none⟩ (.int .u32 0)).setCell ⟨g + 3, 0, none⟩ (.int .i64 8)).putObj Dd (.deferred none)).cell? ⟨g + 1 + 1, 0, none⟩ = some (.pointer none) ∧ ((((Wd.setCell ⟨g + 2, 0, none⟩ (.pointer none)).setCell ⟨g + 2, 1, none⟩ (.int .u32 0)).setCell ⟨g + 3, 0, none⟩ (.int .i64 8)).putObj Dd (.deferred none)).cell? ⟨g + 1 + 1, 1, none⟩ = some (.int .u32 0)) ∧ ((((Wd.setCell ⟨g + 2, 0, none⟩ (.pointer none)).setCell ⟨g + 2, 1, none⟩ (.int .u32 0)).setCell ⟨g + 3, 0, none⟩ (.int .i64 8)).putObj Dd (.deferred none)).cell? ⟨g + 1 + 1 + 1, 0, none⟩ = some (.int .i64 8)) ∧
          Rd ((((Wd.setCell ⟨g + 2, 0, none⟩ (.pointer none)).setCell ⟨g + 2, 1, none⟩ (.int .u32 0)).setCell ⟨g + 3, 0, none⟩ (.int .i64 8)).putObj Dd (.deferred none)) B r t (fun k => D k ∨ g ≤ k) ∧ Tn B r w ((((Wd.setCell ⟨g + 2, 0, none⟩ (.pointer none)).setCell ⟨g + 2, 1, none⟩ (.int .u32 0)).setCell ⟨g + 3, 0, none⟩ (.int .i64 8)).putObj Dd (.deferred none))) := Lib.hid (by
        generalize ((Wd.setCell ⟨g + 2, 0, none⟩ (.pointer none)).setCell ⟨g + 2, 1, none⟩ (.int .u32 0)).setCell ⟨g + 3, 0, none⟩ (.int .i64 8) = We at r2 r3 ro rs rb ⊢
        have pt : ∀ k, k ≠ Dd → (We.putObj Dd (.deferred none)).heap[k]? = We.heap[k]? := fun k hk => World.putObj_heap_other hk
        have hbe : Below g w (We.putObj Dd (.deferred none)) := (HB6.out.trans (hI.mono (by omega))).trans ((rb.mono (by omega)).trans ⟨rfl, rfl, rfl, by simp, fun k hk => pt k (by omega)⟩)
        exact ⟨⟨two_cells ((pt (g + 2) (by omega)).trans r2), one_cell14 ((pt (g + 3) (by omega)).trans r3)⟩, fin_rd HR.out HBW0.out HBG.out hbe⟩)
      clear hM hu hsz hD hI hd hgm4 hDb hq2 hq3 r2 r3 ro rs rb
      gi_wp2
      refine ⟨by simp, .inl ⟨_, _, rfl, run_takeDeferred HD2.out, ?_⟩⟩
      obtain ⟨⟨⟨e20, e21⟩, e30⟩, _⟩ := HE.out
      refine ⟨.tuple #[.agg #[.pointer none, .int .u32 0], .int .i64 8], by simp [results, Try.results26, go_sem, e20, e21, e30], ?_⟩
      exact ⟨⟨none, 0, 8, rfl, fun h => by cases h⟩, HE.out.2⟩
    case stop =>
      rintro Dd c Mk pre Wd hM hu hsz hD hpre ⟨rfl, hf⟩ hd
      have hf2 := hf.turn (Turn.putObj Wd hD (.deferred none)) hu (by have := HZ6.out; omega) (by have := HRG.out; have := HGM.out; omega) (by have := HGM.out; omega) HBG.out (by rw [HBW0.out]; have := HGM.out; omega)
      obtain ⟨p, ln', er', h1, h2, h3, h4, h5⟩ := hf2
      have HE := Lib.hid (And.intro (two_cells h1) (one_cell14 h2))
      have HGD : Hid (er' = 0 → (0 ≤ ln' ∧ ln' ≤ 4294967295) ∧ ∃ b z x, p = some ⟨b, 0, none⟩ ∧ Spot (Wd.putObj Dd (.deferred none)) t.root (fun k => D k ∨ g ≤ k) b z x) := Lib.hid (fun he => by
        obtain ⟨q1, b, z, x, q2, q3⟩ := h3 he
        exact ⟨q1, b, z, x, q2, q3.sub (fun j hj _ => hj.1)⟩)
      have HRD := Lib.hid (And.intro (h4.keep (D' := fun k => D k ∨ g ≤ k) (fun j hj _ => hj.1) (fun _ _ _ => rfl)) h5)
      have HDD := Lib.hid hd
      clear hM hu hsz hD hpre hf hd h1 h2 h3 h4 h5
      gi_wp2
      refine ⟨by simp, .inl ⟨_, _, rfl, run_takeDeferred HDD.out, ?_⟩⟩
      obtain ⟨⟨e20, e21⟩, e30⟩ := HE.out
      replace e20 : (Wd.putObj Dd (.deferred none)).cell? ⟨g + 1 + 1, 0, none⟩ = some (.pointer p) := e20
      replace e21 : (Wd.putObj Dd (.deferred none)).cell? ⟨g + 1 + 1, 1, none⟩ = some (.int .u32 ln') := e21
      replace e30 : (Wd.putObj Dd (.deferred none)).cell? ⟨g + 1 + 1 + 1, 0, none⟩ = some (.int .i64 er') := e30
      refine ⟨.tuple #[.agg #[.pointer p, .int .u32 ln'], .int .i64 er'], by simp [results, Try.results26, go_sem, e20, e21, e30], ?_⟩
      exact ⟨⟨p, ln', er', rfl, HGD.out⟩, HRD.out⟩
  · obtain ⟨W5, hW5⟩ : ∃ W5, w4 = W5 := ⟨_, rfl⟩
    have HMK : Hid (0 ≤ mk ∧ mk ≤ 4294967295) := HOR
    rw [hW5] at HB4 HNB4 HCEL4 HMC HZ4 hw4 cm fm
    clear hW5 hm hmc hc2
    have HCEL5 := Lib.hid HCEL4.out
    obtain ⟨W6, hW6⟩ : ∃ W6, (W5.alloc (.cells #[.slice A2 M c2] 76)).alloc (.cells #[.int .i64 3] 3) = W6 := ⟨_, rfl⟩
    have HCH := chunk_any A2 M c2 3 (by omega) W5
    rw [HZ4.out] at HCH
    have hb6 : Below W5.heap.size W5 W6 := by rw [← hW6]; exact ((Below.refl _ _).alloc (Nat.le_refl _) _).alloc (by simp) _
    have hx1 : W6.heap[gm + 1]? = some (.cells #[.slice A2 M c2] 76 (0, 0)) := by
      rw [← hW6, Below.heap_alloc _ _ _ (by simp [HZ4.out]), ← HZ4.out]; exact heap_alloc_new _ _
    have hx2 : W6.heap[gm + 1 + 1]? = some (.cells #[.int .i64 3] 3 (0, 0)) := by
      have e : (W5.alloc (.cells #[.slice A2 M c2] 76)).heap.size = gm + 1 + 1 := by simp [HZ4.out]
      rw [← hW6, ← e]; exact heap_alloc_new _ _
    have hz6 : W6.heap.size = gm + 3 := by rw [← hW6]; simp [HZ4.out]
    have HCHH : Hid (Calls Try.prog 35 #[.slice A2 M c2, .int .i64 3] W5 fun e w' => e = .returned (.func (.func 43) #[] #[.pointer (some ⟨gm + 1, 0, none⟩), .pointer (some ⟨gm + 1 + 1, 0, none⟩)]) ∧ w' = W6) := Lib.hid (by rw [← hW6]; exact HCH)
    have HB6 := Lib.hid (HB4.out.trans (hb6.mono (by have := HZ4.out; have := HZ3.out; omega)))
    have HNB6 := Lib.hid (HNB4.out.on (hb6.mono (by have := HZ4.out; have := HZ3.out; omega)))
    have HCEL6 := Lib.hid ((HCEL5.out.below hb6).more (B' := gm + 3) (by have := HZ4.out; omega))
    have HMC6 := Lib.hid ((hb6.block gm (by have := HZ4.out; omega)).trans HMC.out)
    have HX6 := Lib.hid (And.intro hx1 hx2)
    have HZ6 := Lib.hid hz6
    have HGM : Hid (g + 4 ≤ gm) := HZ3
    have HWK := Lib.hid (chunk_walks0 A2 c2 M 3 m B (gm + 1) W6 (by rw [hz6]; have := HBG.out; have := HGM.out; omega) (by omega) HMm.out ⟨HC2.out.1, HC2.out.2, by have := HHM.out; omega⟩)
    clear hb6 hx1 hx2 hz6 HCH hW6
    gi_wp2_with (refine ⟨trivial, rfl, (callsIn_wide.2 HCHH.out).mono ?_⟩; rintro e W7 ⟨rfl, rfl⟩)
    clear HCHH cm fm
    refine rangeFunc_iterX (gf := 43) (lb := #[.pointer (some ⟨gm + 1, 0, none⟩), .pointer (some ⟨gm + 1 + 1, 0, none⟩)]) rfl (enters_of Try.func43 (by kernel_rfl) rfl) HWK.out (Below.refl _ _) (by rw [HZ6.out]; have := HBG.out; have := HGM.out; omega) (fun Wx j args h => by obtain rfl : args = _ := h; rfl) (gm + 3) (by rw [HZ6.out]; exact Nat.le_refl _) (fun _ => False) (fun k h => h.elim)
      (fun Mk pre Wx => Below (gm + 3) W7 Wx) (fun c Mk pre Wx => c = .ret ∧ NFin t B r g D w Mk Wx)
      (fun T T' s A C hs hB hT ht hst => hs.trans (ht.below hT hB)) (fun c T T' s A C hs hB hT ht hst => ⟨hs.1, hs.2.turn ht hT hB (by have := HRG.out; have := HGM.out; omega) (by have := HGM.out; omega) HBG.out (by rw [HBW0.out]; have := HGM.out; omega)⟩) (fun Mk s W1 h => ⟨(h.block _ (by omega)).trans HX6.out.1, (h.block _ (by omega)).trans HX6.out.2⟩) (Below.refl _ _) ?round ?done ?stop
    case round =>
      rintro l2 Mk pre j args Wr hM hu hsz hbn hI henc hpre
      obtain rfl : args = _ := henc
      have hjm : j < m := by
        have := hpre.subset (show j ∈ pre ++ [j] by simp)
        simpa using this
      have hj3 : j * 3 + 3 ≤ M := by rw [HMm.out]; omega
      gi_wp2
      refine ⟨hI, Kp.refl _ _ _, ?_⟩
      intro W3 hi3 ht3 hcl3 hfz3
      obtain ⟨eb, eo, eA, heb, hec⟩ := ((HCEL6.out.below hi3).chunk hj3).at_ (by omega)
      have hLl : L.length = M := by have := HML.out; rwa [List.length_map] at this
      have hv : ∀ i, i < 3 → ∃ v, W3.cell? ⟨eb, eo + i, none⟩ = some (.int .u32 v) ∧ 0 ≤ v ∧ v ≤ 4294967295 := fun i hi => by
        refine ⟨L[j * 3 + i]'(by omega), ?_, HRG2.out _ (List.getElem_mem _)⟩
        rw [hec i hi, List.getElem?_take_of_lt hi, List.getElem?_drop, List.getElem?_map, List.getElem?_eq_getElem (by omega)]
        rfl
      obtain ⟨v0, e0, _⟩ := hv 0 (by omega)
      obtain ⟨v1, e1, hv1⟩ := hv 1 (by omega)
      obtain ⟨v2, e2, hv2⟩ := hv 2 (by omega)
      rw [Nat.add_zero] at e0
      rw [eA]
      have HI3 := Lib.hid hi3
      have HEB : Hid (eb < W3.heap.size) := Lib.hid (by have := hi3.size; have := HZ6.out; omega)
      have HU3 := Lib.hid (ht3.ups hu (by have := HZ6.out; omega))
      have HV1 := Lib.hid hv1
      have HV2 := Lib.hid hv2
      have HS3 : Hid (gm + 3 ≤ W3.heap.size) := Lib.hid (by have := hi3.size; have := HZ6.out; omega)
      have l0 := (two_cells ((hi3.block (g + 1) (by have := HGM.out; omega)).trans HNB6.out.2.1)).2
      have l1 := one_cell14 ((hi3.block gm (by omega)).trans HMC6.out)
      have l2' := one_cell14 ((hi3.block g (by have := HGM.out; omega)).trans HNB6.out.1)
      have HEC := Lib.hid (And.intro e0 (And.intro e1 (And.intro e2 (And.intro l0 (And.intro l1 l2')))))
      clear hM hu hsz hbn hI hpre hjm hj3 hi3 ht3 hcl3 hfz3 hec hLl hv hv1 hv2 heb eA
      gi_wp2_with fail
      refine in_begin (S := fun W => W.cell? ⟨eb, eo, none⟩ = some (.int .u32 v0) ∧ W.cell? ⟨gm, 0, none⟩ = some (.int .u32 mk) ∧ W.cell? ⟨g + 1, 1, none⟩ = some (.int .u32 ln)) (by kernel_rfl) ⟨e0, l1, l0⟩ (fun hHeld => ?_)
      refine in_take 0 (fun _ => trivial) rfl (by kernel_rfl) (by kernel_rfl) (by kernel_rfl) (by kernel_rfl) (fun _ _ _ h => h) (by rfl) (by kernel_rfl) hHeld (v := ?_) (fun w hSw => ?_) (fun _ => ?_)
      rotate_left
      · ((try dsimp only at hSw); go_simp; (try with_reducible rfl))
      simp only [Act.put, List.setIfInBounds_toArray, List.set_cons_zero, List.set_cons_succ]
      refine in_take 1 (fun _ => trivial) rfl (by kernel_rfl) (by kernel_rfl) (by kernel_rfl) (by kernel_rfl) (fun _ _ _ h => h) (by rfl) (by kernel_rfl) hHeld (v := ?_) (fun w hSw => ?_) (fun _ => ?_)
      rotate_left
      · ((try dsimp only at hSw); go_simp; (try with_reducible rfl))
      simp only [Act.put, List.setIfInBounds_toArray, List.set_cons_zero, List.set_cons_succ]
      refine in_take 2 (fun _ => trivial) rfl (by kernel_rfl) (by kernel_rfl) (by kernel_rfl) (by kernel_rfl) (fun _ _ _ h => h) (by rfl) (by kernel_rfl) hHeld (v := ?_) (fun w hSw => ?_) (fun _ => ?_)
      rotate_left
      · ((try dsimp only at hSw); go_simp; (try with_reducible rfl))
      simp only [Act.put, List.setIfInBounds_toArray, List.set_cons_zero, List.set_cons_succ]
      refine in_take 3 (fun _ => trivial) rfl (by kernel_rfl) (by kernel_rfl) (by kernel_rfl) (by kernel_rfl) (fun _ _ _ h => h) (by rfl) (by kernel_rfl) hHeld (v := ?_) (fun w hSw => ?_) (fun _ => ?_)
      rotate_left
      · ((try dsimp only at hSw); go_simp; (try with_reducible rfl))
      simp only [Act.put, List.setIfInBounds_toArray, List.set_cons_zero, List.set_cons_succ]
      refine in_take 4 (fun _ => trivial) rfl (by kernel_rfl) (by kernel_rfl) (by kernel_rfl) (by kernel_rfl) (fun _ _ _ h => h) (by rfl) (by kernel_rfl) hHeld (v := ?_) (fun w hSw => ?_) (fun _ => ?_)
      rotate_left
      · ((try dsimp only at hSw); go_simp; (try with_reducible rfl))
      simp only [Act.put, List.setIfInBounds_toArray, List.set_cons_zero, List.set_cons_succ]
      refine in_take 5 (fun _ => trivial) rfl (by kernel_rfl) (by kernel_rfl) (by kernel_rfl) (by kernel_rfl) (fun _ _ _ h => h) (by rfl) (by kernel_rfl) hHeld (v := ?_) (fun w hSw => ?_) (fun _ => ?_)
      rotate_left
      · ((try dsimp only at hSw); go_simp; (try with_reducible rfl))
      simp only [Act.put, List.setIfInBounds_toArray, List.set_cons_zero, List.set_cons_succ]
      refine in_take 6 (fun _ => trivial) rfl (by kernel_rfl) (by kernel_rfl) (by kernel_rfl) (by kernel_rfl) (fun _ _ _ h => h) (by rfl) (by kernel_rfl) hHeld (v := ?_) (fun w hSw => ?_) (fun _ => ?_)
      rotate_left
      · ((try dsimp only at hSw); go_simp; (try with_reducible rfl))
      simp only [Act.put, List.setIfInBounds_toArray, List.set_cons_zero, List.set_cons_succ]
      refine in_take 7 (fun _ => trivial) rfl (by kernel_rfl) (by kernel_rfl) (by kernel_rfl) (by kernel_rfl) (fun _ _ _ h => h) (by rfl) (by kernel_rfl) hHeld (v := ?_) (fun w hSw => ?_) (fun _ => ?_)
      rotate_left
      · ((try dsimp only at hSw); go_simp; (try with_reducible rfl))
      simp only [Act.put, List.setIfInBounds_toArray, List.set_cons_zero, List.set_cons_succ]
      refine in_take 8 (fun _ => trivial) rfl (by kernel_rfl) (by kernel_rfl) (by kernel_rfl) (by kernel_rfl) (fun _ _ _ h => h) (by rfl) (by kernel_rfl) hHeld (v := ?_) (fun w hSw => ?_) (fun _ => ?_)
      rotate_left
      · ((try dsimp only at hSw); go_simp; (try with_reducible rfl))
      simp only [Act.put, List.setIfInBounds_toArray, List.set_cons_zero, List.set_cons_succ]
      refine in_take 9 (fun _ => trivial) rfl (by kernel_rfl) (by kernel_rfl) (by kernel_rfl) (by kernel_rfl) (fun _ _ _ h => h) (by rfl) (by kernel_rfl) hHeld (v := ?_) (fun w hSw => ?_) (fun _ => ?_)
      rotate_left
      · ((try dsimp only at hSw); go_simp; (try with_reducible rfl))
      simp only [Act.put, List.setIfInBounds_toArray, List.set_cons_zero, List.set_cons_succ]
      refine in_done (by kernel_rfl) ?_ _
      clear hHeld
      obtain ⟨q, hq⟩ : ∃ q, (bits BinOp.and IntKind.u32 v0 mk == bits BinOp.and IntKind.u32 ln mk) = q := ⟨_, rfl⟩
      rw [hq]
      clear hq e0 e1 e2 l0 l1 l2'
      cases q
      · gi_wp2
        exact ⟨⟨(Below.refl B W3).drew, fun _ _ => rfl⟩, HI3.out.drew⟩
      · have hbw3 : Below g w W3 := HB6.out.trans (HI3.out.mono (by have := HGM.out; omega))
        have HBW3 := Lib.hid hbw3
        have hrd3 : Rd W3.drew.drew B r t (fun k => D k ∧ k < g) := HR.out.keep (fun j h hl => ⟨h, by rw [HBW0.out] at hl; exact hl⟩) (fun j _ hl => hbw3.block j (by rw [HBW0.out] at hl; exact hl))
        have hne : eb ≠ r := by
          rintro rfl
          obtain ⟨_, own, er, hb, _⟩ := hrd3
          exact rbox_u32 hb _ _ HEC.out.2.1
        have CL := Lib.hid (find14_any t B r (fun k => D k ∧ k < g) v1 W3.drew.drew hrd3 (by have h1 := HS3.out; have h2 := HBG.out; have h3 := HGM.out; show B ≤ W3.heap.size; omega) (HIN.out.under ((hbw3.mono HBG.out).drew.drew)) HH.out HV1.out)
        have HNE := Lib.hid hne
        have e1 := HEC.out.2.1
        have l2' := HEC.out.2.2.2.2.2
        clear hbw3 hrd3 hne
        gi_wp2_with fail
        refine in_begin (S := fun W => W.cell? ⟨eb, eo + 1, none⟩ = some (.int .u32 v1) ∧ W.cell? ⟨g, 0, none⟩ = some (.pointer (some ⟨r, 0, none⟩))) (by kernel_rfl) ⟨e1, l2'⟩ (fun hHeld => ?_)
        clear e1 l2'
        refine in_take 0 (fun _ => trivial) rfl (by kernel_rfl) (by kernel_rfl) (by kernel_rfl) (by kernel_rfl) (fun _ _ _ h => h) (by rfl) (by kernel_rfl) hHeld (v := ?_) (fun w hSw => ?_) (fun _ => ?_)
        rotate_left
        · ((try dsimp only at hSw); go_simp; (try with_reducible rfl))
        simp only [Act.put, List.setIfInBounds_toArray, List.set_cons_zero, List.set_cons_succ]
        refine in_take 1 (fun _ => trivial) rfl (by kernel_rfl) (by kernel_rfl) (by kernel_rfl) (by kernel_rfl) (fun _ _ _ h => h) (by rfl) (by kernel_rfl) hHeld (v := ?_) (fun w hSw => ?_) (fun _ => ?_)
        rotate_left
        · ((try dsimp only at hSw); go_simp; (try with_reducible rfl))
        simp only [Act.put, List.setIfInBounds_toArray, List.set_cons_zero, List.set_cons_succ]
        refine in_take 2 (fun _ => trivial) rfl (by kernel_rfl) (by kernel_rfl) (by kernel_rfl) (by kernel_rfl) (fun _ _ _ h => h) (by rfl) (by kernel_rfl) hHeld (v := ?_) (fun w hSw => ?_) (fun _ => ?_)
        rotate_left
        · ((try dsimp only at hSw); go_simp; (try with_reducible rfl))
        simp only [Act.put, List.setIfInBounds_toArray, List.set_cons_zero, List.set_cons_succ]
        refine in_take 3 (fun _ => trivial) rfl (by kernel_rfl) (by kernel_rfl) (by kernel_rfl) (by kernel_rfl) (fun _ _ _ h => h) (by rfl) (by kernel_rfl) hHeld (v := ?_) (fun w hSw => ?_) (fun _ => ?_)
        rotate_left
        · ((try dsimp only at hSw); go_simp; (try with_reducible rfl))
        simp only [Act.put, List.setIfInBounds_toArray, List.set_cons_zero, List.set_cons_succ]
        refine in_call 4 (by kernel_rfl) rfl (by rfl) (fun K hK => ?_)
        refine ⟨fun _ _ => trivial, ?_⟩
        go_simp
        refine ⟨rfl, (CallsIn.inRound l2 (callsIn_wide.2 CL.out)).mono ?_⟩
        rintro e W4 ⟨⟨p, er, rfl, hgood⟩, hrd4, htn4⟩
        have hbk4 : ∀ k, k < gm + 3 → k ≠ r → W4.heap[k]? = W3.heap[k]? := fun k hk hkr => htn4.same k (by have := HS3.out; show k < W3.heap.size; omega) hkr
        have e1 : W4.cell? ⟨eb, eo + 1, none⟩ = some (.int .u32 v1) := (World.cell?_of_block (a := ⟨eb, eo + 1, none⟩) (htn4.same eb (HEB.out) HNE.out)).trans HEC.out.2.1
        have e2 : W4.cell? ⟨eb, eo + 2, none⟩ = some (.int .u32 v2) := (World.cell?_of_block (a := ⟨eb, eo + 2, none⟩) (htn4.same eb (HEB.out) HNE.out)).trans HEC.out.2.2.1
        have l2' : W4.cell? ⟨g, 0, none⟩ = some (.pointer (some ⟨r, 0, none⟩)) := (World.cell?_of_block (a := ⟨g, 0, none⟩) (hbk4 g (by have := HGM.out; omega) (by have := HRG.out; omega))).trans HEC.out.2.2.2.2.2
        have hq2 := (hbk4 (g + 2) (by have := HGM.out; omega) (by have := HRG.out; omega)).trans ((HI3.out.block (g + 2) (by have := HGM.out; omega)).trans HNB6.out.2.2.1)
        have hq3 := (hbk4 (g + 3) (by have := HGM.out; omega) (by have := HRG.out; omega)).trans ((HI3.out.block (g + 3) (by have := HGM.out; omega)).trans HNB6.out.2.2.2)
        have c20 : W4.cell? ⟨g + 1 + 1, 0, none⟩ = some (.pointer none) := (two_cells hq2).1
        have c21 : W4.cell? ⟨g + 1 + 1, 1, none⟩ = some (.int .u32 0) := (two_cells hq2).2
        have c30 : W4.cell? ⟨g + 1 + 1 + 1, 0, none⟩ = some (.int .i64 0) := one_cell14 hq3
        have f20 : W4.frozen? ⟨g + 1 + 1, 0, none⟩ = false := Lib.frozen_of_heap hq2 0
        have f21 : W4.frozen? ⟨g + 1 + 1, 1, none⟩ = false := Lib.frozen_of_heap hq2 1
        have f30 : W4.frozen? ⟨g + 1 + 1 + 1, 0, none⟩ = false := Lib.frozen_of_heap hq3 0
        obtain ⟨r2, r3, ro, rs, rb⟩ := nres_heap hq2 hq3 (.pointer p) (.int .u32 v2) (.int .i64 er)
        have hMk : ∀ k, ((D k ∧ k < g) ∨ W3.heap.size ≤ k) → (D k ∨ g ≤ k) ∧ ¬ Mk k := fun k hk => by
          have h1 := HGM.out
          have h2 := HS3.out
          rcases hk with ⟨h3, h4⟩ | h3
          · exact ⟨.inl h3, fun h => by have := (HU3.out k h).1; omega⟩
          · exact ⟨.inr (by omega), fun h => by have := (HU3.out k h).2; omega⟩
        have hro : ∀ k, ((D k ∧ k < g) ∨ W3.heap.size ≤ k) → k ≠ g + 2 ∧ k ≠ g + 3 := fun k hk => by
          have h1 := HGM.out
          have h2 := HS3.out
          rcases hk with ⟨_, h4⟩ | h3 <;> omega
        have HFIN : Hid (Kp B Mk W3 (((W4.setCell ⟨g + 2, 0, none⟩ (.pointer p)).setCell ⟨g + 2, 1, none⟩ (.int .u32 v2)).setCell ⟨g + 3, 0, none⟩ (.int .i64 er)) ∧ NFin t B r g D w Mk (((W4.setCell ⟨g + 2, 0, none⟩ (.pointer p)).setCell ⟨g + 2, 1, none⟩ (.int .u32 v2)).setCell ⟨g + 3, 0, none⟩ (.int .i64 er))) := Lib.hid (by
          have hB4 : Below B W3 W4 := (Below.refl B W3).drew.drew.trans htn4.below
          have hBr := HBG.out
          have h1 := HGM.out
          have h2 := HS3.out
          have h3 := HRG.out
          refine ⟨⟨hB4.trans (rb.mono (by omega)), fun k hk => ?_⟩, p, v2, er, r2, r3, fun he => ⟨HV2.out, ?_⟩, ?_, (HBW3.out.mono hBr).trans (hB4.trans (rb.mono (by omega))), fun k hk hkr => ?_⟩
          · obtain ⟨h4, h5⟩ := HU3.out k hk
            exact (ro k (by omega) (by omega)).trans (htn4.same k h5 (by omega))
          · obtain ⟨sb, sz, sx, e, hsp⟩ := hgood he
            exact ⟨sb, sz, sx, e, (hsp.keep (fun j hj _ => ro j (hro j hj).1 (hro j hj).2)).sub (fun j hj _ => hMk j hj)⟩
          · exact hrd4.keep (fun j hj _ => hMk j hj) (fun j hj _ => hj.elim (fun e => ro j (by omega) (by omega)) (fun hj => ro j (hro j hj).1 (hro j hj).2))
          · rw [HBW0.out] at hk
            exact (ro k (by omega) (by omega)).trans ((htn4.same k (by show k < W3.heap.size; omega) hkr).trans (HBW3.out.block k hk)))
        clear hgood hrd4 htn4 hbk4 hq2 hq3 r2 r3 ro rs rb hMk hro CL
        refine hK.out _ _ ⟨e1, l2'⟩ (fun hHeld => ?_)
        clear hK K
        refine in_take 5 (fun _ => trivial) rfl (by kernel_rfl) (by kernel_rfl) (by kernel_rfl) (by kernel_rfl) (fun _ _ _ h => h) (by rfl) (by kernel_rfl) hHeld (v := ?_) (fun w hSw => ?_) (fun _ => ?_)
        rotate_left
        · ((try dsimp only at hSw); go_simp; (try with_reducible rfl))
        simp only [Act.put, List.setIfInBounds_toArray, List.set_cons_zero, List.set_cons_succ]
        refine in_take 6 (fun _ => trivial) rfl (by kernel_rfl) (by kernel_rfl) (by kernel_rfl) (by kernel_rfl) (fun _ _ _ h => h) (by rfl) (by kernel_rfl) hHeld (v := ?_) (fun w hSw => ?_) (fun _ => ?_)
        rotate_left
        · ((try dsimp only at hSw); go_simp; (try with_reducible rfl))
        simp only [Act.put, List.setIfInBounds_toArray, List.set_cons_zero, List.set_cons_succ]
        refine in_take 7 (fun _ => trivial) rfl (by kernel_rfl) (by kernel_rfl) (by kernel_rfl) (by kernel_rfl) (fun _ _ _ h => h) (by rfl) (by kernel_rfl) hHeld (v := ?_) (fun w hSw => ?_) (fun _ => ?_)
        rotate_left
        · ((try dsimp only at hSw); go_simp; (try with_reducible rfl))
        simp only [Act.put, List.setIfInBounds_toArray, List.set_cons_zero, List.set_cons_succ]
        refine in_take 8 (fun _ => trivial) rfl (by kernel_rfl) (by kernel_rfl) (by kernel_rfl) (by kernel_rfl) (fun _ _ _ h => h) (by rfl) (by kernel_rfl) hHeld (v := ?_) (fun w hSw => ?_) (fun _ => ?_)
        rotate_left
        · ((try dsimp only at hSw); go_simp; (try with_reducible rfl))
        simp only [Act.put, List.setIfInBounds_toArray, List.set_cons_zero, List.set_cons_succ]
        refine in_take 9 (fun _ => trivial) rfl (by kernel_rfl) (by kernel_rfl) (by kernel_rfl) (by kernel_rfl) (fun _ _ _ h => h) (by rfl) (by kernel_rfl) hHeld (v := ?_) (fun w hSw => ?_) (fun _ => ?_)
        rotate_left
        · ((try dsimp only at hSw); go_simp; (try with_reducible rfl))
        simp only [Act.put, List.setIfInBounds_toArray, List.set_cons_zero, List.set_cons_succ]
        refine in_done (by kernel_rfl) ?_ _
        clear hHeld
        gi_wp2
        exact ⟨HFIN.out.1, rfl, HFIN.out.2⟩
    case done =>
      rintro Dd Mk Wd hM hu hsz hD hI hd
      have hgm4 := HGM.out
      have hDb := (hu Dd hD).1
      have hq2 := (hI.block (g + 2) (by omega)).trans HNB6.out.2.2.1
      have hq3 := (hI.block (g + 3) (by omega)).trans HNB6.out.2.2.2
      have c20 : Wd.cell? ⟨g + 1 + 1, 0, none⟩ = some (.pointer none) := (two_cells hq2).1
      have c21 : Wd.cell? ⟨g + 1 + 1, 1, none⟩ = some (.int .u32 0) := (two_cells hq2).2
      have c30 : Wd.cell? ⟨g + 1 + 1 + 1, 0, none⟩ = some (.int .i64 0) := one_cell14 hq3
      have f20 : Wd.frozen? ⟨g + 1 + 1, 0, none⟩ = false := Lib.frozen_of_heap hq2 0
      have f21 : Wd.frozen? ⟨g + 1 + 1, 1, none⟩ = false := Lib.frozen_of_heap hq2 1
      have f30 : Wd.frozen? ⟨g + 1 + 1 + 1, 0, none⟩ = false := Lib.frozen_of_heap hq3 0
      obtain ⟨r2, r3, ro, rs, rb⟩ := nres_heap hq2 hq3 (.pointer none) (.int .u32 0) (.int .i64 8)
      have HD2 := Lib.hid ((ro Dd (by omega) (by omega)).trans hd)
      have HE : Hid (((((((Wd.setCell ⟨g + 2, 0, none⟩ (.pointer none)).setCell ⟨g + 2, 1, none⟩ (.int .u32 0)).setCell ⟨g + 3, 0, none⟩ (.int .i64 8)).putObj Dd (.deferred none)).cell? ⟨g + 1 + 1, 0, none⟩ = some (.pointer none) ∧ ((((Wd.setCell ⟨g + 2, 0, none⟩ (.pointer none)).setCell ⟨g + 2, 1, none⟩ (.int .u32 0)).setCell ⟨g + 3, 0, none⟩ (.int .i64 8)).putObj Dd (.deferred none)).cell? ⟨g + 1 + 1, 1, none⟩ = some (.int .u32 0)) ∧ ((((Wd.setCell ⟨g + 2, 0, none⟩ (.pointer none)).setCell ⟨g + 2, 1, none⟩ (.int .u32 0)).setCell ⟨g + 3, 0, none⟩ (.int .i64 8)).putObj Dd (.deferred none)).cell? ⟨g + 1 + 1 + 1, 0, none⟩ = some (.int .i64 8)) ∧
          Rd ((((Wd.setCell ⟨g + 2, 0, none⟩ (.pointer none)).setCell ⟨g + 2, 1, none⟩ (.int .u32 0)).setCell ⟨g + 3, 0, none⟩ (.int .i64 8)).putObj Dd (.deferred none)) B r t (fun k => D k ∨ g ≤ k) ∧ Tn B r w ((((Wd.setCell ⟨g + 2, 0, none⟩ (.pointer none)).setCell ⟨g + 2, 1, none⟩ (.int .u32 0)).setCell ⟨g + 3, 0, none⟩ (.int .i64 8)).putObj Dd (.deferred none))) := Lib.hid (by
        generalize ((Wd.setCell ⟨g + 2, 0, none⟩ (.pointer none)).setCell ⟨g + 2, 1, none⟩ (.int .u32 0)).setCell ⟨g + 3, 0, none⟩ (.int .i64 8) = We at r2 r3 ro rs rb ⊢
        have pt : ∀ k, k ≠ Dd → (We.putObj Dd (.deferred none)).heap[k]? = We.heap[k]? := fun k hk => World.putObj_heap_other hk
        have hbe : Below g w (We.putObj Dd (.deferred none)) := (HB6.out.trans (hI.mono (by omega))).trans ((rb.mono (by omega)).trans ⟨rfl, rfl, rfl, by simp, fun k hk => pt k (by omega)⟩)
        exact ⟨⟨two_cells ((pt (g + 2) (by omega)).trans r2), one_cell14 ((pt (g + 3) (by omega)).trans r3)⟩, fin_rd HR.out HBW0.out HBG.out hbe⟩)
      clear hM hu hsz hD hI hd hgm4 hDb hq2 hq3 r2 r3 ro rs rb
      gi_wp2
      refine ⟨by simp, .inl ⟨_, _, rfl, run_takeDeferred HD2.out, ?_⟩⟩
      obtain ⟨⟨⟨e20, e21⟩, e30⟩, _⟩ := HE.out
      refine ⟨.tuple #[.agg #[.pointer none, .int .u32 0], .int .i64 8], by simp [results, Try.results26, go_sem, e20, e21, e30], ?_⟩
      exact ⟨⟨none, 0, 8, rfl, fun h => by cases h⟩, HE.out.2⟩
    case stop =>
      rintro Dd c Mk pre Wd hM hu hsz hD hpre ⟨rfl, hf⟩ hd
      have hf2 := hf.turn (Turn.putObj Wd hD (.deferred none)) hu (by have := HZ6.out; omega) (by have := HRG.out; have := HGM.out; omega) (by have := HGM.out; omega) HBG.out (by rw [HBW0.out]; have := HGM.out; omega)
      obtain ⟨p, ln', er', h1, h2, h3, h4, h5⟩ := hf2
      have HE := Lib.hid (And.intro (two_cells h1) (one_cell14 h2))
      have HGD : Hid (er' = 0 → (0 ≤ ln' ∧ ln' ≤ 4294967295) ∧ ∃ b z x, p = some ⟨b, 0, none⟩ ∧ Spot (Wd.putObj Dd (.deferred none)) t.root (fun k => D k ∨ g ≤ k) b z x) := Lib.hid (fun he => by
        obtain ⟨q1, b, z, x, q2, q3⟩ := h3 he
        exact ⟨q1, b, z, x, q2, q3.sub (fun j hj _ => hj.1)⟩)
      have HRD := Lib.hid (And.intro (h4.keep (D' := fun k => D k ∨ g ≤ k) (fun j hj _ => hj.1) (fun _ _ _ => rfl)) h5)
      have HDD := Lib.hid hd
      clear hM hu hsz hD hpre hf hd h1 h2 h3 h4 h5
      gi_wp2
      refine ⟨by simp, .inl ⟨_, _, rfl, run_takeDeferred HDD.out, ?_⟩⟩
      obtain ⟨⟨e20, e21⟩, e30⟩ := HE.out
      replace e20 : (Wd.putObj Dd (.deferred none)).cell? ⟨g + 1 + 1, 0, none⟩ = some (.pointer p) := e20
      replace e21 : (Wd.putObj Dd (.deferred none)).cell? ⟨g + 1 + 1, 1, none⟩ = some (.int .u32 ln') := e21
      replace e30 : (Wd.putObj Dd (.deferred none)).cell? ⟨g + 1 + 1 + 1, 0, none⟩ = some (.int .i64 er') := e30
      refine ⟨.tuple #[.agg #[.pointer p, .int .u32 ln'], .int .i64 er'], by simp [results, Try.results26, go_sem, e20, e21, e30], ?_⟩
      exact ⟨⟨p, ln', er', rfl, HGD.out⟩, HRD.out⟩
end Go.Proofs.Ytapfcbcojnplaaa
