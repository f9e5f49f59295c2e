/-
  Layer 14: the program's find.
-/
import Derived.Test.YtapfcbcojnplaaaIAdd
import Derived.Test.YtapfcbcojnplaaaRMost
import Derived.WalkSpells
namespace Go.Proofs.Ytapfcbcojnplaaa
open Go.RowKit
set_option linter.unusedVariables false
set_option linter.unusedSimpArgs false

/-- What find answers: a spot, or an error. -/
def FOut (w' : World) (R : Nd) (D : Nat → Prop) (e : Ending) : Prop := ∃ p er, e = .returned (.tuple #[.pointer p, .int .i64 er]) ∧ (er = 0 → ∃ b z x, p = some ⟨b, 0, none⟩ ∧ Spot w' R D b z x)
theorem rbox_wrong {w : World} {r : Nat} {t : Tr} {own : Option Nat} {er : Int} (h : w.heap[r]? = some (rbox t own er)) (e : Int) : (w.setCell ⟨r, 6, none⟩ (.int .i64 e)).heap[r]? = some (rbox t own e) := by
  simp [World.setCell, Array.getElem?_modify, h, rbox]
theorem rbox_own {w : World} {r : Nat} {t : Tr} {own : Option Nat} {er : Int} (h : w.heap[r]? = some (rbox t own er)) (o : Option Nat) : (w.setCell ⟨r, 5, none⟩ (.map o)).heap[r]? = some (rbox t o er) := by
  simp [World.setCell, Array.getElem?_modify, h, rbox]
theorem rbox_frozen {w : World} {r : Nat} {t : Tr} {own : Option Nat} {er : Int} (h : w.heap[r]? = some (rbox t own er)) (j : Nat) : w.frozen? ⟨r, j, none⟩ = false := by
  unfold rbox at h
  exact Lib.frozen_of_heap h j
set_option maxRecDepth 20000 in
set_option maxHeartbeats 4000000 in
theorem find14_any (t : Tr) (B r : Nat) (D : Nat → Prop) (h : Int) (w : World) (hr : Rd w B r t D) (hB : B ≤ w.heap.size) (hin : t.In w B) (hh : heftN t.root ≤ 134217728) (h0 : 0 ≤ h ∧ h ≤ 4294967295) :
    Calls Try.prog 29 #[.pointer (some ⟨r, 0, none⟩), .int .u32 h] w fun e w' => FOut w' t.root (fun k => D k ∨ w.heap.size ≤ k) e ∧ Rd w' B r t (fun k => D k ∨ w.heap.size ≤ k) ∧ Tn B r w w' := by
  have HRD0 := Lib.hid hr
  have HH0 := Lib.hid h0
  have hlt := hr.lt
  obtain ⟨hBr, own, er, hrb, hown⟩ := hr
  have HRB0 := Lib.hid hrb
  have HBr := Lib.hid hBr
  have HB := Lib.hid hB
  rcases own with _ | g
  · have CM := Lib.hid (mostOK t w (hin.more hB) hh)
    have CO := Lib.hid (fun W (hW : Below B w W) (hs : B ≤ W.heap.size) => owners_any t W ((hin.under hW).more hs) hh)
    obtain ⟨⟨b0, b1, b2, b3, b4⟩, b5, b6⟩ := rbox_cells hrb
    have hmn : ∀ W : World, (binOp .eql 47 (.map none) (.map none)).run Try.prog W = .ok (.bool true) W := fun W => run_eql_map_nil W _ _ _ none Try.underlying47
    obtain ⟨RT, hRT⟩ : ∃ RT, t.root = RT := ⟨_, rfl⟩
    rw [hRT] at CO
    generalize (refsOf t.root).2 = e1 at *
    generalize mostOf t.root = m1 at *
    obtain ⟨boot, ra, rc, rs, ⟨nm, pa, pc, ps, ka, kc, ks⟩⟩ := t
    simp only [Tr.val, Tr.rv, Nd.val, Nd.pv, Nd.kv, Nd.name, Nd.pa, Nd.pc, Nd.props, Nd.ka, Nd.kc, Nd.kids] at CM CO b0 b1 b2 b3 b4
    obtain ⟨TT, hTT⟩ : ∃ TT, Tr.mk boot ra rc rs (Nd.mk nm pa pc ps ka kc ks) = TT := ⟨_, rfl⟩
    have HCL : Hid (∀ (W : World) (o : Option Nat) (x : Int), W.heap[r]? = some (rbox TT o x) → (W.cell? ⟨r, 0, none⟩ = some (.int .u32 boot) ∧ W.cell? ⟨r, 1, none⟩ = some (.slice ra rs.length rc) ∧ W.cell? ⟨r, 2, none⟩ = some (.string nm) ∧ W.cell? ⟨r, 3, none⟩ = some (.slice pa ps.length pc) ∧ W.cell? ⟨r, 4, none⟩ = some (.slice ka ks.length kc))) := Lib.hid (fun W o x hW => by
      rw [← hTT] at hW
      exact (rbox_cells hW).1)
    rw [hTT] at HRB0 HRD0 hRT ⊢
    rw [← hRT] at CO
    clear hRT
    clear hTT hin hrb hown h0 hlt hBr hB b5 b6
    obtain ⟨_, b5, _⟩ := rbox_cells HRB0.out
    go_enter Try.func29, Try.ntmps29
    go_wp2_with fail
    refine CM.out.mono ?_
    rintro e w1 ⟨rfl, hb1⟩
    have hrb1 := (hb1.block r HRD0.out.lt).trans HRB0.out
    have f6 := rbox_frozen hrb1 6
    obtain ⟨_, _, b6⟩ := rbox_cells hrb1
    obtain ⟨w2, hw2⟩ : ∃ w2, w1.setCell ⟨r, 6, none⟩ (.int .i64 e1) = w2 := ⟨_, rfl⟩
    have hrb2 : w2.heap[r]? = some (rbox TT none e1) := by rw [← hw2]; exact rbox_wrong hrb1 e1
    have hb2 : Below B w w2 := by rw [← hw2]; exact (hb1.mono HB.out).setCell (p := ⟨r, 6, none⟩) HBr.out _
    have hs2 : w2.heap.size = w1.heap.size := by rw [← hw2]; simp
    have ho2 : ∀ k, k ≠ r → w2.heap[k]? = w1.heap[k]? := fun k hk => by rw [← hw2]; exact Below.heap_setCell _ _ _ _ hk
    have HB1 := Lib.hid hb1
    have HRB2 := Lib.hid hrb2
    have HB2 := Lib.hid hb2
    have HS2 := Lib.hid (And.intro hs2 ho2)
    clear hb1 hrb1 hrb2 hb2 hs2 ho2 b0 b1 b2 b3 b4 b5 CM
    obtain ⟨b0, b1, b2, b3, b4⟩ := HCL.out w2 _ _ HRB2.out
    go_wp2_with fail
    clear hw2 f6 b6
    refine (CO.out w2 HB2.out (by have h1 := HS2.out.1; have h2 := HB1.out.size; have h3 := HB.out; omega)).mono ?_
    rintro e w3 ⟨g, rfl, hg, hmz3, hb3⟩
    have hrb3 := (hb3.block r (Array.getElem?_eq_some_iff.1 HRB2.out).1).trans HRB2.out
    have f5 := rbox_frozen hrb3 5
    obtain ⟨_, b5, _⟩ := rbox_cells hrb3
    obtain ⟨w4, hw4⟩ : ∃ w4, w3.setCell ⟨r, 5, none⟩ (.map (some g)) = w4 := ⟨_, rfl⟩
    have hgr : g ≠ r := by have h1 := (Array.getElem?_eq_some_iff.1 HRB2.out).1; omega
    have hrb4 : w4.heap[r]? = some (rbox TT (some g) e1) := by rw [← hw4]; exact rbox_own hrb3 (some g)
    have ho4 : ∀ k, k ≠ r → w4.heap[k]? = w3.heap[k]? := fun k hk => by rw [← hw4]; exact Below.heap_setCell _ _ _ _ hk
    have hs4 : w4.heap.size = w3.heap.size := by rw [← hw4]; simp
    have hw2s : w.heap.size ≤ w2.heap.size := by have h1 := HS2.out.1; have h2 := HB1.out.size; omega
    have hmz4 : MZ w4 TT.root (fun k => D k ∨ w.heap.size ≤ k) g (heftN TT.root) := hmz3.keep (ho4 g hgr) (fun j h _ => .inr (Nat.le_trans hw2s h)) (fun j h _ => ho4 j (fun e => by
      have h1 := (Array.getElem?_eq_some_iff.1 HRB2.out).1
      have h2 : w2.heap.size ≤ j := h
      omega))
    have hb4 : Below B w w4 := by
      rw [← hw4]
      exact (HB2.out.trans (hb3.mono (by have h1 := HS2.out.1; have h2 := HB1.out.size; have h3 := HB.out; omega))).setCell (p := ⟨r, 5, none⟩) HBr.out _
    have HMZ := Lib.hid hmz4
    have HRB := Lib.hid hrb4
    have HRD : Hid (Rd w4 B r TT (fun k => D k ∨ w.heap.size ≤ k)) := Lib.hid ⟨HBr.out, some g, e1, hrb4, fun g' e => by cases e; refine ⟨⟨?_, .inr (Nat.le_trans hw2s hg)⟩, _, hmz4⟩; have h1 := HS2.out.1; have h2 := HB1.out.size; have h3 := HB.out; omega⟩
    have HTN : Hid (Tn B r w w4) := Lib.hid ⟨hb4, fun k hk hkr => by
      have h1 := HB1.out.size
      rw [ho4 k hkr, hb3.block k (by have := HS2.out.1; omega), HS2.out.2 k hkr]
      exact HB1.out.block k hk⟩
    have HBWW : Hid (B ≤ w4.heap.size) := Lib.hid (Nat.le_trans HB.out hb4.size)
    clear hg hmz3 hb3 hrb3 hgr hrb4 ho4 hs4 hmz4 hb4 hw2s b0 b1 b2 b3 b4 CO HCL
    obtain ⟨v, rr, rl, hg1, hg2⟩ := HMZ.out.look HH0.out
    obtain ⟨_, c5, c6⟩ := rbox_cells HRB.out
    by_cases he : e1 = 0
    rotate_left
    · have q1 : (e1 != 0) = true := by rw [bne_iff_ne]; exact he
      have HE := Lib.hid he
      clear he hg1 hg2 rl
      go_wp2_with fail
      go_quiet (fail)
      go_wp2
      go_ret2
      exact ⟨⟨none, _, rfl, fun h => absurd h HE.out⟩, Rd.on HRD.out (by exact ⟨rfl, rfl, rfl, Nat.le_refl _, fun _ _ => rfl⟩), HTN.out.trans (Tn.of_below ⟨rfl, rfl, rfl, Nat.le_refl _, fun _ _ => rfl⟩ HBWW.out)⟩
    subst he
    cases rr
    · obtain rfl := hg2 rfl
      clear hg1 hg2
      go_wp2
      go_ret2
      exact ⟨⟨none, _, rfl, fun h => by cases h⟩, HRD.out, HTN.out⟩
    · obtain ⟨bb, zz, xx, rfl, hsp⟩ := hg1 rfl
      have HSP := Lib.hid hsp
      clear hg1 hg2 hsp
      go_wp2
      go_ret2
      exact ⟨⟨_, _, rfl, fun _ => ⟨bb, zz, xx, rfl, HSP.out⟩⟩, HRD.out, HTN.out⟩
  · obtain ⟨hBg, n, hmz⟩ := hown g rfl
    have HMZ := Lib.hid (hmz.keep (D' := fun k => D k ∨ w.heap.size ≤ k) rfl (fun j h _ => .inl h) (fun _ _ _ => rfl))
    have HRB := HRB0
    have HRD := Lib.hid (HRD0.out.keep (D' := fun k => D k ∨ w.heap.size ≤ k) (fun j h _ => .inl h) (fun _ _ _ => rfl))
    have HTN := Lib.hid (Tn.refl B r w)
    have HBWW := HB
    clear hrb hown hmz hBg hin hh h0 hlt hBr hB
    have hmn : ∀ W : World, (binOp .eql 47 (.map (some g)) (.map none)).run Try.prog W = .ok (.bool false) W := fun W => run_eql_map_nil W _ _ _ (some g) Try.underlying47
    go_enter Try.func29, Try.ntmps29
    obtain ⟨v, rr, rl, hg1, hg2⟩ := HMZ.out.look HH0.out
    obtain ⟨_, c5, c6⟩ := rbox_cells HRB.out
    by_cases he : er = 0
    rotate_left
    · have q1 : (er != 0) = true := by rw [bne_iff_ne]; exact he
      have HE := Lib.hid he
      clear he hg1 hg2 rl
      go_wp2_with fail
      go_quiet (fail)
      go_wp2
      go_ret2
      exact ⟨⟨none, _, rfl, fun h => absurd h HE.out⟩, Rd.on HRD.out (by exact ⟨rfl, rfl, rfl, Nat.le_refl _, fun _ _ => rfl⟩), HTN.out.trans (Tn.of_below ⟨rfl, rfl, rfl, Nat.le_refl _, fun _ _ => rfl⟩ HBWW.out)⟩
    subst he
    cases rr
    · obtain rfl := hg2 rfl
      clear hg1 hg2
      go_wp2
      go_ret2
      exact ⟨⟨none, _, rfl, fun h => by cases h⟩, HRD.out, HTN.out⟩
    · obtain ⟨bb, zz, xx, rfl, hsp⟩ := hg1 rfl
      have HSP := Lib.hid hsp
      clear hg1 hg2 hsp
      go_wp2
      go_ret2
      exact ⟨⟨_, _, rfl, fun _ => ⟨bb, zz, xx, rfl, HSP.out⟩⟩, HRD.out, HTN.out⟩
end Go.Proofs.Ytapfcbcojnplaaa
