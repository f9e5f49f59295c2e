/-
  Layer 11: the program's Shift: whatever it is asked, it answers some tree, as great as the overlay, or an error; nothing that was there has turned.
-/
import Derived.Test.YtihlpcbebpnmkaaGreatDoorBase5
import Derived.Test.YtihlpcbebpnmkaaGreatDoorZSpot
import Derived.Test.YtihlpcbebpnmkaaGreatDoorZLocal
import Derived.Test.YtihlpcbebpnmkaaGreatDoorRMost
import Derived.Test.YtihlpcbebpnmkaaGreatDoorBase8
import Derived.Test.YtihlpcbebpnmkaaGreatDoorBase11
namespace Go.Proofs.YtihlpcbebpnmkaaGreatDoor
open Go.RowKit
set_option linter.unusedVariables false
set_option linter.unusedSimpArgs false
attribute [local go_sem ↓] Go.wp_at_zero Go.wp_at_succ

theorem Like.at {Q : Nat → Prop} : ∀ (n : Nd) {m : Nd}, Like n m → n.At Q → m.At Q :=
  Nd.ind (p := fun n => ∀ {m : Nd}, Like n m → n.At Q → m.At Q) (fun n ih m h a => by
    obtain ⟨h1, ⟨h2, h3, h4, h5⟩, h6, h7, h8, h9⟩ := h.parts
    obtain ⟨a1, a2, a3, a4⟩ := a.parts
    refine .mk m (fun h0 b o e => a1 (by omega) b o (h2 ▸ e)) (fun p hp => ?_) (fun h0 b o e => a3 (by omega) b o (h4 ▸ e)) (fun k hk => ?_)
    · obtain ⟨i, hi, rfl⟩ := List.getElem_of_mem hp
      have hi' : i < n.props.length := by omega
      obtain ⟨q1, q2, q3, q4⟩ := h8 i hi' hi
      intro h0 b o e
      exact a2 _ (List.getElem_mem hi') (by omega) b o (q2 ▸ e)
    · obtain ⟨i, hi, rfl⟩ := List.getElem_of_mem hk
      have hi' : i < n.kids.length := by omega
      exact ih _ (List.getElem_mem hi') (h9 i hi' hi) (a4 _ (List.getElem_mem hi')))
/-- No tree. -/
def zeroT : Tr := ⟨0, none, 0, [], .mk ⟨#[]⟩ none 0 [] none 0 []⟩
theorem zeroT_in (w : World) (B : Nat) : zeroT.In w B :=
  ⟨⟨by show (0 : Int) ≤ 0; decide, by show (0 : Int) ≤ _; decide⟩, ⟨by simp [zeroT], by simp [zeroT], by simp [zeroT]⟩, fun h => absurd h (by simp [zeroT]), fun r h => by simp [zeroT] at h,
    .mk _ ⟨by show (0 : Nat) ≤ _; omega, by simp [zeroT, Nd.props], by simp [zeroT, Nd.kids]⟩ (by simp [zeroT, Nd.props, Nd.pc]) (by simp [zeroT, Nd.pc]) (by simp [zeroT, Nd.kids, Nd.kc]) (by simp [zeroT, Nd.kc]) (fun h => absurd h (by simp [zeroT, Nd.props])) (fun p h => by simp [zeroT, Nd.props] at h) (fun h => absurd h (by simp [zeroT, Nd.kids])) (fun p h => by simp [zeroT, Nd.kids] at h)⟩
theorem zeroT_heft : heftN zeroT.root = 16 := by simp [zeroT, heftN, heftL]; rfl
theorem heft_16 (n : Nd) : 16 ≤ heftN n := by rw [heftN_mk]; omega
theorem zeroT_val : zeroT.val = .agg #[.int .u32 0, .slice none 0 0, .string ⟨#[]⟩, .slice none 0 0, .slice none 0 0] := rfl
/-- Five cells of a box are written. -/
theorem box5 {V : World} {g : Nat} {a0 a1 a2 a3 a4 : Value} {T : TypeId} (h : V.heap[g]? = some (.cells #[a0, a1, a2, a3, a4] T (0, 0))) (v0 v1 v2 v3 v4 : Value) (Wf : World)
    (hW : ((((V.setCell ⟨g, 0, none⟩ v0).setCell ⟨g, 1, none⟩ v1).setCell ⟨g, 2, none⟩ v2).setCell ⟨g, 3, none⟩ v3).setCell ⟨g, 4, none⟩ v4 = Wf) :
    (Wf.cell? ⟨g, 0, none⟩ = some v0 ∧ Wf.cell? ⟨g, 1, none⟩ = some v1 ∧ Wf.cell? ⟨g, 2, none⟩ = some v2 ∧ Wf.cell? ⟨g, 3, none⟩ = some v3 ∧ Wf.cell? ⟨g, 4, none⟩ = some v4) ∧ Chg (fun q => q = g) V Wf ∧ Wf.heap[g]? = some (.cells #[v0, v1, v2, v3, v4] T (0, 0)) := by
  have hb := heap_setCell_same _ g 4 _ _ v4 (heap_setCell_same _ g 3 _ _ v3 (heap_setCell_same _ g 2 _ _ v2 (heap_setCell_same _ g 1 _ _ v1 (heap_setCell_same _ g 0 _ _ v0 h))))
  rw [hW] at hb
  replace hb : Wf.heap[g]? = some (.cells #[v0, v1, v2, v3, v4] T (0, 0)) := hb
  refine ⟨tree_box hb, ?_, hb⟩
  rw [← hW]
  exact (((((Chg.refl (fun q => q = g) V).setCell (a := ⟨g, 0, none⟩) (.inl rfl) v0).setCell (a := ⟨g, 1, none⟩) (.inl rfl) v1).setCell (a := ⟨g, 2, none⟩) (.inl rfl) v2).setCell (a := ⟨g, 3, none⟩) (.inl rfl) v3).setCell (a := ⟨g, 4, none⟩) (.inl rfl) v4
theorem kidIdx (l : List ByteArray) (s : ByteArray) : -1 ≤ idxOf l s ∧ idxOf l s < l.length := by
  induction l with
  | nil => simp [idxOf]
  | cons x l ih =>
    rw [idxOf]
    simp only [List.length_cons]
    split
    · omega
    · split <;> omega

/-- The tree c of the call's own, in memory where bytes may have been written since W3. -/
structure TreeAt (D Q : Nat → Prop) (lo : Nat) (c : Tr) (V : World) : Prop where
  lies : Lies V D c.root
  at_ : c.root.At Q
  low : ∀ g, Q g → lo ≤ g
  res : RRow V V.heap.size c.ra c.rs
  hR : 0 < c.rs.length → ∀ b o, c.ra = some ⟨b, o, none⟩ → lo ≤ b ∧ ¬ D b
  boot : 0 ≤ c.boot ∧ c.boot ≤ 4294967295
  len : c.rs.length ≤ c.rc ∧ c.rc ≤ 9223372036854775807 ∧ c.rs.length * 16 ≤ 140737488351232
  nums : ∀ r ∈ c.rs, (0 ≤ r.1 ∧ r.1 ≤ 18446744073709551615) ∧ (0 ≤ r.2 ∧ r.2 ≤ 18446744073709551615)
theorem TreeAt.wrote {D Q : Nat → Prop} {lo : Nat} {c : Tr} {V V' : World} (h : TreeAt D Q lo c V) (k : Wrote D V V') : TreeAt D Q lo c V' :=
  ⟨h.lies.wrote k, h.at_, h.low, fun h0 => by
    obtain ⟨b, o, e, hb, hc⟩ := h.res h0
    have hn := (h.hR h0 b o e).2
    exact ⟨b, o, e, Nat.lt_of_lt_of_le hb k.size, fun i hi => ⟨(k.chg.cell (a := ⟨b, o + i * 2, none⟩) hb hn).trans (hc i hi).1, (k.chg.cell (a := ⟨b, o + i * 2 + 1, none⟩) hb hn).trans (hc i hi).2⟩⟩, h.hR, h.boot, h.len, h.nums⟩
/-- A tree's memory from lo on. -/
structure UpT (lo : Nat) (x : Tr) : Prop where
  res : 0 < x.rs.length → ∀ b o, x.ra = some ⟨b, o, none⟩ → lo ≤ b
  root : x.root.At (fun g => lo ≤ g)
theorem UpT.low {lo lo' : Nat} {x : Tr} (h : UpT lo x) (hl : lo' ≤ lo) : UpT lo' x := ⟨fun h0 b o e => Nat.le_trans hl (h.res h0 b o e), Nd.At.mono (fun g hg => Nat.le_trans hl hg) h.root⟩
theorem UpT.chg {lo : Nat} {x : Tr} {E : Nat → Prop} {V Wf : World} (h : UpT lo x) (hin : x.In V V.heap.size) (hc : Chg E V Wf) (hE : ∀ g, E g → g < lo) : x.In Wf Wf.heap.size := by
  refine ⟨hin.boot, hin.len, fun h0 => ?_, hin.nums, hin.root.chg h.root hc (fun g hg e => by have h2 := hE g e; omega)⟩
  obtain ⟨b, o, e, hb, hcc⟩ := hin.row h0
  have hn := h.res h0 b o e
  have hne : ¬ E b := fun e => by have := hE b e; omega
  exact ⟨b, o, e, Nat.lt_of_lt_of_le hb hc.size, fun i hi => ⟨(hc.cell (a := ⟨b, o + i * 2, none⟩) hb hne).trans (hcc i hi).1, (hc.cell (a := ⟨b, o + i * 2 + 1, none⟩) hb hne).trans (hcc i hi).2⟩⟩
/-- What it is in the end, when a box below it has been written. -/
theorem TreeAt.done {D Q E : Nat → Prop} {lo : Nat} {c : Tr} {V Wf : World} (h : TreeAt D Q lo c V) (hc : Chg E V Wf) (hE : ∀ g, E g → g < lo) : ∃ x : Tr, x.val = c.val ∧ x.In Wf Wf.heap.size ∧ heftN x.root = heftN c.root ∧ UpT lo x := by
  obtain ⟨m, hm, hl⟩ := h.lies.in_
  have hat := Like.at _ hl h.at_
  have hup : UpT lo ⟨c.boot, c.ra, c.rc, c.rs, m⟩ := ⟨fun h0 b o e => (h.hR h0 b o e).1, Nd.At.mono (fun g hg => h.low g hg) hat⟩
  refine ⟨⟨c.boot, c.ra, c.rc, c.rs, m⟩, ?_, hup.chg ⟨h.boot, h.len, h.res, h.nums, hm⟩ hc hE, Like.heft _ hl, hup⟩
  show Value.agg #[.int .u32 c.boot, .slice c.ra c.rs.length c.rc, .string m.name, m.pv, m.kv] = Value.agg #[.int .u32 c.boot, c.rv, .string c.root.name, c.root.pv, c.root.kv]
  rw [hl.parts.1, hl.pv, hl.kv]
  rfl
theorem OwnT.treeAt {w : World} {B : Nat} {F D : Nat → Prop} {c : Tr} (h : OwnT w B F D c) (hh : heftN c.root ≤ 1099511627776) : TreeAt D (fun g => F g ∨ D g) B c w :=
  ⟨h.lies (by rw [← heft_hp]; exact hh), h.own.at_, fun g hg => hg.elim (fun e => (h.hF g e).1) (fun e => (h.hD g e).1), h.res, fun h0 b o e => ⟨(h.hR h0 b o e).1, (h.hR h0 b o e).2.2⟩, h.boot, h.len, h.nums⟩
theorem zeroT_up (lo : Nat) : UpT lo zeroT := ⟨fun h => absurd h (by simp [zeroT]), .mk _ (fun h => absurd h (by simp [zeroT, Nd.props])) (fun p h => by simp [zeroT, Nd.props] at h) (fun h => absurd h (by simp [zeroT, Nd.kids])) (fun p h => by simp [zeroT, Nd.kids] at h)⟩
/-- What Shift, and Fix, answer. -/
def TreeOut (w : World) (H : Nat) (e : Ending) (w' : World) : Prop := (∃ (x : Tr) (er : Int), e = .returned (.tuple #[x.val, .int .i64 er]) ∧ x.In w' w'.heap.size ∧ heftN x.root ≤ H ∧ UpT w.heap.size x) ∧ Below w.heap.size w w'
theorem treeOut_zero {w V Wf : World} {g H : Nat} (h16 : 16 ≤ H) (er : Int) (hb : Below w.heap.size w V) (hc : Chg (fun q => q = g) V Wf) (hg : w.heap.size ≤ g) : TreeOut w H (.returned (.tuple #[.agg #[.int .u32 0, .slice none 0 0, .string ⟨#[]⟩, .slice none 0 0, .slice none 0 0], .int .i64 er])) Wf :=
  ⟨⟨zeroT, er, rfl, zeroT_in _ _, by rw [zeroT_heft]; exact h16, zeroT_up _⟩, hb.trans (hc.below hb.size (fun q e => by omega))⟩

set_option maxRecDepth 20000 in
set_option maxHeartbeats 8000000 in
theorem shift_any (u : Tr) (v : Int) (w : World) (hin : u.In w w.heap.size) (hh : heftN u.root ≤ 134217728) (hv : 0 ≤ v ∧ v ≤ 4294967295) :
    Calls Tryz.prog 23 #[u.val, .int .u32 v] w (TreeOut w (heftN u.root)) := by
  have HI := Lib.hid hin
  have HH := Lib.hid hh
  have HV := Lib.hid hv
  have CM := Lib.hid (fun W h => mostOK u W h hh)
  have CC := Lib.hid (fun W h => clone_own u W h)
  have CK := Lib.hid (fun (W : World) (h : u.root.In W W.heap.size) => kid_any u.root ⟨#[95, 95, 108, 111, 99, 97, 108, 95, 102, 105, 120, 117, 112, 115, 95, 95]⟩ W h _ rfl)
  have H16 := Lib.hid (heft_16 u.root)
  have HKI := Lib.hid (kidIdx (u.root.kids.map Nd.name) ⟨#[95, 95, 108, 111, 99, 97, 108, 95, 102, 105, 120, 117, 112, 115, 95, 95]⟩)
  obtain ⟨mv, hmv⟩ : ∃ mv, mostOf u.root = mv := ⟨_, rfl⟩
  obtain ⟨er, her⟩ : ∃ er, (refsOf u.root).2 = er := ⟨_, rfl⟩
  obtain ⟨ix, hix⟩ : ∃ ix, idxOf (u.root.kids.map Nd.name) ⟨#[95, 95, 108, 111, 99, 97, 108, 95, 102, 105, 120, 117, 112, 115, 95, 95]⟩ = ix := ⟨_, rfl⟩
  obtain ⟨H, hH⟩ : ∃ H, heftN u.root = H := ⟨_, rfl⟩
  rw [hmv, her] at CM
  rw [hix] at CK HKI
  rw [hH] at HH H16 ⊢
  have HHU : Hid (∀ c : Tr, pureN c.root = pureN u.root → heftN c.root = H) := Lib.hid (fun c e => by rw [heft_hp, e, ← heft_hp]; exact hH)
  have HIR : Hid (u.root.In w w.heap.size) := Lib.hid hin.root
  have HKL := Lib.hid hin.root.klen
  clear hin hh hv hmv her hix hH
  obtain ⟨boot, ra, rc, rs, ⟨nm, pa, pc, ps, ka, kc, ks⟩⟩ := u
  simp only [Tr.val, Tr.rv, Nd.val, Nd.pv, Nd.kv, Nd.name, Nd.pa, Nd.pc, Nd.props, Nd.ka, Nd.kc, Nd.kids, List.length_map] at CM CC CK HKI HHU HIR HKL ⊢
  obtain ⟨W0, hW0⟩ : ∃ W0, ((w.alloc (.cells #[Value.int .u32 boot, .slice ra rs.length rc, .string nm, .slice pa ps.length pc, .slice ka ks.length kc] 29)).alloc (.cells #[Value.int .u32 0, .slice none 0 0, .string ⟨#[]⟩, .slice none 0 0, .slice none 0 0] 29)) = W0 := ⟨_, rfl⟩
  have HB0 : Hid (Below w.heap.size w W0) := Lib.hid (by rw [← hW0]; exact ((Below.refl w.heap.size w).alloc (Nat.le_refl _) _).alloc (by simp) _)
  have HX0 : Hid (W0.heap[w.heap.size]? = some (.cells #[Value.int .u32 boot, .slice ra rs.length rc, .string nm, .slice pa ps.length pc, .slice ka ks.length kc] 29 (0, 0)) ∧ W0.heap[w.heap.size + 1]? = some (.cells #[Value.int .u32 0, .slice none 0 0, .string ⟨#[]⟩, .slice none 0 0, .slice none 0 0] 29 (0, 0))) := Lib.hid (by rw [← hW0]; exact ⟨heap_alloc2_old _ _ _, heap_alloc2_new _ _ _⟩)
  have HS0 : Hid (W0.heap.size = w.heap.size + 2) := Lib.hid (by rw [← hW0]; simp)
  obtain ⟨b0, b1, b2, b3, b4⟩ := tree_box HX0.out.1
  go_enter Tryz.func23, Tryz.ntmps23
  go_wp2_with fail
  try rw [hW0]
  clear hW0 b0 b1 b2 b3 b4
  refine (CM.out W0 (HI.out.on HB0.out)).mono ?_
  rintro e w1 ⟨rfl, hb1⟩
  have HB1 := Lib.hid (HB0.out.trans (hb1.mono HB0.out.size))
  have HX1 : Hid (w1.heap[w.heap.size]? = some (.cells #[Value.int .u32 boot, .slice ra rs.length rc, .string nm, .slice pa ps.length pc, .slice ka ks.length kc] 29 (0, 0)) ∧ w1.heap[w.heap.size + 1]? = some (.cells #[Value.int .u32 0, .slice none 0 0, .string ⟨#[]⟩, .slice none 0 0, .slice none 0 0] 29 (0, 0))) := Lib.hid ⟨(hb1.block _ (by have := HS0.out; omega)).trans HX0.out.1, (hb1.block _ (by have := HS0.out; omega)).trans HX0.out.2⟩
  have HS1 : Hid (w.heap.size + 2 ≤ w1.heap.size) := Lib.hid (by have h1 := HS0.out; have h2 := hb1.size; omega)
  clear hb1 CM
  by_cases he : er = 0
  · subst he
    obtain ⟨b0, b1, b2, b3, b4⟩ := tree_box HX1.out.1
    go_wp2_with fail
    refine (CC.out w1 (HI.out.on HB1.out)).mono ?_
    rintro e w2 ⟨c, F, D, rfl, hcb, hcr, hcp, hown, hb2⟩
    have HTR : Hid (TreeAt D (fun g => F g ∨ D g) w1.heap.size c w2) := Lib.hid (hown.treeAt (by rw [HHU.out c hcp]; have := HH.out; omega))
    have HCH : Hid (heftN c.root = H) := Lib.hid (HHU.out c hcp)
    have HD : Hid (∀ g, D g → w1.heap.size ≤ g ∧ g < w2.heap.size) := Lib.hid (fun g hg => ⟨(hown.hD g hg).1, (hown.hD g hg).2.1⟩)
    have HB2 := Lib.hid (HB1.out.trans (hb2.mono HB1.out.size))
    have HS2 := Lib.hid hb2.size
    have HX2 : Hid (w2.heap[w.heap.size]? = some (.cells #[Value.int .u32 boot, .slice ra rs.length rc, .string nm, .slice pa ps.length pc, .slice ka ks.length kc] 29 (0, 0)) ∧ w2.heap[w.heap.size + 1]? = some (.cells #[Value.int .u32 0, .slice none 0 0, .string ⟨#[]⟩, .slice none 0 0, .slice none 0 0] 29 (0, 0))) := Lib.hid ⟨(hb2.block _ (by have := HS1.out; omega)).trans HX1.out.1, (hb2.block _ (by have := HS1.out; omega)).trans HX1.out.2⟩
    clear hcb hcr hcp hown hb2 b0 b1 b2 b3 b4 CC HHU HX1 HX0
    have CRH := Lib.hid (fun (V : World) (h : Lies V D c.root) (hd : ∀ g, D g → g < V.heap.size) => raiseHandles_any D v HV.out c.root V h hd)
    have CSP := Lib.hid (fun (V : World) (h : Lies V D c.root) => spotOf_any D V c.root h V (Below.refl _ _))
    obtain ⟨W3, hW3⟩ : ∃ W3, w2.alloc (.cells #[.int .u32 c.boot, c.rv, .string c.root.name, c.root.pv, c.root.kv] 29) = W3 := ⟨_, rfl⟩
    have HB3 : Hid (Below w2.heap.size w2 W3) := Lib.hid (by rw [← hW3]; exact (Below.refl _ _).alloc (Nat.le_refl _) _)
    have HX3 : Hid (W3.heap[w2.heap.size]? = some (.cells #[.int .u32 c.boot, c.rv, .string c.root.name, c.root.pv, c.root.kv] 29 (0, 0))) := Lib.hid (by rw [← hW3]; exact heap_alloc_new _ _)
    have HS3 : Hid (W3.heap.size = w2.heap.size + 1) := Lib.hid (by rw [← hW3]; simp)
    -- what is there as long as only bytes turn
    have HALL : Hid (∀ V : World, Wrote D W3 V → V.heap[w.heap.size]? = some (.cells #[Value.int .u32 boot, .slice ra rs.length rc, .string nm, .slice pa ps.length pc, .slice ka ks.length kc] 29 (0, 0)) ∧ V.heap[w.heap.size + 1]? = some (.cells #[Value.int .u32 0, .slice none 0 0, .string ⟨#[]⟩, .slice none 0 0, .slice none 0 0] 29 (0, 0)) ∧ V.heap[w2.heap.size]? = some (.cells #[.int .u32 c.boot, c.rv, .string c.root.name, c.root.pv, c.root.kv] 29 (0, 0)) ∧ TreeAt D (fun g => F g ∨ D g) w1.heap.size c V ∧ Below w.heap.size w V ∧ (∀ g, D g → g < V.heap.size) ∧ (Nd.mk nm pa pc ps ka kc ks).In V w.heap.size) := Lib.hid (fun V h => by
      have hw := (Wrote.of_below D HB3.out).trans h
      have s1 := HS1.out
      have s2 := HS2.out
      have s3 := HS3.out
      have hbV : Below w.heap.size w V := HB2.out.trans (hw.below (by omega) (fun g hg => by have := (HD.out g hg).1; omega))
      exact ⟨(hw.blk (by omega) (fun hg => by have := (HD.out _ hg).1; omega)).trans HX2.out.1, (hw.blk (by omega) (fun hg => by have := (HD.out _ hg).1; omega)).trans HX2.out.2, (h.blk (by omega) (fun hg => by have := (HD.out _ hg).2; omega)).trans HX3.out, HTR.out.wrote hw, hbV, fun g hg => by have h1 := (HD.out g hg).2; have h2 := h.size; omega, HIR.out.under hbV⟩)
    have HFC : Hid (∀ V Wf : World, Wrote D W3 V → Chg (fun q => q = w.heap.size + 1) V Wf → TreeOut w H (.returned (.tuple #[.agg #[.int .u32 c.boot, c.rv, .string c.root.name, c.root.pv, c.root.kv], .int .i64 0])) Wf) := Lib.hid (fun V Wf h hc => by
      obtain ⟨_, _, _, k4, k5, _⟩ := HALL.out V h
      obtain ⟨x, x1, x2, x3, x4⟩ := k4.done hc (fun g e => by have := HS1.out; omega)
      exact ⟨⟨x, 0, by rw [x1]; rfl, x2, by rw [x3, HCH.out]; exact Nat.le_refl _, x4.low (by have := HS1.out; omega)⟩, k5.trans (hc.below k5.size (fun g e => by omega))⟩)
    have HW3 : Hid (Wrote D W3 W3) := Lib.hid (Wrote.refl _ _)
    have HDL : Hid (∀ g, D g → w.heap.size ≤ g) := Lib.hid (fun g hg => by have h1 := (HD.out g hg).1; have h2 := HS1.out; omega)
    clear HTR HCH HD HB2 HX2 HX3 HI HIR
    obtain ⟨cb, cra, crc, crs, ⟨cn, cpa, cpc, cps, cka, ckc, cks⟩⟩ := c
    simp only [Tr.val, Tr.rv, Nd.val, Nd.pv, Nd.kv, Nd.name, Nd.pa, Nd.pc, Nd.props, Nd.ka, Nd.kc, Nd.kids] at CRH CSP hW3 HALL HFC ⊢
    obtain ⟨_, _, k3, k4, _, k6, _⟩ := HALL.out W3 HW3.out
    obtain ⟨c0, c1, c2, c3, c4⟩ := tree_box k3
    have CR3 := Lib.hid (CRH.out W3 k4.lies k6)
    clear k3 k4 k6
    go_wp2_with fail
    try rw [hW3]
    clear hW3 c0 c1 c2 c3 c4
    refine CR3.out.mono ?_
    rintro e w4 ⟨⟨r4, rfl⟩, hw4⟩
    have HW4 := Lib.hid hw4
    clear hw4 CR3
    by_cases he4 : r4 = 0
    · subst he4
      obtain ⟨k1, _, _, _, k5, _, k7⟩ := HALL.out w4 HW4.out
      have CK4 := Lib.hid (CK.out w4 (k7.more k5.size))
      obtain ⟨b0, b1, b2, b3, b4⟩ := tree_box k1
      clear k1 k5 k7
      go_wp2_with fail
      clear b0 b1 b2 b3 b4
      refine CK4.out.mono ?_
      rintro e w5 ⟨rfl, hb5⟩
      have HW5 := Lib.hid (HW4.out.on hb5)
      clear hb5 CK4
      by_cases hx : ix < 0
      · have j2 : decide (ix < 0) = true := decide_eq_true hx
        obtain ⟨_, k2, k3, _, _, _, _⟩ := HALL.out w5 HW5.out
        obtain ⟨c0, c1, c2, c3, c4⟩ := tree_box k3
        obtain ⟨z0, z1, z2, z3, z4⟩ := tree_box k2
        have f0 := Lib.frozen_of_heap k2 0
        have f1 := Lib.frozen_of_heap k2 1
        have f2 := Lib.frozen_of_heap k2 2
        have f3 := Lib.frozen_of_heap k2 3
        have f4 := Lib.frozen_of_heap k2 4
        go_wp2_with fail
        clear z0 z1 z2 z3 z4 f0 f1 f2 f3 f4 c0 c1 c2 c3 c4
        obtain ⟨⟨d0, d1, d2, d3, d4⟩, hch, _⟩ := box5 k2 (.int .u32 cb) (.slice cra crs.length crc) (.string cn) (.slice cpa cps.length cpc) (.slice cka cks.length ckc) _ rfl
        refine bodyPost_ret (v := .tuple #[.agg #[.int .u32 cb, .slice cra crs.length crc, .string cn, .slice cpa cps.length cpc, .slice cka cks.length ckc], .int .i64 0]) (by simp [results, Tryz.results23, go_sem, d0, d1, d2, d3, d4]; try rfl) rfl ?_
        exact HFC.out w5 _ HW5.out hch
      · have j2 : decide (ix < 0) = false := decide_eq_false hx
        obtain ⟨i, rfl⟩ : ∃ i : Nat, ix = (i : Int) := ⟨ix.toNat, by omega⟩
        have hik : i < ks.length := by have := HKI.out; omega
        obtain ⟨l1, l2⟩ := HKL.out
        have HOV : Hid (∀ V : World, Wrote D W3 V → ∃ b o, ka = some ⟨b, o, none⟩ ∧ V.cell? ⟨b, o + i * 3, none⟩ = some (.string (ks[i]'hik).name) ∧ V.cell? ⟨b, o + i * 3 + 1, none⟩ = some (ks[i]'hik).pv ∧ V.cell? ⟨b, o + i * 3 + 2, none⟩ = some (ks[i]'hik).kv ∧ (ks[i]'hik).In V w.heap.size) := Lib.hid (fun V h => by
          obtain ⟨_, _, _, _, _, _, k7⟩ := HALL.out V h
          obtain ⟨b, o, e, _, c0, c1, c2⟩ := k7.kcell (i := i) hik
          exact ⟨b, o, e, c0, c1, c2, k7.kid (List.getElem_mem hik)⟩)
        have HKIN : Hid (∀ V : World, Wrote D W3 V → (ks[i]'hik).In V w.heap.size ∧ w.heap.size ≤ V.heap.size) := Lib.hid (fun V h => by
          obtain ⟨_, _, _, _, k5, _, k7⟩ := HALL.out V h
          exact ⟨k7.kid (List.getElem_mem hik), k5.size⟩)
        obtain ⟨kb, ko, e, e0, e1, e2, _⟩ := HOV.out w5 HW5.out
        obtain rfl : ka = _ := e
        have HKC : Hid (∀ V : World, Wrote D W3 V → V.cell? ⟨kb, ko + i * 3, none⟩ = some (.string (ks[i]'hik).name) ∧ V.cell? ⟨kb, ko + i * 3 + 1, none⟩ = some (ks[i]'hik).pv ∧ V.cell? ⟨kb, ko + i * 3 + 2, none⟩ = some (ks[i]'hik).kv) := Lib.hid (fun V h => by
          obtain ⟨b, o, e, c0, c1, c2, _⟩ := HOV.out V h
          simp only [Option.some.injEq, Addr.mk.injEq, and_true] at e
          obtain ⟨rfl, rfl⟩ := e
          exact ⟨c0, c1, c2⟩)
        generalize (ks[i]'hik) = X at *
        have CRL := Lib.hid (fun (P : Value → Prop) (TV TK : Nat → Prop) (a b : Option Nat) (V : World) h1 h2 h3 h4 h5 => raiseLocal_any D P TV TK w.heap.size HDL.out v HV.out X a b V h1 h2 h3 h4 h5)
        obtain ⟨xn, xpa, xpc, xps, xka, xkc, xks⟩ := X
        simp only [Nd.val, Nd.pv, Nd.kv, Nd.name, Nd.pa, Nd.pc, Nd.props, Nd.ka, Nd.kc, Nd.kids] at e0 e1 e2 HKC CRL
        have SP : Hid (∀ V : World, Wrote D W3 V → V.cell? ⟨w.heap.size, 4, none⟩ = some (.slice (some ⟨kb, ko, none⟩) ks.length kc) ∧ (V.cell? ⟨w2.heap.size, 2, none⟩ = some (.string cn) ∧ V.cell? ⟨w2.heap.size, 3, none⟩ = some (.slice cpa cps.length cpc) ∧ V.cell? ⟨w2.heap.size, 4, none⟩ = some (.slice cka cks.length ckc)) ∧ V.cell? ⟨kb, ko + i * 3, none⟩ = some (.string xn) ∧ V.cell? ⟨kb, ko + i * 3 + 1, none⟩ = some (.slice xpa xps.length xpc) ∧ V.cell? ⟨kb, ko + i * 3 + 2, none⟩ = some (.slice xka xks.length xkc)) := Lib.hid (fun V h => by
          obtain ⟨k1, _, k3, _⟩ := HALL.out V h
          obtain ⟨_, _, _, _, q4⟩ := tree_box k1
          obtain ⟨_, _, r2, r3, r4⟩ := tree_box k3
          exact ⟨q4, ⟨r2, r3, r4⟩, HKC.out V h⟩)
        clear e0 e1 e2 HOV
        go_wp2_with fail
        refine wp_region_held_drew (S := fun V => V.cell? ⟨w.heap.size, 4, none⟩ = some (.slice (some ⟨kb, ko, none⟩) ks.length kc) ∧ (V.cell? ⟨w2.heap.size, 2, none⟩ = some (.string cn) ∧ V.cell? ⟨w2.heap.size, 3, none⟩ = some (.slice cpa cps.length cpc) ∧ V.cell? ⟨w2.heap.size, 4, none⟩ = some (.slice cka cks.length ckc)) ∧ V.cell? ⟨kb, ko + i * 3, none⟩ = some (.string xn) ∧ V.cell? ⟨kb, ko + i * 3 + 1, none⟩ = some (.slice xpa xps.length xpc) ∧ V.cell? ⟨kb, ko + i * 3 + 2, none⟩ = some (.slice xka xks.length xkc)) (by kernel_rfl) (SP.out w5 HW5.out) (fun hHeld => ?_)
        refine held_take 0 rfl (by kernel_rfl) (by kernel_rfl) (by kernel_rfl) (fun _ _ _ h => h) (by rfl) hHeld (v := ?_) (fun w hSw => ?_) (fun _ => ?_)
        rotate_left
        · ((try dsimp only at hSw); go_simp; (try with_reducible rfl))
        simp only [Act.put, List.setIfInBounds_toArray, List.set_cons_zero, List.set_cons_succ]
        refine held_take 1 rfl (by kernel_rfl) (by kernel_rfl) (by kernel_rfl) (fun _ _ _ h => h) (by rfl) hHeld (v := ?_) (fun w hSw => ?_) (fun _ => ?_)
        rotate_left
        · ((try dsimp only at hSw); go_simp; (try with_reducible rfl))
        simp only [Act.put, List.setIfInBounds_toArray, List.set_cons_zero, List.set_cons_succ]
        refine held_take 3 rfl (by kernel_rfl) (by kernel_rfl) (by kernel_rfl) (fun _ _ _ h => h) (by rfl) hHeld (v := ?_) (fun w hSw => ?_) (fun _ => ?_)
        rotate_left
        · ((try dsimp only at hSw); go_simp; (try with_reducible rfl))
        simp only [Act.put, List.setIfInBounds_toArray, List.set_cons_zero, List.set_cons_succ]
        refine held_take 4 rfl (by kernel_rfl) (by kernel_rfl) (by kernel_rfl) (fun _ _ _ h => h) (by rfl) hHeld (v := ?_) (fun w hSw => ?_) (fun _ => ?_)
        rotate_left
        · ((try dsimp only at hSw); go_simp; (try with_reducible rfl))
        simp only [Act.put, List.setIfInBounds_toArray, List.set_cons_zero, List.set_cons_succ]
        refine held_take 5 rfl (by kernel_rfl) (by kernel_rfl) (by kernel_rfl) (fun _ _ _ h => h) (by rfl) hHeld (v := ?_) (fun w hSw => ?_) (fun _ => ?_)
        rotate_left
        · ((try dsimp only at hSw); go_simp; (try with_reducible rfl))
        simp only [Act.put, List.setIfInBounds_toArray, List.set_cons_zero, List.set_cons_succ]
        refine held_take 6 rfl (by kernel_rfl) (by kernel_rfl) (by kernel_rfl) (fun _ _ _ h => h) (by rfl) hHeld (v := ?_) (fun w hSw => ?_) (fun _ => ?_)
        rotate_left
        · ((try dsimp only at hSw); go_simp; (try with_reducible rfl))
        simp only [Act.put, List.setIfInBounds_toArray, List.set_cons_zero, List.set_cons_succ]
        refine held_take 7 rfl (by kernel_rfl) (by kernel_rfl) (by kernel_rfl) (fun _ _ _ h => h) (by rfl) hHeld (v := ?_) (fun w hSw => ?_) (fun _ => ?_)
        rotate_left
        · ((try dsimp only at hSw); go_simp; (try with_reducible rfl))
        simp only [Act.put, List.setIfInBounds_toArray, List.set_cons_zero, List.set_cons_succ]
        refine held_take 8 rfl (by kernel_rfl) (by kernel_rfl) (by kernel_rfl) (fun _ _ _ h => h) (by rfl) hHeld (v := ?_) (fun w hSw => ?_) (fun _ => ?_)
        rotate_left
        · ((try dsimp only at hSw); go_simp; (try with_reducible rfl))
        simp only [Act.put, List.setIfInBounds_toArray, List.set_cons_zero, List.set_cons_succ]
        refine held_take 9 rfl (by kernel_rfl) (by kernel_rfl) (by kernel_rfl) (fun _ _ _ h => h) (by rfl) hHeld (v := ?_) (fun w hSw => ?_) (fun _ => ?_)
        rotate_left
        · ((try dsimp only at hSw); go_simp; (try with_reducible rfl))
        simp only [Act.put, List.setIfInBounds_toArray, List.set_cons_zero, List.set_cons_succ]
        refine held_call 2 (by kernel_rfl) rfl (by rfl) (fun K hK => ?_)
        go_simp
        have HW5d : Hid (Wrote D W3 w5.drew) := Lib.hid (HW5.out.on (Below.refl _ w5).drew)
        refine (CSP.out w5.drew (HALL.out _ HW5d.out).2.2.2.1.lies).mono ?_
        rintro e w6 ⟨⟨sv, TV, TK, rfl, hsv, hsp, hge⟩, hb6⟩
        obtain ⟨va, vb, rfl, hva, hvb⟩ := hsv
        have HW6 := Lib.hid (HW5d.out.on hb6)
        have HSA : Hid (SpotAt D (SlB w5.drew D) TV TK w6) := Lib.hid ⟨hsp, fun v hv => hv.wrote (Wrote.of_below D hb6), SlB.nil _ _, (HALL.out _ HW6.out).2.2.2.2.2.1, fun g hg hd => by
          have h1 := hge g hg
          have h2 := (HALL.out _ HW5d.out).2.2.2.2.2.1 g hd
          omega⟩
        obtain ⟨n1, n2⟩ := HKIN.out w6 HW6.out
        have CR6 := Lib.hid (CRL.out (SlB w5.drew D) TV TK va vb w6 HSA.out hva hvb n1 n2)
        clear hva hvb hsp hge hb6 n1 n2 CRL
        dsimp only
        refine hK.out _ _ (SP.out w6 HW6.out) (fun hHeld => ?_)
        clear hK K
        refine held_call 10 (by kernel_rfl) rfl (by rfl) (fun K hK => ?_)
        go_simp
        refine CR6.out.mono ?_
        rintro e w7 ⟨⟨r7, rfl⟩, hw7⟩
        have HW7 := Lib.hid (HW6.out.trans hw7)
        clear hw7 CR6
        dsimp only
        refine hK.out _ _ (SP.out w7 HW7.out) (fun hHeld => ?_)
        clear hK K
        refine held_take 11 rfl (by kernel_rfl) (by kernel_rfl) (by kernel_rfl) (fun _ _ _ h => h) (by rfl) hHeld (v := ?_) (fun w hSw => ?_) (fun _ => ?_)
        rotate_left
        · ((try dsimp only at hSw); go_simp; (try with_reducible rfl))
        simp only [Act.put, List.setIfInBounds_toArray, List.set_cons_zero, List.set_cons_succ]
        refine wpAnyH_done (by kernel_rfl) ?_ _
        clear hHeld
        by_cases he7 : r7 = 0
        · subst he7
          obtain ⟨_, k2, k3, _, _, _, _⟩ := HALL.out w7 HW7.out
          obtain ⟨c0, c1, c2, c3, c4⟩ := tree_box k3
          obtain ⟨z0, z1, z2, z3, z4⟩ := tree_box k2
          have f0 := Lib.frozen_of_heap k2 0
          have f1 := Lib.frozen_of_heap k2 1
          have f2 := Lib.frozen_of_heap k2 2
          have f3 := Lib.frozen_of_heap k2 3
          have f4 := Lib.frozen_of_heap k2 4
          go_wp2_with fail
          clear z0 z1 z2 z3 z4 f0 f1 f2 f3 f4 c0 c1 c2 c3 c4
          obtain ⟨⟨d0, d1, d2, d3, d4⟩, hch, _⟩ := box5 k2 (.int .u32 cb) (.slice cra crs.length crc) (.string cn) (.slice cpa cps.length cpc) (.slice cka cks.length ckc) _ rfl
          refine bodyPost_ret (v := .tuple #[.agg #[.int .u32 cb, .slice cra crs.length crc, .string cn, .slice cpa cps.length cpc, .slice cka cks.length ckc], .int .i64 0]) (by simp [results, Tryz.results23, go_sem, d0, d1, d2, d3, d4]; try rfl) rfl ?_
          exact HFC.out w7 _ HW7.out hch
        · have j3 : (r7 != 0) = true := by rw [bne_iff_ne]; exact he7
          obtain ⟨_, k2, _, _, k5, _⟩ := HALL.out w7 HW7.out
          obtain ⟨z0, z1, z2, z3, z4⟩ := tree_box k2
          have f0 := Lib.frozen_of_heap k2 0
          have f1 := Lib.frozen_of_heap k2 1
          have f2 := Lib.frozen_of_heap k2 2
          have f3 := Lib.frozen_of_heap k2 3
          have f4 := Lib.frozen_of_heap k2 4
          go_wp2_with fail
          clear z0 z1 z2 z3 z4 f0 f1 f2 f3 f4
          obtain ⟨⟨d0, d1, d2, d3, d4⟩, hch, _⟩ := box5 k2 (.int .u32 0) (.slice none 0 0) (.string ⟨#[]⟩) (.slice none 0 0) (.slice none 0 0) _ rfl
          refine bodyPost_ret (v := .tuple #[.agg #[.int .u32 0, .slice none 0 0, .string ⟨#[]⟩, .slice none 0 0, .slice none 0 0], .int .i64 r7]) (by simp [results, Tryz.results23, go_sem, d0, d1, d2, d3, d4]; try rfl) rfl ?_
          exact treeOut_zero H16.out r7 k5 hch (by omega)
    · have j1 : (r4 != 0) = true := by rw [bne_iff_ne]; exact he4
      obtain ⟨_, k2, _, _, k5, _⟩ := HALL.out w4 HW4.out
      obtain ⟨z0, z1, z2, z3, z4⟩ := tree_box k2
      have f0 := Lib.frozen_of_heap k2 0
      have f1 := Lib.frozen_of_heap k2 1
      have f2 := Lib.frozen_of_heap k2 2
      have f3 := Lib.frozen_of_heap k2 3
      have f4 := Lib.frozen_of_heap k2 4
      go_wp2_with fail
      clear z0 z1 z2 z3 z4 f0 f1 f2 f3 f4
      obtain ⟨⟨d0, d1, d2, d3, d4⟩, hch, _⟩ := box5 k2 (.int .u32 0) (.slice none 0 0) (.string ⟨#[]⟩) (.slice none 0 0) (.slice none 0 0) _ rfl
      refine bodyPost_ret (v := .tuple #[.agg #[.int .u32 0, .slice none 0 0, .string ⟨#[]⟩, .slice none 0 0, .slice none 0 0], .int .i64 r4]) (by simp [results, Tryz.results23, go_sem, d0, d1, d2, d3, d4]; try rfl) rfl ?_
      exact treeOut_zero H16.out r4 k5 hch (by omega)
  · have j1 : (er != 0) = true := by rw [bne_iff_ne]; exact he
    obtain ⟨z0, z1, z2, z3, z4⟩ := tree_box HX1.out.2
    have f0 := Lib.frozen_of_heap HX1.out.2 0
    have f1 := Lib.frozen_of_heap HX1.out.2 1
    have f2 := Lib.frozen_of_heap HX1.out.2 2
    have f3 := Lib.frozen_of_heap HX1.out.2 3
    have f4 := Lib.frozen_of_heap HX1.out.2 4
    go_wp2_with fail
    clear z0 z1 z2 z3 z4 f0 f1 f2 f3 f4
    obtain ⟨⟨d0, d1, d2, d3, d4⟩, hch, _⟩ := box5 HX1.out.2 (.int .u32 0) (.slice none 0 0) (.string ⟨#[]⟩) (.slice none 0 0) (.slice none 0 0) _ rfl
    refine bodyPost_ret (v := .tuple #[.agg #[.int .u32 0, .slice none 0 0, .string ⟨#[]⟩, .slice none 0 0, .slice none 0 0], .int .i64 er]) (by simp [results, Tryz.results23, go_sem, d0, d1, d2, d3, d4]; try rfl) rfl ?_
    exact treeOut_zero H16.out er HB1.out hch (by omega)
end Go.Proofs.YtihlpcbebpnmkaaGreatDoor
