/-
  Layer 3, TreeEqual: trees are told to be alike just if they are; a clone is, whatever becomes of it.
-/
import Derived.Test.YthfonfecangmcaaTClTree
import Derived.Test.YthfonfecangmcaaTLChecks
namespace Go.Proofs.Ythfonfecangmcaa
open Go.RowKit
set_option linter.unusedVariables false
set_option linter.unusedSimpArgs false
attribute [local go_sem ↓] Go.wp_at_zero Go.wp_at_succ

theorem sameP_trans {p q r : PV} (h1 : sameP p q = true) (h2 : sameP q r = true) : sameP p r = true := by
  simp only [sameP, Bool.and_eq_true, decide_eq_true_eq] at h1 h2 ⊢
  exact ⟨h1.1.trans h2.1, h1.2.trans h2.2⟩
theorem all2_trans {α : Type} {f : α → α → Bool} {l m r : List α} (h1 : all2 f l m = true) (h2 : all2 f m r = true) (hf : ∀ x ∈ l, ∀ y z, f x y = true → f y z = true → f x z = true) : all2 f l r = true :=
  all2_mk ((all2_len h1).trans (all2_len h2)) (fun k q1 q2 => hf _ (List.getElem_mem q1) _ _ (all2_at h1 k q1 (by rw [← all2_len h1]; exact q1)) (all2_at h2 k (by rw [← all2_len h1]; exact q1) q2))
theorem sameB_trans : ∀ n m r : Nd, sameB n m = true → sameB m r = true → sameB n r = true :=
  Nd.ind (p := fun n => ∀ m r : Nd, sameB n m = true → sameB m r = true → sameB n r = true) (fun n ih m r h1 h2 => by
    rw [sameB_mk] at h1 h2 ⊢
    simp only [Bool.and_eq_true, decide_eq_true_eq] at h1 h2 ⊢
    exact ⟨⟨h1.1.1.trans h2.1.1, all2_trans h1.1.2 h2.1.2 (fun _ _ _ _ a b => sameP_trans a b)⟩, all2_trans h1.2 h2.2 (fun x hx y z a b => ih x hx y z a b)⟩)
theorem sameT_trans {t u v : Tr} (h1 : sameT t u = true) (h2 : sameT u v = true) : sameT t v = true := by
  simp only [sameT, Bool.and_eq_true, decide_eq_true_eq] at h1 h2 ⊢
  refine ⟨⟨h1.1.1.trans h2.1.1, all2_trans h1.1.2 h2.1.2 (fun x _ y z a b => ?_)⟩, sameB_trans _ _ _ h1.2 h2.2⟩
  simp only [sameR, Bool.and_eq_true, decide_eq_true_eq] at a b ⊢
  exact ⟨a.1.trans b.1, a.2.trans b.2⟩

/-- What has become of a clone while it is written: nothing outside its own blocks has turned, its rows are there. -/
structure Wrt (lo hi : Nat) (m : Nd) (w5 wr : World) : Prop where
  out : ∀ a : Addr, a.block < lo ∨ hi ≤ a.block → wr.cell? a = w5.cell? a
  fr : ∀ a : Addr, wr.frozen? a = w5.frozen? a
  sz : wr.heap.size = w5.heap.size
  prow : ∀ g o, m.pa = some ⟨g, o, none⟩ → ∀ i (h : i < m.props.length), wr.cell? ⟨g, o + i * 2 + 1, none⟩ = some m.props[i].val
  vals : ∀ p ∈ m.props, ∀ b, p.addr = some ⟨b, 0, none⟩ → ∀ k, k < p.zs.length → ∃ x, wr.cell? ⟨b, k, none⟩ = some (.int .u8 x)
  krow : ∀ g o, m.ka = some ⟨g, o, none⟩ → ∀ i, i < m.kids.length → ∃ u, wr.cell? ⟨g, o + i * 3, none⟩ = some u

theorem Wrt.start {lo hi : Nat} {m : Nd} {w5 : World} (h : m.In w5 hi) : Wrt lo hi m w5 w5 := by
  refine ⟨fun _ _ => rfl, fun _ => rfl, rfl, fun g o e i hi => ?_, fun p hp b e k hk => ?_, fun g o e i hi => ?_⟩
  · obtain ⟨b, o', e', _, _, c1⟩ := h.pcell hi
    have e2 := e.symm.trans e'
    obtain ⟨rfl, rfl⟩ : g = b ∧ o = o' := by simpa using e2
    exact c1
  · obtain ⟨b', o', e', _, c⟩ := (h.prop hp).2.1.at_ (by omega)
    have e2 := e.symm.trans e'
    obtain ⟨rfl, rfl⟩ : b = b' ∧ 0 = o' := by simpa using e2
    exact ⟨_, by have := c k hk; rwa [Nat.zero_add] at this⟩
  · obtain ⟨b, o', e', _, c0, _⟩ := h.kcell hi
    have e2 := e.symm.trans e'
    obtain ⟨rfl, rfl⟩ : g = b ∧ o = o' := by simpa using e2
    exact ⟨_, c0⟩
/-- A byte of a value is written. -/
theorem Wrt.byte {lo hi : Nat} {m : Nd} {w5 wr : World} (h : Wrt lo hi m w5 wr) {p : PV} (hp : p ∈ m.props) {b : Nat} (e : p.addr = some ⟨b, 0, none⟩) (hlo : lo ≤ b) (hhi : b < hi) (hg : ∀ g o, m.pa = some ⟨g, o, none⟩ → g < b) (k : Nat) (v : Int) :
    Wrt lo hi m w5 (wr.setCell ⟨b, k, none⟩ (.int .u8 v)) := by
  refine ⟨fun a ha => (World.cell?_setCell_other _ _ _ _ (fun e' => by rw [← e'] at ha; rcases ha with ha | ha <;> simp at ha <;> omega)).trans (h.out a ha), fun a => (World.frozen?_setCell _ _ _ _).trans (h.fr a), by simpa using h.sz, fun g o eg i hi' => ?_, fun q hq b' eb j hj => ?_, fun g o eg i hi' => ?_⟩
  · have hlt := hg g o eg
    exact (World.cell?_setCell_other _ _ _ _ (fun e' => by have := congrArg Addr.block e'; simp at this; omega)).trans (h.prow g o eg i hi')
  · obtain ⟨x, hx⟩ := h.vals q hq b' eb j hj
    by_cases hbe : (⟨b, k, none⟩ : Addr) = ⟨b', j, none⟩
    · rw [← hbe] at hx ⊢
      exact ⟨v, World.cell?_setCell_same _ _ _ hx⟩
    · exact ⟨x, (World.cell?_setCell_other _ _ _ _ hbe).trans hx⟩
  · obtain ⟨u, hu⟩ := h.krow g o eg i hi'
    obtain ⟨u', hu'⟩ := cell?_setCell_some (p := ⟨b, k, none⟩) (x := .int .u8 v) hu
    exact ⟨u', hu'⟩
/-- What matters behind the values: a name is written. -/
structure Wrk (lo hi : Nat) (m : Nd) (w5 wr : World) : Prop where
  out : ∀ a : Addr, a.block < lo ∨ hi ≤ a.block → wr.cell? a = w5.cell? a
  fr : ∀ a : Addr, wr.frozen? a = w5.frozen? a
  sz : wr.heap.size = w5.heap.size
  krow : ∀ g o, m.ka = some ⟨g, o, none⟩ → ∀ i, i < m.kids.length → ∃ u, wr.cell? ⟨g, o + i * 3, none⟩ = some u
theorem Wrk.name {lo hi : Nat} {m : Nd} {w5 wr : World} (h : Wrk lo hi m w5 wr) {b : Nat} (hlo : lo ≤ b) (hhi : b < hi) (k : Nat) (v : Value) : Wrk lo hi m w5 (wr.setCell ⟨b, k, none⟩ v) := by
  refine ⟨fun a ha => (World.cell?_setCell_other _ _ _ _ (fun e' => by rw [← e'] at ha; rcases ha with ha | ha <;> simp at ha <;> omega)).trans (h.out a ha), fun a => (World.frozen?_setCell _ _ _ _).trans (h.fr a), by simpa using h.sz, fun g o eg i hi' => ?_⟩
  obtain ⟨u, hu⟩ := h.krow g o eg i hi'
  obtain ⟨u', hu'⟩ := cell?_setCell_some (p := ⟨b, k, none⟩) (x := v) hu
  exact ⟨u', hu'⟩

set_option maxHeartbeats 16000000 in
theorem treeEqual_true (t u : Tr) (v : Int) (w : World) (hin : t.In w w.heap.size) (hjn : u.In w w.heap.size) (hv0 : 0 ≤ v) (hv1 : v ≤ 255) :
    Calls Try.prog 4 #[t.val, u.val, .int .u8 v] w fun e w' => e = .returned (.bool true) ∧ Below w.heap.size w w' := by
  obtain ⟨r1, h1⟩ : ∃ r, sameT t u = r := ⟨_, rfl⟩
  obtain ⟨r2, h2⟩ : ∃ r, sameB t.root u.root = r := ⟨_, rfl⟩
  have F1 := Lib.hid (fun W h => few_any t W h)
  have F2 := Lib.hid (fun W h => few_any u W h)
  have K1 := Lib.hid (fun W h => clone_any t W h)
  have E1 := Lib.hid (fun W h h' => equal_any t u W h h' r1 h1)
  have E2 := Lib.hid (fun W h h' => reftree_any t u W h h' r1 h1)
  have E4 := Lib.hid (fun W h h' => same_any t.root u.root W h h' r2 h2)
  have E5 := Lib.hid (fun W h h' => refsame_any t.root u.root W h h' r2 h2)
  have HI := Lib.hid hin
  have HJ := Lib.hid hjn
  clear hin hjn h1 h2
  obtain ⟨boot, ra, rc, rs, ⟨nm, pa, pc, ps, ka, kc, ks⟩⟩ := t
  obtain ⟨boot', ra', rc', rs', ⟨nm', pa', pc', ps', ka', kc', ks'⟩⟩ := u
  show Calls _ _ #[.agg #[Value.int .u32 boot, Value.slice ra rs.length rc, Value.string nm, Value.slice pa ps.length pc, Value.slice ka ks.length kc], .agg #[Value.int .u32 boot', Value.slice ra' rs'.length rc', Value.string nm', Value.slice pa' ps'.length pc', Value.slice ka' ks'.length kc'], .int .u8 v] _ _
  have HB0 := Lib.hid (((Below.refl w.heap.size w).alloc (Nat.le_refl _) (.cells #[Value.int .u32 boot, Value.slice ra rs.length rc, Value.string nm, Value.slice pa ps.length pc, Value.slice ka ks.length kc] 29)).alloc (by simp) (.cells #[Value.int .u32 boot', Value.slice ra' rs'.length rc', Value.string nm', Value.slice pa' ps'.length pc', Value.slice ka' ks'.length kc'] 29))
  have AB : Hid (∀ W : World, Below (w.heap.size + 2) ((w.alloc (.cells #[Value.int .u32 boot, Value.slice ra rs.length rc, Value.string nm, Value.slice pa ps.length pc, Value.slice ka ks.length kc] 29)).alloc (.cells #[Value.int .u32 boot', Value.slice ra' rs'.length rc', Value.string nm', Value.slice pa' ps'.length pc', Value.slice ka' ks'.length kc'] 29)) W → W.cell? ⟨w.heap.size, 0, none⟩ = some (Value.int .u32 boot) ∧ W.cell? ⟨w.heap.size, 1, none⟩ = some (Value.slice ra rs.length rc) ∧ W.cell? ⟨w.heap.size, 2, none⟩ = some (Value.string nm) ∧ W.cell? ⟨w.heap.size, 3, none⟩ = some (Value.slice pa ps.length pc) ∧ W.cell? ⟨w.heap.size, 4, none⟩ = some (Value.slice ka ks.length kc) ∧ W.cell? ⟨w.heap.size + 1, 0, none⟩ = some (Value.int .u32 boot') ∧ W.cell? ⟨w.heap.size + 1, 1, none⟩ = some (Value.slice ra' rs'.length rc') ∧ W.cell? ⟨w.heap.size + 1, 2, none⟩ = some (Value.string nm') ∧ W.cell? ⟨w.heap.size + 1, 3, none⟩ = some (Value.slice pa' ps'.length pc') ∧ W.cell? ⟨w.heap.size + 1, 4, none⟩ = some (Value.slice ka' ks'.length kc')) := fun W h => ⟨(h.cell (p := ⟨w.heap.size, 0, none⟩) (by simp)).trans (World.cell?_alloc2_first _ _ _ _), (h.cell (p := ⟨w.heap.size, 1, none⟩) (by simp)).trans (World.cell?_alloc2_first _ _ _ _), (h.cell (p := ⟨w.heap.size, 2, none⟩) (by simp)).trans (World.cell?_alloc2_first _ _ _ _), (h.cell (p := ⟨w.heap.size, 3, none⟩) (by simp)).trans (World.cell?_alloc2_first _ _ _ _), (h.cell (p := ⟨w.heap.size, 4, none⟩) (by simp)).trans (World.cell?_alloc2_first _ _ _ _), (h.cell (p := ⟨w.heap.size + 1, 0, none⟩) (by simp)).trans (World.cell?_alloc2_new _ _ _ _), (h.cell (p := ⟨w.heap.size + 1, 1, none⟩) (by simp)).trans (World.cell?_alloc2_new _ _ _ _), (h.cell (p := ⟨w.heap.size + 1, 2, none⟩) (by simp)).trans (World.cell?_alloc2_new _ _ _ _), (h.cell (p := ⟨w.heap.size + 1, 3, none⟩) (by simp)).trans (World.cell?_alloc2_new _ _ _ _), (h.cell (p := ⟨w.heap.size + 1, 4, none⟩) (by simp)).trans (World.cell?_alloc2_new _ _ _ _)⟩
  go_enter Try.func4, Try.ntmps4
  go_wp2_with fail
  refine (awake3 _).mono ?_
  rintro e w1 ⟨rfl, hb⟩
  have HB1 := Lib.hid (HB0.out.trans (hb.mono HB0.out.size))
  have HX1 := Lib.hid (hb.mono (B' := w.heap.size + 2) (by simp))
  obtain ⟨a0, a1, a2, a3, a4, b0, b1, b2, b3, b4⟩ := AB.out _ HX1.out
  clear hb
  go_wp2_with fail
  refine (F1.out _ (HI.out.on HB1.out)).mono ?_
  rintro e w2 ⟨⟨f1, rfl⟩, hb⟩
  have HB2 := Lib.hid (HB1.out.trans (hb.mono HB1.out.size))
  have HX2 := Lib.hid (HX1.out.trans (hb.mono (by have := HX1.out.size; simpa using this)))
  clear hb a0 a1 a2 a3 a4 b0 b1 b2 b3 b4
  cases f1
  · go_wp2_with fail
    refine (awake3 _).mono ?_
    rintro e w3 ⟨rfl, hb⟩
    have HB3 := Lib.hid (HB2.out.trans (hb.mono HB2.out.size))
    clear hb
    go_wp2
    go_ret
    exact ⟨rfl, HB3.out⟩
  · obtain ⟨a0, a1, a2, a3, a4, b0, b1, b2, b3, b4⟩ := AB.out _ HX2.out
    go_wp2_with fail
    refine (F2.out _ (HJ.out.on HB2.out)).mono ?_
    rintro e w3 ⟨⟨f2, rfl⟩, hb⟩
    have HB3 := Lib.hid (HB2.out.trans (hb.mono HB2.out.size))
    have HX3 := Lib.hid (HX2.out.trans (hb.mono (by have := HX2.out.size; simpa using this)))
    clear hb a0 a1 a2 a3 a4 b0 b1 b2 b3 b4
    cases f2
    · go_wp2_with fail
      refine (awake3 _).mono ?_
      rintro e w4 ⟨rfl, hb⟩
      have HB4 := Lib.hid (HB3.out.trans (hb.mono HB3.out.size))
      clear hb
      go_wp2
      go_ret
      exact ⟨rfl, HB4.out⟩
    · obtain ⟨a0, a1, a2, a3, a4, b0, b1, b2, b3, b4⟩ := AB.out _ HX3.out
      go_wp2_with fail
      refine (K1.out _ (HI.out.on HB3.out)).mono ?_
      rintro e w4 ⟨c, rfl, q1, q2, q3, q4, hb⟩
      have HB4 := Lib.hid (HB3.out.trans (hb.mono HB3.out.size))
      have HX4 := Lib.hid (HX3.out.trans (hb.mono (by have := HX3.out.size; simpa using this)))
      have HC := Lib.hid (And.intro q1 (And.intro q2 (And.intro q3 (And.intro q4 hb.size))))
      have K2 := Lib.hid (fun W h => clone_any c W h)
      clear hb a0 a1 a2 a3 a4 b0 b1 b2 b3 b4 q1 q2 q3 q4
      obtain ⟨cb, cra, crc, crs, ⟨cn, cpa, cpc, cps, cka, ckc, cks⟩⟩ := c
      dsimp only [Tr.val, Tr.rv, Nd.val, Nd.name, Nd.pv, Nd.kv, Nd.pa, Nd.pc, Nd.props, Nd.ka, Nd.kc, Nd.kids]
      have HA4 := Lib.hid (Below.alloc (Below.refl w4.heap.size w4) (Nat.le_refl _) (.cells #[Value.int .u32 cb, Value.slice cra crs.length crc, Value.string cn, Value.slice cpa cps.length cpc, Value.slice cka cks.length ckc] 29))
      go_wp2_with fail
      refine (K2.out (w4.alloc (.cells #[Value.int .u32 cb, Value.slice cra crs.length crc, Value.string cn, Value.slice cpa cps.length cpc, Value.slice cka cks.length ckc] 29)) (HC.out.1.on HA4.out)).mono ?_
      rintro e w5 ⟨d, rfl, q1, q2, q3, _, hb⟩
      have HB5 := Lib.hid (HB4.out.trans ((HA4.out.trans (hb.mono HA4.out.size)).mono HB4.out.size))
      have HX5 := Lib.hid (HX4.out.trans ((HA4.out.trans (hb.mono HA4.out.size)).mono (by have := HX4.out.size; simpa using this)))
      have HY5 := Lib.hid (hb.mono (B' := w4.heap.size + 1) (by simp))
      have HD := Lib.hid (And.intro q1 (And.intro q2 q3))
      clear hb q1 q2 q3
      obtain ⟨db, dra, drc, drs, ⟨dn, dpa, dpc, dps, dka, dkc, dks⟩⟩ := d
      dsimp only [Tr.val, Tr.rv, Nd.val, Nd.name, Nd.pv, Nd.kv, Nd.pa, Nd.pc, Nd.props, Nd.ka, Nd.kc, Nd.kids]
      have HA5 := Lib.hid (Below.alloc (Below.refl w5.heap.size w5) (Nat.le_refl _) (.cells #[Value.int .u32 db, Value.slice dra drs.length drc, Value.string dn, Value.slice dpa dps.length dpc, Value.slice dka dks.length dkc] 29))
      obtain ⟨w6, hw6⟩ : ∃ w6, w6 = w5.alloc (.cells #[Value.int .u32 db, Value.slice dra drs.length drc, Value.string dn, Value.slice dpa dps.length dpc, Value.slice dka dks.length dkc] 29) := ⟨_, rfl⟩
      have HB6 : Hid (Below w.heap.size w w6) := hw6 ▸ HB5.out.trans (HA5.out.mono HB5.out.size)
      have HX6 : Hid (Below (w.heap.size + 2) ((w.alloc (.cells #[Value.int .u32 boot, Value.slice ra rs.length rc, Value.string nm, Value.slice pa ps.length pc, Value.slice ka ks.length kc] 29)).alloc (.cells #[Value.int .u32 boot', Value.slice ra' rs'.length rc', Value.string nm', Value.slice pa' ps'.length pc', Value.slice ka' ks'.length kc'] 29)) w6) := hw6 ▸ HX5.out.trans (HA5.out.mono (by have := HX5.out.size; simpa using this))
      have HY6 : Hid (Below (w4.heap.size + 1) (w4.alloc (.cells #[Value.int .u32 cb, Value.slice cra crs.length crc, Value.string cn, Value.slice cpa cps.length cpc, Value.slice cka cks.length ckc] 29)) w6) := hw6 ▸ HY5.out.trans (HA5.out.mono (by have := HY5.out.size; simpa using this))
      have HD6 : Hid ((⟨db, dra, drc, drs, .mk dn dpa dpc dps dka dkc dks⟩ : Tr).In w6 w6.heap.size) := hw6 ▸ HD.out.1.on HA5.out
      have D6 : Hid (w6.cell? ⟨w5.heap.size, 0, none⟩ = some (Value.int .u32 db) ∧ w6.cell? ⟨w5.heap.size, 1, none⟩ = some (Value.slice dra drs.length drc) ∧ w6.cell? ⟨w5.heap.size, 2, none⟩ = some (Value.string dn) ∧ w6.cell? ⟨w5.heap.size, 3, none⟩ = some (Value.slice dpa dps.length dpc) ∧ w6.cell? ⟨w5.heap.size, 4, none⟩ = some (Value.slice dka dks.length dkc)) := hw6 ▸ ⟨World.cell?_alloc_new _ _ _ _, World.cell?_alloc_new _ _ _ _, World.cell?_alloc_new _ _ _ _, World.cell?_alloc_new _ _ _ _, World.cell?_alloc_new _ _ _ _⟩
      have Y6 : Hid (w6.cell? ⟨w4.heap.size, 0, none⟩ = some (Value.int .u32 cb) ∧ w6.cell? ⟨w4.heap.size, 1, none⟩ = some (Value.slice cra crs.length crc) ∧ w6.cell? ⟨w4.heap.size, 2, none⟩ = some (Value.string cn) ∧ w6.cell? ⟨w4.heap.size, 3, none⟩ = some (Value.slice cpa cps.length cpc) ∧ w6.cell? ⟨w4.heap.size, 4, none⟩ = some (Value.slice cka cks.length ckc)) := ⟨(HY6.out.cell (p := ⟨w4.heap.size, 0, none⟩) (by simp)).trans (World.cell?_alloc_new _ _ _ _), (HY6.out.cell (p := ⟨w4.heap.size, 1, none⟩) (by simp)).trans (World.cell?_alloc_new _ _ _ _), (HY6.out.cell (p := ⟨w4.heap.size, 2, none⟩) (by simp)).trans (World.cell?_alloc_new _ _ _ _), (HY6.out.cell (p := ⟨w4.heap.size, 3, none⟩) (by simp)).trans (World.cell?_alloc_new _ _ _ _), (HY6.out.cell (p := ⟨w4.heap.size, 4, none⟩) (by simp)).trans (World.cell?_alloc_new _ _ _ _)⟩
      have HL : Hid (w.heap.size + 2 ≤ w3.heap.size ∧ w3.heap.size ≤ w4.heap.size ∧ w4.heap.size + 1 ≤ w5.heap.size ∧ w5.heap.size < w6.heap.size) := ⟨by have := HX3.out.size; simpa using this, HC.out.2.2.2.2, by have := HY5.out.size; simpa using this, by rw [hw6]; simp⟩
      have HR6 : Hid ((Nd.mk cn cpa cpc cps cka ckc cks).In w6 w4.heap.size) := HC.out.1.root.under ((HA4.out.trans (HY6.out.mono (Nat.le_succ _))))
      have y3 : (w5.alloc (.cells #[Value.int .u32 db, Value.slice dra drs.length drc, Value.string dn, Value.slice dpa dps.length dpc, Value.slice dka dks.length dkc] 29)).cell? ⟨w4.heap.size, 3, none⟩ = some (Value.slice cpa cps.length cpc) := by rw [← hw6]; exact Y6.out.2.2.2.1
      have HW6 := Lib.hid hw6
      clear hw6
      go_wp2_with fail
      rw [← HW6.out]
      clear y3
      have HM := Lib.hid HC.out.2.2.2.1
      have HQ := Lib.hid HC.out.2.1.2
      have HFZ : Hid (∀ a : Addr, a.block < w4.heap.size → w6.frozen? a = w4.frozen? a) := fun a ha => (HY6.out.frozen (Nat.lt_succ_of_lt ha)).trans (World.frozen?_alloc_old _ _ _ (Nat.ne_of_lt ha))
      have hcl : cps.length ≤ 9223372036854775807 ∧ cks.length ≤ 9223372036854775807 := ⟨Nat.le_trans HR6.out.plen.1 HR6.out.plen.2, Nat.le_trans HR6.out.klen.1 HR6.out.klen.2⟩
      obtain ⟨hcl1, hcl2⟩ := hcl
      clear HW6
      go_loopw [33] (fun i wr => ∃ k : Nat, k ≤ cps.length ∧ i = .int .i64 k ∧ Wrt w3.heap.size w4.heap.size (Nd.mk cn cpa cpc cps cka ckc cks) w6 wr ∧ Below w.heap.size w wr) (fun i _ => cps.length - (intOf i).toNat)
      case atStart => exact ⟨0, Nat.zero_le _, rfl, Wrt.start HR6.out, HB6.out⟩
      case round =>
        obtain ⟨k, hk, rfl, hwr, hb⟩ := hrel
        have HWr := Lib.hid hwr
        have HB := Lib.hid hb
        have y3 := (hwr.out ⟨w4.heap.size, 3, none⟩ (.inr (Nat.le_refl _))).trans Y6.out.2.2.2.1
        clear hwr hb
        by_cases hlt : k < cps.length
        · have HPM : Hid (cps[k] ∈ (Nd.mk cn cpa cpc cps cka ckc cks).props) := List.getElem_mem hlt
          obtain ⟨p, hp⟩ : ∃ p, p = cps[k] := ⟨_, rfl⟩
          have HPM' : Hid (p ∈ (Nd.mk cn cpa cpc cps cka ckc cks).props) := by rw [hp]; exact HPM.out
          obtain ⟨g, o, eg, hg, _, _⟩ := HR6.out.pcell (i := k) hlt
          have c1 : wr.cell? ⟨g, o + k * 2 + 1, none⟩ = some p.val := by rw [hp]; exact HWr.out.prow g o eg k hlt
          have HPR : Hid (∀ wr, Wrt w3.heap.size w4.heap.size (Nd.mk cn cpa cpc cps cka ckc cks) w6 wr → wr.cell? ⟨g, o + k * 2 + 1, none⟩ = some p.val) := fun wr h => by rw [hp]; exact h.prow g o eg k hlt
          have HEG := Lib.hid eg
          replace eg : cpa = _ := eg
          subst eg
          obtain ⟨pn, pad, pcap, pzs⟩ := p
          replace c1 : _ = some (Value.slice pad pzs.length pcap) := c1
          have hzl : pzs.length ≤ 9223372036854775807 := Nat.le_trans (HR6.out.prop HPM'.out).1.2 (by omega)
          clear hp hg
          go_wp2_with fail
          clear c1 y3
          go_loopw [44] (fun j wr => ∃ l : Nat, l ≤ pzs.length ∧ j = .int .i64 l ∧ Wrt w3.heap.size w4.heap.size (Nd.mk cn (some ⟨g, o, none⟩) cpc cps cka ckc cks) w6 wr ∧ Below w.heap.size w wr) (fun j _ => pzs.length - (intOf j).toNat)
          case atStart => exact ⟨0, Nat.zero_le _, rfl, HWr.out, HB.out⟩
          case round =>
            clear HWr HB
            obtain ⟨l, hl, rfl, hwr, hb⟩ := hrel
            have HWr := Lib.hid hwr
            have HB := Lib.hid hb
            have y3 := (hwr.out ⟨w4.heap.size, 3, none⟩ (.inr (Nat.le_refl _))).trans Y6.out.2.2.2.1
            have c1 := HPR.out _ hwr
            replace c1 : _ = some (Value.slice pad pzs.length pcap) := c1
            clear hwr hb
            by_cases hll : l < pzs.length
            · obtain ⟨b, eb, fz, hgb⟩ := HM.out.vals _ HPM'.out (by show 0 < pzs.length; omega)
              obtain ⟨b', o', eb', hbh, _⟩ := (HR6.out.prop HPM'.out).2.1.at_ (by show 0 < pzs.length; omega)
              have hblo := HQ.out.parts.2.1 _ HPM'.out (by show 0 < pzs.length; omega) b 0 eb
              obtain ⟨x, hx⟩ := HWr.out.vals _ HPM'.out b eb l hll
              have hbh' : b < w4.heap.size := by
                have e2 := eb.symm.trans eb'
                obtain ⟨rfl, _⟩ : b = b' ∧ 0 = o' := by simpa using e2
                exact hbh
              have hfr : wr.frozen? ⟨b, l, none⟩ = false := (HWr.out.fr _).trans ((HFZ.out ⟨b, l, none⟩ hbh').trans (fz l))
              have T1 := Lib.hid (HWr.out.byte HPM'.out eb hblo hbh' hgb l v)
              have T2 := Lib.hid (HB.out.setCell (p := ⟨b, l, none⟩) (show w.heap.size ≤ b by have := HL.out.1; omega) (.int .u8 v))
              replace eb : pad = _ := eb
              subst eb
              clear eb' hbh hblo hbh' fz hgb
              go_wp2
              go_roundw
              case rel => exact ⟨l + 1, by omega, by go_num, T1.out, T2.out⟩
              case measure => simp [intOf]; omega
            · go_wp2
              go_roundw
              case rel => exact ⟨k + 1, by omega, by go_num, HWr.out, HB.out⟩
              case measure => simp [intOf]; omega
        · have y4 := (HWr.out.out ⟨w4.heap.size, 4, none⟩ (.inr (Nat.le_refl _))).trans Y6.out.2.2.2.2
          have HK0 : Hid (Wrk w3.heap.size w4.heap.size (Nd.mk cn cpa cpc cps cka ckc cks) w6 wr) := ⟨HWr.out.out, HWr.out.fr, HWr.out.sz, HWr.out.krow⟩
          have HB00 := Lib.hid HB.out
          clear y3 HWr HB
          go_wp2_with fail
          clear y4
          go_loopw [63] (fun i wr => ∃ k : Nat, k ≤ cks.length ∧ i = .int .i64 k ∧ Wrk w3.heap.size w4.heap.size (Nd.mk cn cpa cpc cps cka ckc cks) w6 wr ∧ Below w.heap.size w wr) (fun i _ => cks.length - (intOf i).toNat)
          case atStart => exact ⟨0, Nat.zero_le _, rfl, HK0.out, HB00.out⟩
          case round =>
            clear HK0 HB00
            obtain ⟨k, hk, rfl, hwr, hb⟩ := hrel
            have HWr := Lib.hid hwr
            have HB := Lib.hid hb
            have y4 := (hwr.out ⟨w4.heap.size, 4, none⟩ (.inr (Nat.le_refl _))).trans Y6.out.2.2.2.2
            clear hwr hb
            by_cases hlt : k < cks.length
            · obtain ⟨g, eg, fz⟩ := HM.out.row (show 0 < cks.length by omega)
              obtain ⟨g', o', eg', hgh, _⟩ := HR6.out.kcell (i := k) hlt
              have hgh' : g < w4.heap.size := by
                have e2 := eg.symm.trans eg'
                obtain ⟨rfl, _⟩ : g = g' ∧ 0 = o' := by simpa using e2
                exact hgh
              have hglo := HQ.out.parts.2.2.1 (show 0 < cks.length by omega) g 0 eg
              obtain ⟨x, hx⟩ := HWr.out.krow g 0 eg k hlt
              rw [Nat.zero_add] at hx
              have hfr : wr.frozen? ⟨g, k * 3, none⟩ = false := (HWr.out.fr _).trans ((HFZ.out ⟨g, k * 3, none⟩ hgh').trans (fz _))
              have T1 := Lib.hid (HWr.out.name hglo hgh' (k * 3) (.string ⟨#[111, 116, 104, 101, 114]⟩))
              have T2 := Lib.hid (HB.out.setCell (p := ⟨g, k * 3, none⟩) (show w.heap.size ≤ g by have := HL.out.1; omega) (.string ⟨#[111, 116, 104, 101, 114]⟩))
              replace eg : cka = _ := eg
              subst eg
              clear eg' hgh hglo hgh' fz
              go_wp2
              go_roundw
              case rel => exact ⟨k + 1, by omega, by go_num, T1.out, T2.out⟩
              case measure => simp [intOf]; omega
            · clear y4
              have AW6 := AB.out _ HX6.out
              obtain ⟨A0, A1, A2, A3, A4, B0, B1, B2, B3, B4⟩ := AW6
              have lw0 : w.heap.size < w3.heap.size := by have := HL.out.1; omega
              have lw1 : w.heap.size + 1 < w3.heap.size := by have := HL.out.1; omega
              have lw5 : w4.heap.size ≤ w5.heap.size := by have := HL.out.2.2.1; omega
              have ST : Hid (wr.cell? ⟨w.heap.size, 0, none⟩ = some (Value.int .u32 boot) ∧ wr.cell? ⟨w.heap.size, 1, none⟩ = some (Value.slice ra rs.length rc) ∧ wr.cell? ⟨w.heap.size, 2, none⟩ = some (Value.string nm) ∧ wr.cell? ⟨w.heap.size, 3, none⟩ = some (Value.slice pa ps.length pc) ∧ wr.cell? ⟨w.heap.size, 4, none⟩ = some (Value.slice ka ks.length kc) ∧ wr.cell? ⟨w.heap.size + 1, 0, none⟩ = some (Value.int .u32 boot') ∧ wr.cell? ⟨w.heap.size + 1, 1, none⟩ = some (Value.slice ra' rs'.length rc') ∧ wr.cell? ⟨w.heap.size + 1, 2, none⟩ = some (Value.string nm') ∧ wr.cell? ⟨w.heap.size + 1, 3, none⟩ = some (Value.slice pa' ps'.length pc') ∧ wr.cell? ⟨w.heap.size + 1, 4, none⟩ = some (Value.slice ka' ks'.length kc') ∧ wr.cell? ⟨w5.heap.size, 0, none⟩ = some (Value.int .u32 db) ∧ wr.cell? ⟨w5.heap.size, 1, none⟩ = some (Value.slice dra drs.length drc) ∧ wr.cell? ⟨w5.heap.size, 2, none⟩ = some (Value.string dn) ∧ wr.cell? ⟨w5.heap.size, 3, none⟩ = some (Value.slice dpa dps.length dpc) ∧ wr.cell? ⟨w5.heap.size, 4, none⟩ = some (Value.slice dka dks.length dkc)) := ⟨(HWr.out.out ⟨w.heap.size, 0, none⟩ (.inl lw0)).trans A0, (HWr.out.out ⟨w.heap.size, 1, none⟩ (.inl lw0)).trans A1, (HWr.out.out ⟨w.heap.size, 2, none⟩ (.inl lw0)).trans A2, (HWr.out.out ⟨w.heap.size, 3, none⟩ (.inl lw0)).trans A3, (HWr.out.out ⟨w.heap.size, 4, none⟩ (.inl lw0)).trans A4, (HWr.out.out ⟨w.heap.size + 1, 0, none⟩ (.inl lw1)).trans B0, (HWr.out.out ⟨w.heap.size + 1, 1, none⟩ (.inl lw1)).trans B1, (HWr.out.out ⟨w.heap.size + 1, 2, none⟩ (.inl lw1)).trans B2, (HWr.out.out ⟨w.heap.size + 1, 3, none⟩ (.inl lw1)).trans B3, (HWr.out.out ⟨w.heap.size + 1, 4, none⟩ (.inl lw1)).trans B4, (HWr.out.out ⟨w5.heap.size, 0, none⟩ (.inr lw5)).trans D6.out.1, (HWr.out.out ⟨w5.heap.size, 1, none⟩ (.inr lw5)).trans D6.out.2.1, (HWr.out.out ⟨w5.heap.size, 2, none⟩ (.inr lw5)).trans D6.out.2.2.1, (HWr.out.out ⟨w5.heap.size, 3, none⟩ (.inr lw5)).trans D6.out.2.2.2.1, (HWr.out.out ⟨w5.heap.size, 4, none⟩ (.inr lw5)).trans D6.out.2.2.2.2⟩
              have HDn : Hid ((⟨db, dra, drc, drs, .mk dn dpa dpc dps dka dkc dks⟩ : Tr).In wr wr.heap.size) := by
                have h1 := HD6.out.keep2 (lo := w4.heap.size) (w' := wr) (fun a h1 _ => HWr.out.out a (.inr h1)) ⟨fun h0 b o e => by have := HD.out.2.1.1 h0 b o e; simp at this; omega, HD.out.2.1.2.low (by simp)⟩
                rw [HWr.out.sz]
                exact h1
              have E3 := Lib.hid (fun W h h' => reftree_any (⟨boot, ra, rc, rs, .mk nm pa pc ps ka kc ks⟩ : Tr) (⟨db, dra, drc, drs, .mk dn dpa dpc dps dka dkc dks⟩ : Tr) W h h' true (sameT_trans HC.out.2.2.1 HD.out.2.2))
              have BX : Hid (∀ W : World, Below wr.heap.size wr W → W.cell? ⟨w.heap.size, 0, none⟩ = some (Value.int .u32 boot) ∧ W.cell? ⟨w.heap.size, 1, none⟩ = some (Value.slice ra rs.length rc) ∧ W.cell? ⟨w.heap.size, 2, none⟩ = some (Value.string nm) ∧ W.cell? ⟨w.heap.size, 3, none⟩ = some (Value.slice pa ps.length pc) ∧ W.cell? ⟨w.heap.size, 4, none⟩ = some (Value.slice ka ks.length kc) ∧ W.cell? ⟨w.heap.size + 1, 0, none⟩ = some (Value.int .u32 boot') ∧ W.cell? ⟨w.heap.size + 1, 1, none⟩ = some (Value.slice ra' rs'.length rc') ∧ W.cell? ⟨w.heap.size + 1, 2, none⟩ = some (Value.string nm') ∧ W.cell? ⟨w.heap.size + 1, 3, none⟩ = some (Value.slice pa' ps'.length pc') ∧ W.cell? ⟨w.heap.size + 1, 4, none⟩ = some (Value.slice ka' ks'.length kc') ∧ W.cell? ⟨w5.heap.size, 0, none⟩ = some (Value.int .u32 db) ∧ W.cell? ⟨w5.heap.size, 1, none⟩ = some (Value.slice dra drs.length drc) ∧ W.cell? ⟨w5.heap.size, 2, none⟩ = some (Value.string dn) ∧ W.cell? ⟨w5.heap.size, 3, none⟩ = some (Value.slice dpa dps.length dpc) ∧ W.cell? ⟨w5.heap.size, 4, none⟩ = some (Value.slice dka dks.length dkc)) := fun W h => ⟨(h.cell (p := ⟨w.heap.size, 0, none⟩) (show w.heap.size < wr.heap.size by rw [HWr.out.sz]; have := HL.out; omega)).trans ST.out.1, (h.cell (p := ⟨w.heap.size, 1, none⟩) (show w.heap.size < wr.heap.size by rw [HWr.out.sz]; have := HL.out; omega)).trans ST.out.2.1, (h.cell (p := ⟨w.heap.size, 2, none⟩) (show w.heap.size < wr.heap.size by rw [HWr.out.sz]; have := HL.out; omega)).trans ST.out.2.2.1, (h.cell (p := ⟨w.heap.size, 3, none⟩) (show w.heap.size < wr.heap.size by rw [HWr.out.sz]; have := HL.out; omega)).trans ST.out.2.2.2.1, (h.cell (p := ⟨w.heap.size, 4, none⟩) (show w.heap.size < wr.heap.size by rw [HWr.out.sz]; have := HL.out; omega)).trans ST.out.2.2.2.2.1, (h.cell (p := ⟨w.heap.size + 1, 0, none⟩) (show w.heap.size + 1 < wr.heap.size by rw [HWr.out.sz]; have := HL.out; omega)).trans ST.out.2.2.2.2.2.1, (h.cell (p := ⟨w.heap.size + 1, 1, none⟩) (show w.heap.size + 1 < wr.heap.size by rw [HWr.out.sz]; have := HL.out; omega)).trans ST.out.2.2.2.2.2.2.1, (h.cell (p := ⟨w.heap.size + 1, 2, none⟩) (show w.heap.size + 1 < wr.heap.size by rw [HWr.out.sz]; have := HL.out; omega)).trans ST.out.2.2.2.2.2.2.2.1, (h.cell (p := ⟨w.heap.size + 1, 3, none⟩) (show w.heap.size + 1 < wr.heap.size by rw [HWr.out.sz]; have := HL.out; omega)).trans ST.out.2.2.2.2.2.2.2.2.1, (h.cell (p := ⟨w.heap.size + 1, 4, none⟩) (show w.heap.size + 1 < wr.heap.size by rw [HWr.out.sz]; have := HL.out; omega)).trans ST.out.2.2.2.2.2.2.2.2.2.1, (h.cell (p := ⟨w5.heap.size, 0, none⟩) (show w5.heap.size < wr.heap.size by rw [HWr.out.sz]; have := HL.out; omega)).trans ST.out.2.2.2.2.2.2.2.2.2.2.1, (h.cell (p := ⟨w5.heap.size, 1, none⟩) (show w5.heap.size < wr.heap.size by rw [HWr.out.sz]; have := HL.out; omega)).trans ST.out.2.2.2.2.2.2.2.2.2.2.2.1, (h.cell (p := ⟨w5.heap.size, 2, none⟩) (show w5.heap.size < wr.heap.size by rw [HWr.out.sz]; have := HL.out; omega)).trans ST.out.2.2.2.2.2.2.2.2.2.2.2.2.1, (h.cell (p := ⟨w5.heap.size, 3, none⟩) (show w5.heap.size < wr.heap.size by rw [HWr.out.sz]; have := HL.out; omega)).trans ST.out.2.2.2.2.2.2.2.2.2.2.2.2.2.1, (h.cell (p := ⟨w5.heap.size, 4, none⟩) (show w5.heap.size < wr.heap.size by rw [HWr.out.sz]; have := HL.out; omega)).trans ST.out.2.2.2.2.2.2.2.2.2.2.2.2.2.2⟩
              have HDD : Hid (w.heap.size + 2 ≤ wr.heap.size ∧ w5.heap.size < wr.heap.size) := by rw [HWr.out.sz]; have := HL.out; exact ⟨by omega, by omega⟩
              clear A0 A1 A2 A3 A4 B0 B1 B2 B3 B4 lw0 lw1 lw5
              obtain ⟨a0, a1, a2, a3, a4, b0, b1, b2, b3, b4, d0, d1, d2, d3, d4⟩ := ST.out
              go_wp2_with fail
              refine wp_region_held_drew (S := fun W => W.cell? ⟨w.heap.size, 0, none⟩ = some (Value.int .u32 boot) ∧ W.cell? ⟨w.heap.size, 1, none⟩ = some (Value.slice ra rs.length rc) ∧ W.cell? ⟨w.heap.size, 2, none⟩ = some (Value.string nm) ∧ W.cell? ⟨w.heap.size, 3, none⟩ = some (Value.slice pa ps.length pc) ∧ W.cell? ⟨w.heap.size, 4, none⟩ = some (Value.slice ka ks.length kc) ∧ W.cell? ⟨w.heap.size + 1, 0, none⟩ = some (Value.int .u32 boot') ∧ W.cell? ⟨w.heap.size + 1, 1, none⟩ = some (Value.slice ra' rs'.length rc') ∧ W.cell? ⟨w.heap.size + 1, 2, none⟩ = some (Value.string nm') ∧ W.cell? ⟨w.heap.size + 1, 3, none⟩ = some (Value.slice pa' ps'.length pc') ∧ W.cell? ⟨w.heap.size + 1, 4, none⟩ = some (Value.slice ka' ks'.length kc') ∧ W.cell? ⟨w5.heap.size, 0, none⟩ = some (Value.int .u32 db) ∧ W.cell? ⟨w5.heap.size, 1, none⟩ = some (Value.slice dra drs.length drc) ∧ W.cell? ⟨w5.heap.size, 2, none⟩ = some (Value.string dn) ∧ W.cell? ⟨w5.heap.size, 3, none⟩ = some (Value.slice dpa dps.length dpc) ∧ W.cell? ⟨w5.heap.size, 4, none⟩ = some (Value.slice dka dks.length dkc)) (by kernel_rfl) ST.out (fun hHeld => ?_)
              refine held_take 0 rfl (by kernel_rfl) (by kernel_rfl) (by kernel_rfl) (fun _ _ _ h => h) (by rfl) hHeld (v := ?_) (fun w hSw => ?_) (fun _ => ?_)
              rotate_left
              · ((try dsimp only at hSw); go_simp; (try with_reducible rfl))
              simp only [Act.put, List.setIfInBounds_toArray, List.set_cons_zero, List.set_cons_succ]
              refine held_take 1 rfl (by kernel_rfl) (by kernel_rfl) (by kernel_rfl) (fun _ _ _ h => h) (by rfl) hHeld (v := ?_) (fun w hSw => ?_) (fun _ => ?_)
              rotate_left
              · ((try dsimp only at hSw); go_simp; (try with_reducible rfl))
              simp only [Act.put, List.setIfInBounds_toArray, List.set_cons_zero, List.set_cons_succ]
              refine held_take 3 rfl (by kernel_rfl) (by kernel_rfl) (by kernel_rfl) (fun _ _ _ h => h) (by rfl) hHeld (v := ?_) (fun w hSw => ?_) (fun _ => ?_)
              rotate_left
              · ((try dsimp only at hSw); go_simp; (try with_reducible rfl))
              simp only [Act.put, List.setIfInBounds_toArray, List.set_cons_zero, List.set_cons_succ]
              refine held_take 4 rfl (by kernel_rfl) (by kernel_rfl) (by kernel_rfl) (fun _ _ _ h => h) (by rfl) hHeld (v := ?_) (fun w hSw => ?_) (fun _ => ?_)
              rotate_left
              · ((try dsimp only at hSw); go_simp; (try with_reducible rfl))
              simp only [Act.put, List.setIfInBounds_toArray, List.set_cons_zero, List.set_cons_succ]
              have PB0 := Lib.hid ((Below.refl wr.heap.size wr).drew)
              have HE0 := Lib.hid HB.out.drew
              refine held_call 2 (by kernel_rfl) rfl (by rfl) (fun K hK => ?_)
              go_simp
              refine (E1.out _ (HI.out.on HE0.out) (HJ.out.on HE0.out)).mono ?_
              rintro e v1 ⟨rfl, hb⟩
              have PB1 := Lib.hid (PB0.out.trans (hb.mono PB0.out.size))
              have HE1 := Lib.hid (HB.out.trans (PB1.out.mono HB.out.size))
              clear hb
              dsimp only
              refine hK.out _ _ (BX.out _ PB1.out) (fun hHeld => ?_)
              clear hK K
              refine held_call 5 (by kernel_rfl) rfl (by rfl) (fun K hK => ?_)
              go_simp
              refine (E2.out _ (HI.out.on HE1.out) (HJ.out.on HE1.out)).mono ?_
              rintro e v2 ⟨rfl, hb⟩
              have PB2 := Lib.hid (PB1.out.trans (hb.mono PB1.out.size))
              have HE2 := Lib.hid (HB.out.trans (PB2.out.mono HB.out.size))
              clear hb
              dsimp only
              refine hK.out _ _ (BX.out _ PB2.out) (fun hHeld => ?_)
              clear hK K
              refine held_take 6 rfl (by kernel_rfl) (by kernel_rfl) (by kernel_rfl) (fun _ _ _ h => h) (by rfl) hHeld (v := ?_) (fun w hSw => ?_) (fun _ => ?_)
              rotate_left
              · ((try dsimp only at hSw); go_simp; (try with_reducible rfl))
              simp only [Act.put, List.setIfInBounds_toArray, List.set_cons_zero, List.set_cons_succ]
              refine held_take 7 rfl (by kernel_rfl) (by kernel_rfl) (by kernel_rfl) (fun _ _ _ h => h) (by rfl) hHeld (v := ?_) (fun w hSw => ?_) (fun _ => ?_)
              rotate_left
              · ((try dsimp only at hSw); go_simp; (try with_reducible rfl))
              simp only [Act.put, List.setIfInBounds_toArray, List.set_cons_zero, List.set_cons_succ]
              refine held_take 8 rfl (by kernel_rfl) (by kernel_rfl) (by kernel_rfl) (fun _ _ _ h => h) (by rfl) hHeld (v := ?_) (fun w hSw => ?_) (fun _ => ?_)
              rotate_left
              · ((try dsimp only at hSw); go_simp; (try with_reducible rfl))
              simp only [Act.put, List.setIfInBounds_toArray, List.set_cons_zero, List.set_cons_succ]
              refine held_take 9 rfl (by kernel_rfl) (by kernel_rfl) (by kernel_rfl) (fun _ _ _ h => h) (by rfl) hHeld (v := ?_) (fun w hSw => ?_) (fun _ => ?_)
              rotate_left
              · ((try dsimp only at hSw); go_simp; (try with_reducible rfl))
              simp only [Act.put, List.setIfInBounds_toArray, List.set_cons_zero, List.set_cons_succ]
              refine held_call 10 (by kernel_rfl) rfl (by rfl) (fun K hK => ?_)
              go_simp
              refine (E3.out _ (HI.out.on HE2.out) (HDn.out.on PB2.out)).mono ?_
              rintro e v3 ⟨rfl, hb⟩
              have PB3 := Lib.hid (PB2.out.trans (hb.mono PB2.out.size))
              have HE3 := Lib.hid (HB.out.trans (PB3.out.mono HB.out.size))
              clear hb
              dsimp only
              refine hK.out _ _ (BX.out _ PB3.out) (fun hHeld => ?_)
              clear hK K
              refine held_take 11 rfl (by kernel_rfl) (by kernel_rfl) (by kernel_rfl) (fun _ _ _ h => h) (by rfl) hHeld (v := ?_) (fun w hSw => ?_) (fun _ => ?_)
              rotate_left
              · ((try dsimp only at hSw); go_simp; (try with_reducible rfl))
              simp only [Act.put, List.setIfInBounds_toArray, List.set_cons_zero, List.set_cons_succ]
              refine held_take 12 rfl (by kernel_rfl) (by kernel_rfl) (by kernel_rfl) (fun _ _ _ h => h) (by rfl) hHeld (v := ?_) (fun w hSw => ?_) (fun _ => ?_)
              rotate_left
              · ((try dsimp only at hSw); go_simp; (try with_reducible rfl))
              simp only [Act.put, List.setIfInBounds_toArray, List.set_cons_zero, List.set_cons_succ]
              refine held_take 13 rfl (by kernel_rfl) (by kernel_rfl) (by kernel_rfl) (fun _ _ _ h => h) (by rfl) hHeld (v := ?_) (fun w hSw => ?_) (fun _ => ?_)
              rotate_left
              · ((try dsimp only at hSw); go_simp; (try with_reducible rfl))
              simp only [Act.put, List.setIfInBounds_toArray, List.set_cons_zero, List.set_cons_succ]
              refine held_take 14 rfl (by kernel_rfl) (by kernel_rfl) (by kernel_rfl) (fun _ _ _ h => h) (by rfl) hHeld (v := ?_) (fun w hSw => ?_) (fun _ => ?_)
              rotate_left
              · ((try dsimp only at hSw); go_simp; (try with_reducible rfl))
              simp only [Act.put, List.setIfInBounds_toArray, List.set_cons_zero, List.set_cons_succ]
              refine held_take 15 rfl (by kernel_rfl) (by kernel_rfl) (by kernel_rfl) (fun _ _ _ h => h) (by rfl) hHeld (v := ?_) (fun w hSw => ?_) (fun _ => ?_)
              rotate_left
              · ((try dsimp only at hSw); go_simp; (try with_reducible rfl))
              simp only [Act.put, List.setIfInBounds_toArray, List.set_cons_zero, List.set_cons_succ]
              refine held_take 16 rfl (by kernel_rfl) (by kernel_rfl) (by kernel_rfl) (fun _ _ _ h => h) (by rfl) hHeld (v := ?_) (fun w hSw => ?_) (fun _ => ?_)
              rotate_left
              · ((try dsimp only at hSw); go_simp; (try with_reducible rfl))
              simp only [Act.put, List.setIfInBounds_toArray, List.set_cons_zero, List.set_cons_succ]
              refine held_take 18 rfl (by kernel_rfl) (by kernel_rfl) (by kernel_rfl) (fun _ _ _ h => h) (by rfl) hHeld (v := ?_) (fun w hSw => ?_) (fun _ => ?_)
              rotate_left
              · ((try dsimp only at hSw); go_simp; (try with_reducible rfl))
              simp only [Act.put, List.setIfInBounds_toArray, List.set_cons_zero, List.set_cons_succ]
              refine held_take 19 rfl (by kernel_rfl) (by kernel_rfl) (by kernel_rfl) (fun _ _ _ h => h) (by rfl) hHeld (v := ?_) (fun w hSw => ?_) (fun _ => ?_)
              rotate_left
              · ((try dsimp only at hSw); go_simp; (try with_reducible rfl))
              simp only [Act.put, List.setIfInBounds_toArray, List.set_cons_zero, List.set_cons_succ]
              refine held_take 20 rfl (by kernel_rfl) (by kernel_rfl) (by kernel_rfl) (fun _ _ _ h => h) (by rfl) hHeld (v := ?_) (fun w hSw => ?_) (fun _ => ?_)
              rotate_left
              · ((try dsimp only at hSw); go_simp; (try with_reducible rfl))
              simp only [Act.put, List.setIfInBounds_toArray, List.set_cons_zero, List.set_cons_succ]
              refine held_take 21 rfl (by kernel_rfl) (by kernel_rfl) (by kernel_rfl) (fun _ _ _ h => h) (by rfl) hHeld (v := ?_) (fun w hSw => ?_) (fun _ => ?_)
              rotate_left
              · ((try dsimp only at hSw); go_simp; (try with_reducible rfl))
              simp only [Act.put, List.setIfInBounds_toArray, List.set_cons_zero, List.set_cons_succ]
              refine held_call 17 (by kernel_rfl) rfl (by rfl) (fun K hK => ?_)
              go_simp
              refine (E4.out _ (HI.out.on HE3.out).root (HJ.out.on HE3.out).root).mono ?_
              rintro e v4 ⟨rfl, hb⟩
              have PB4 := Lib.hid (PB3.out.trans (hb.mono PB3.out.size))
              have HE4 := Lib.hid (HB.out.trans (PB4.out.mono HB.out.size))
              clear hb
              dsimp only
              refine hK.out _ _ (BX.out _ PB4.out) (fun hHeld => ?_)
              clear hK K
              refine held_call 22 (by kernel_rfl) rfl (by rfl) (fun K hK => ?_)
              go_simp
              refine (E5.out _ (HI.out.on HE4.out).root (HJ.out.on HE4.out).root).mono ?_
              rintro e v5 ⟨rfl, hb⟩
              have PB5 := Lib.hid (PB4.out.trans (hb.mono PB4.out.size))
              have HE5 := Lib.hid (HB.out.trans (PB5.out.mono HB.out.size))
              clear hb
              dsimp only
              refine hK.out _ _ (BX.out _ PB5.out) (fun hHeld => ?_)
              clear hK K
              refine held_take 23 rfl (by kernel_rfl) (by kernel_rfl) (by kernel_rfl) (fun _ _ _ h => h) (by rfl) hHeld (v := ?_) (fun w hSw => ?_) (fun _ => ?_)
              rotate_left
              · ((try dsimp only at hSw); go_simp; (try with_reducible rfl))
              simp only [Act.put, List.setIfInBounds_toArray, List.set_cons_zero, List.set_cons_succ]
              refine held_take 24 rfl (by kernel_rfl) (by kernel_rfl) (by kernel_rfl) (fun _ _ _ h => h) (by rfl) hHeld (v := ?_) (fun w hSw => ?_) (fun _ => ?_)
              rotate_left
              · ((try dsimp only at hSw); go_simp; (try with_reducible rfl))
              simp only [Act.put, List.setIfInBounds_toArray, List.set_cons_zero, List.set_cons_succ]
              refine held_take 25 rfl (by kernel_rfl) (by kernel_rfl) (by kernel_rfl) (fun _ _ _ h => h) (by rfl) hHeld (v := ?_) (fun w hSw => ?_) (fun _ => ?_)
              rotate_left
              · ((try dsimp only at hSw); go_simp; (try with_reducible rfl))
              simp only [Act.put, List.setIfInBounds_toArray, List.set_cons_zero, List.set_cons_succ]
              refine wpAnyH_done (by kernel_rfl) ?_ _
              go_wp2
              go_ret
              exact ⟨rfl, HE5.out⟩
end Go.Proofs.Ythfonfecangmcaa
