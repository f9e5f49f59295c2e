/-
  Layer 8: the program's check: the first error in the handles of a tree.
-/
import Derived.Test.YtapfcbcojnplaaaRHand
import Derived.Maps.Own
import Derived.Maps.OwnSet
import Derived.Maps.OwnOps
import Derived.Maps.OwnIn
import Derived.Maps.Views
namespace Go.Proofs.Ytapfcbcojnplaaa
open Go.RowKit Go.Maps Go.WideMaps
set_option linter.unusedVariables false
set_option linter.unusedSimpArgs false
attribute [local go_sem] Oper.semAt_some

/-- The key that a handle is; the set of the handles so far. -/
def keyH (h : Int) : Lit := .int .u32 h
def SnH (acc : List (Int × List Nat)) : DataW Unit := setOf (.agg []) (acc.map fun x => keyH x.1)
theorem SnH_snoc (acc : List (Int × List Nat)) (h : Int) (p : List Nat) : SnH (acc ++ [(h, p)]) = (SnH acc).put (keyH h) (.agg []) := by
  unfold SnH
  rw [List.map_append, ← setOf_snoc]
  rfl
theorem has_SnH (acc : List (Int × List Nat)) (h : Int) : Maps.has (SnH acc) (keyH h) = acc.any (fun x => decide (x.1 = h)) := by
  unfold SnH
  rw [Bool.eq_iff_iff, has_setOf _ _ _ (fun y hy => by obtain ⟨_, _, rfl⟩ := List.mem_map.1 hy; trivial), List.any_map]
  have e : ((fun x => x.sameKey (keyH h)) ∘ fun x : Int × List Nat => keyH x.1) = fun x => decide (x.1 = h) := by
    funext x
    simp [keyH, Lit.sameKey]
  rw [← e]
theorem refsFrom_append (root : Nd) : ∀ (p q : List (List Nat)) (acc : List (Int × List Nat)), refsFrom root acc (p ++ q) = if (refsFrom root acc p).2 = 0 then refsFrom root (refsFrom root acc p).1 q else ([], (refsFrom root acc p).2)
  | [], q, acc => by rw [List.nil_append]; simp [refsFrom]
  | x :: p, q, acc => by
    rw [List.cons_append, refsFrom, refsFrom]
    by_cases h : (refStep root acc x).2 = 0
    · rw [if_pos h, if_pos h, refsFrom_append root p q]
    · rw [if_neg h, if_neg h, if_neg h]
theorem lawU : Keyed Try.prog 22 := int_keyed Try.underlying22
theorem zeroU (w : World) : (zeroValue 109).run Try.prog w = .ok (.agg #[]) w := by kernel_rfl
theorem keyH_ok {h : Int} (h0 : 0 ≤ h) (h1 : h ≤ 4294967295) : keyOf Try.prog 22 (.int .u32 h) = some (keyH h) := keyOf_int_mk Try.underlying22 (by simp [Lit.wf, IntKind.min, IntKind.max, IntKind.signed, IntKind.bits]; omega)
theorem mapO {w w' : World} {b n : Nat} {k : TypeId} {R : Value → Option (DataW Unit × List MemPlace)} {D : DataW Unit} (h : w.ownsMap Try.prog k R b n D) (hb : w'.heap[b]? = w.heap[b]?) : w'.ownsMap Try.prog k R b n D := by
  obtain ⟨es, clock, h1, h2⟩ := h
  exact ⟨es, clock, hb.trans h1, h2⟩
theorem mapO_lt {w : World} {b n : Nat} {k : TypeId} {R : Value → Option (DataW Unit × List MemPlace)} {D : DataW Unit} (h : w.ownsMap Try.prog k R b n D) : b < w.heap.size := by
  obtain ⟨es, clock, h1, h2⟩ := h
  exact (Array.getElem?_eq_some_iff.1 h1).1

theorem allocs5 (w : World) (o0 o1 o2 o3 o4 : Obj) : (((((w.alloc o0).alloc o1).alloc o2).alloc o3).alloc o4).heap.size = w.heap.size + 5 ∧ (((((w.alloc o0).alloc o1).alloc o2).alloc o3).alloc o4).heap[w.heap.size + 1]? = some o1 ∧ (((((w.alloc o0).alloc o1).alloc o2).alloc o3).alloc o4).heap[w.heap.size + 2]? = some o2 ∧
    (((((w.alloc o0).alloc o1).alloc o2).alloc o3).alloc o4).heap[w.heap.size + 3]? = some o3 ∧ (((((w.alloc o0).alloc o1).alloc o2).alloc o3).alloc o4).heap[w.heap.size + 4]? = some o4 ∧ Below w.heap.size w (((((w.alloc o0).alloc o1).alloc o2).alloc o3).alloc o4) := by
  obtain ⟨w1, h1⟩ : ∃ w1, w.alloc o0 = w1 := ⟨_, rfl⟩
  obtain ⟨w2, h2⟩ : ∃ w2, w1.alloc o1 = w2 := ⟨_, rfl⟩
  obtain ⟨w3, h3⟩ : ∃ w3, w2.alloc o2 = w3 := ⟨_, rfl⟩
  obtain ⟨w4, h4⟩ : ∃ w4, w3.alloc o3 = w4 := ⟨_, rfl⟩
  obtain ⟨w5, h5⟩ : ∃ w5, w4.alloc o4 = w5 := ⟨_, rfl⟩
  have z1 : w1.heap.size = w.heap.size + 1 := by rw [← h1]; simp
  have z2 : w2.heap.size = w.heap.size + 2 := by rw [← h2]; simp [z1]
  have z3 : w3.heap.size = w.heap.size + 3 := by rw [← h3]; simp [z2]
  have z4 : w4.heap.size = w.heap.size + 4 := by rw [← h4]; simp [z3]
  have z5 : w5.heap.size = w.heap.size + 5 := by rw [← h5]; simp [z4]
  have b1 : Below w.heap.size w w1 := by rw [← h1]; exact (Below.refl _ _).alloc (Nat.le_refl _) _
  have b2 : Below w1.heap.size w1 w2 := by rw [← h2]; exact (Below.refl _ _).alloc (Nat.le_refl _) _
  have b3 : Below w2.heap.size w2 w3 := by rw [← h3]; exact (Below.refl _ _).alloc (Nat.le_refl _) _
  have b4 : Below w3.heap.size w3 w4 := by rw [← h4]; exact (Below.refl _ _).alloc (Nat.le_refl _) _
  have b5 : Below w4.heap.size w4 w5 := by rw [← h5]; exact (Below.refl _ _).alloc (Nat.le_refl _) _
  have n2 : w2.heap[w.heap.size + 1]? = some o1 := by rw [← z1, ← h2]; exact heap_alloc_new _ _
  have n3 : w3.heap[w.heap.size + 2]? = some o2 := by rw [← z2, ← h3]; exact heap_alloc_new _ _
  have n4 : w4.heap[w.heap.size + 3]? = some o3 := by rw [← z3, ← h4]; exact heap_alloc_new _ _
  have n5 : w5.heap[w.heap.size + 4]? = some o4 := by rw [← z4, ← h5]; exact heap_alloc_new _ _
  rw [h1, h2, h3, h4, h5]
  refine ⟨z5, ?_, ?_, ?_, n5, b1.trans ((b2.mono (by omega)).trans ((b3.mono (by omega)).trans ((b4.mono (by omega)).trans (b5.mono (by omega)))))⟩
  · rw [b5.block _ (by omega), b4.block _ (by omega), b3.block _ (by omega)]; exact n2
  · rw [b5.block _ (by omega), b4.block _ (by omega)]; exact n3
  · rw [b5.block _ (by omega)]; exact n4
/-- What one more place does to the handles so far. -/
theorem refs_next {R : Nd} {pre t : List (List Nat)} {p : List Nat} {acc : List (Int × List Nat)} {nd : Nd} {hv : Int} {fl : Bool} {er : Int} (h : refsFrom R [] pre = (acc, 0)) (ht : pre ++ [p] ++ t = placesN R []) (hat : nodeAt R p = some nd) (ho : oneV nd phName = (hv, fl, er)) :
    (er ≠ 0 → (refsOf R).2 = er) ∧ (er = 0 → fl = false → refsFrom R [] (pre ++ [p]) = (acc, 0)) ∧ (er = 0 → fl = true → (hv = 0 ∨ hv = 4294967295) → (refsOf R).2 = 11) ∧ (er = 0 → fl = true → ¬ (hv = 0 ∨ hv = 4294967295) → acc.any (fun x => decide (x.1 = hv)) = true → (refsOf R).2 = 9) ∧ (er = 0 → fl = true → ¬ (hv = 0 ∨ hv = 4294967295) → acc.any (fun x => decide (x.1 = hv)) = false → refsFrom R [] (pre ++ [p]) = (acc ++ [(hv, p)], 0)) := by
  have hs : refStep R acc p = if er ≠ 0 then ([], er) else if fl = false then (acc, 0) else if hv = 0 ∨ hv = 4294967295 then ([], 11) else if acc.any (fun x => decide (x.1 = hv)) = true then ([], 9) else (acc ++ [(hv, p)], 0) := by
    unfold refStep
    rw [hat]
    simp only [ho]
  have h1 : refsFrom R [] (pre ++ [p]) = if (refStep R acc p).2 = 0 then ((refStep R acc p).1, 0) else ([], (refStep R acc p).2) := by
    rw [refsFrom_append, h, if_pos rfl, refsFrom]
    simp only [refsFrom]
  have h2 : (refStep R acc p).2 ≠ 0 → (refsOf R).2 = (refStep R acc p).2 := fun hne => by
    rw [refsOf, ← ht, refsFrom_append, h1, if_neg hne, if_neg hne]
  refine ⟨fun he => ?_, fun he hf => ?_, fun he hf h3 => ?_, fun he hf h3 h4 => ?_, fun he hf h3 h4 => ?_⟩
  · rw [if_pos he] at hs
    rw [h2 (by rw [hs]; exact he), hs]
  · rw [if_neg (by simp [he]), if_pos hf] at hs
    rw [h1, hs]
    simp
  · rw [if_neg (by simp [he]), if_neg (by simp [hf]), if_pos h3] at hs
    rw [h2 (by rw [hs]; decide), hs]
  · rw [if_neg (by simp [he]), if_neg (by simp [hf]), if_neg h3, if_pos h4] at hs
    rw [h2 (by rw [hs]; decide), hs]
  · rw [if_neg (by simp [he]), if_neg (by simp [hf]), if_neg h3, if_neg (by simp [h4])] at hs
    rw [h1, hs]
    simp

set_option maxRecDepth 20000 in
set_option maxHeartbeats 8000000 in
theorem hcheck_any (t : Tr) (w : World) (hin : t.In w w.heap.size) (hh : heftN t.root ≤ 134217728) :
    Calls Try.prog 44 #[t.val] w fun e w' => e = .returned (.int .i64 (refsOf t.root).2) ∧ Below w.heap.size w w' := by
  have hmm := @run_makeMap Try.prog
  have HNA := Lib.hid (nodes_any t)
  have HNW := Lib.hid (fun (k : Nat) (W : World) (h : Below w.heap.size w W) hk => nodes_walks t w.heap.size k W (hin.under h) h.size hk hh)
  have HPN : Hid ((placesN t.root []).length ≤ 134217728) := Lib.hid (Nat.le_trans (places_len t.root []).1 hh)
  obtain ⟨R, hR⟩ : ∃ R, t.root = R := ⟨_, rfl⟩
  rw [hR] at HNW HPN ⊢
  clear hR hin hh
  obtain ⟨boot, ra, rc, rs, ⟨nm, pa, pc, ps, ka, kc, ks⟩⟩ := t
  simp only [tbox, Tr.val, Tr.rv, Nd.val, Nd.pv, Nd.kv, Nd.name, Nd.pa, Nd.pc, Nd.props, Nd.ka, Nd.kc, Nd.kids] at HNA HNW ⊢
  refine (callsIn_wide (n := 0)).1 ?_
  refine callsIn_of_wp_marks Try.func44 rfl trivial ?_ rfl
  simp only [Try.ntmps44, List.size_toArray, List.length_cons, List.length_nil, Nat.reduceAdd, Nat.reduceSub, Array.replicate_succ, Array.replicate_zero, List.push_toArray, List.append_toArray, List.nil_append, List.cons_append]
  gi_wp2_with (refine ⟨trivial, rfl, (callsIn_wide.2 (HNA.out _)).mono ?_⟩; rintro e W4 ⟨rfl, hW4⟩)
  clear hW4 HNA hmm
  obtain ⟨g, hg⟩ : ∃ g, w.heap.size = g := ⟨_, rfl⟩
  have HG := Lib.hid hg
  obtain ⟨W5, hW5⟩ : ∃ W5, (((((w.alloc (.cells #[.int .u32 boot, .slice ra rs.length rc, .string nm, .slice pa ps.length pc, .slice ka ks.length kc] 29)).alloc (.cells #[.int .i64 0] 35)).alloc (.map #[] 0)).alloc (.cells #[.map (some (w.heap.size + 1 + 1))] 105)).alloc (.cells #[.int .u32 boot, .slice ra rs.length rc, .string nm, .slice pa ps.length pc, .slice ka ks.length kc] 29)) = W5 := ⟨_, rfl⟩
  obtain ⟨s5, s1, s2, s3, s4, sb⟩ := allocs5 w (.cells #[.int .u32 boot, .slice ra rs.length rc, .string nm, .slice pa ps.length pc, .slice ka ks.length kc] 29) (.cells #[.int .i64 0] 35) (.map #[] 0) (.cells #[.map (some (w.heap.size + 1 + 1))] 105) (.cells #[.int .u32 boot, .slice ra rs.length rc, .string nm, .slice pa ps.length pc, .slice ka ks.length kc] 29)
  rw [hW5] at s5 s1 s2 s3 s4 sb ⊢
  clear hW5
  have HW5 := Lib.hid (HNW.out (w.heap.size + 4) W5 sb s4)
  rw [hg] at HNW HW5 s5 s1 s2 s3 s4 sb ⊢
  have HSB := Lib.hid sb
  have HS5 := Lib.hid s5
  have HI0 : Hid (∃ acc, refsFrom R [] [] = (acc, 0) ∧ acc.length ≤ ([] : List (List Nat)).length ∧ (¬ False ∧ ¬ False ∧ ¬ False) ∧ W5.heap[g + 1]? = some (.cells #[.int .i64 0] 35 (0, 0)) ∧ W5.heap[g + 3]? = some (.cells #[.map (some (g + 2))] 105 (0, 0)) ∧ W5.ownsMap Try.prog 22 unitElem (g + 2) acc.length (SnH acc) ∧ Below g w W5) :=
    Lib.hid ⟨[], rfl, Nat.le_refl _, ⟨id, id, id⟩, s1, s3, ⟨#[], 0, s2, ⟨by simp, Go.MapKept.stamped_empty 0, by simp⟩, Nat.le_refl _, by simp [SnH, setOf]⟩, sb⟩
  clear s1 s2 s3 s4 s5 sb hg HNW
  refine rangeFunc_iter (gf := 51) (lb := #[.pointer (some ⟨g + 4, 0, none⟩)]) rfl (enters_of Try.func51 (by kernel_rfl) rfl) HW5.out (Below.refl _ _) (by have := HS5.out; omega) (fun Wx p args h => by obtain ⟨A, c, nd, rfl, _⟩ := h; rfl) (g + 5) (by have := HS5.out; omega) (fun _ => False) (fun k h => h.elim)
    (fun M pre Wx => ∃ acc, refsFrom R [] pre = (acc, 0) ∧ acc.length ≤ pre.length ∧ (¬ M (g + 1) ∧ ¬ M (g + 2) ∧ ¬ M (g + 3)) ∧ Wx.heap[g + 1]? = some (.cells #[.int .i64 0] 35 (0, 0)) ∧ Wx.heap[g + 3]? = some (.cells #[.map (some (g + 2))] 105 (0, 0)) ∧ Wx.ownsMap Try.prog 22 unitElem (g + 2) acc.length (SnH acc) ∧ Below g w Wx)
    (fun c M pre Wx => c = .ret ∧ Below g w Wx ∧ ¬ M (g + 1) ∧ Wx.heap[g + 1]? = some (.cells #[.int .i64 (refsOf R).2] 35 (0, 0)))
    (fun T T' s A C hs hB hT ht hst => by
      obtain ⟨acc, a1, a2, ⟨a3, a4, a5⟩, a6, a7, a8, a9⟩ := hs
      have hn : ∀ k, k < g + 5 → ¬ T k → ¬ T' k := fun k hk hnk h => (ht.fresh k h).elim hnk (fun h => by omega)
      exact ⟨acc, a1, a2, ⟨hn _ (by omega) a3, hn _ (by omega) a4, hn _ (by omega) a5⟩, (ht.same _ (by omega) a3).trans a6, (ht.same _ (by omega) a5).trans a7, mapO a8 (ht.same _ (by omega) a4), a9.trans ((ht.below hT hB).mono (by omega))⟩)
    (fun c T T' s A C hs hB hT ht hst => ⟨hs.1, hs.2.1.trans ((ht.below hT hB).mono (by omega)), fun h => (ht.fresh _ h).elim hs.2.2.1 (fun h => by omega), (ht.same _ (by omega) hs.2.2.1).trans hs.2.2.2⟩) HI0.out ?round ?done ?stop
  case round =>
    rintro l2 M pre p args Wr hM hu hsz hbn ⟨acc, a1, a2, ⟨a3, a4, a5⟩, a6, a7, a8, a9⟩ ⟨A, c, nd, rfl, hat, hcel, hc1, hc2, hndin⟩ hpre
    have hrg := oneV_range hndin phName
    obtain ⟨hv, fl, er, hov⟩ : ∃ hv fl er, oneV nd phName = (hv, fl, er) := ⟨_, _, _, rfl⟩
    rw [hov] at hrg
    have HRN : Hid _ := Lib.hid (refs_next a1 (t := hpre.choose) hpre.choose_spec hat hov)
    -- the node's box of this round
    obtain ⟨Wc, hWc⟩ : ∃ Wc, Wc = Wr.alloc (.cells #[.string nd.name, nd.pv, nd.kv] 27) := ⟨_, rfl⟩
    have hcs : Wc.heap.size = Wr.heap.size + 1 := by rw [hWc]; simp
    have hbc : Below Wr.heap.size Wr Wc := by rw [hWc]; exact (Below.refl _ _).alloc (Nat.le_refl _) _
    have hcn : Wc.heap[Wr.heap.size]? = some (.cells #[.string nd.name, nd.pv, nd.kv] 27 (0, 0)) := by rw [hWc]; exact heap_alloc_new _ _
    have hgr : g + 5 ≤ Wr.heap.size := by have := HS5.out; omega
    have huc : Ups (g + 5) M Wc := hu.more (by omega)
    have hkc : Kp g M Wr Wc := Kp.of_below hbc (by omega) hu
    have HIC : Hid (∃ acc, refsFrom R [] pre = (acc, 0) ∧ acc.length ≤ pre.length ∧ (¬ M (g + 1) ∧ ¬ M (g + 2) ∧ ¬ M (g + 3)) ∧ Wc.heap[g + 1]? = some (.cells #[.int .i64 0] 35 (0, 0)) ∧ Wc.heap[g + 3]? = some (.cells #[.map (some (g + 2))] 105 (0, 0)) ∧ Wc.ownsMap Try.prog 22 unitElem (g + 2) acc.length (SnH acc) ∧ Below g w Wc) :=
      Lib.hid ⟨acc, a1, a2, ⟨a3, a4, a5⟩, (hbc.block _ (by omega)).trans a6, (hbc.block _ (by omega)).trans a7, mapO a8 (hbc.block _ (by omega)), a9.trans hkc.below⟩
    have HKC := Lib.hid hkc
    have HRG := Lib.hid hrg
    have HUC := Lib.hid huc
    have HCS := Lib.hid hcs
    have HCN := Lib.hid hcn
    have HGR := Lib.hid hgr
    have HNI := Lib.hid (hndin.under hkc.below)
    have HONE := Lib.hid (fun Wx (h : nd.In Wx Wx.heap.size) => oneOK nd ⟨#[112, 104, 97, 110, 100, 108, 101]⟩ Wx h (by decide))
    have HOV : Hid (oneV nd ⟨#[112, 104, 97, 110, 100, 108, 101]⟩ = (hv, fl, er)) := Lib.hid hov
    have HA1 := Lib.hid a1
    have HA3 : Hid (acc.length ≤ pre.length) := Lib.hid a2
    have HA2 : Hid (acc.length + 1 ≤ 134217728) := Lib.hid (by have h1 := hpre.length_le; have h2 := HPN.out; rw [List.length_append, List.length_singleton] at h1; omega)
    clear hat hcel hc1 hc2 hndin hpre hov hcs hbc hcn huc hkc hsz hu hbn hM a1 a2 a3 a4 a5 a6 a7 a8 a9 hrg hgr
    obtain ⟨xn, xpa, xpc, xps, xka, xkc, xks⟩ := nd
    simp only [Nd.val, Nd.pv, Nd.kv, Nd.name, Nd.pa, Nd.pc, Nd.props, Nd.ka, Nd.kc, Nd.kids] at hWc HCN HONE ⊢
    gi_wp2
    rw [← hWc]
    refine ⟨HIC.out, HKC.out, ?_⟩
    clear hWc
    intro W2 acc2 x1 x2 x3 x4 x5 x6 x7 x8 x9 ht2 hcl2 hfz2
    obtain rfl : acc2 = acc := by rw [HA1.out] at x1; exact (Prod.mk.inj x1).1.symm
    have hW2s : Wc.heap.size ≤ W2.heap.size := ht2.size
    have hgc : g + 5 ≤ Wc.heap.size := by have := HGR.out; have := HCS.out; omega
    have hin2 := (HNI.out.keep (w' := W2) (fun a _ => hcl2 a)).more (B' := W2.heap.size) (by omega)
    have HC := Lib.hid (HONE.out W2 hin2)
    have HU2 := Lib.hid (ht2.ups HUC.out hgc)
    have HX3 := Lib.hid (And.intro x3 (And.intro x4 x5))
    have HX6 := Lib.hid x6
    have HX7 := Lib.hid x7
    have HX8 := Lib.hid x8
    have HX9 := Lib.hid x9
    have HS2 : Hid (g + 5 ≤ W2.heap.size) := Lib.hid (by omega)
    have b0 := (hcl2 ⟨Wr.heap.size, 0, none⟩).trans (Lib.cell_of_heap HCN.out 0)
    have b1 := (hcl2 ⟨Wr.heap.size, 1, none⟩).trans (Lib.cell_of_heap HCN.out 1)
    have b2 := (hcl2 ⟨Wr.heap.size, 2, none⟩).trans (Lib.cell_of_heap HCN.out 2)
    have e0 : (#[Value.string xn, .slice xpa xps.length xpc, .slice xka xks.length xkc] : Array Value)[0]? = some (.string xn) := rfl
    have e1 : (#[Value.string xn, .slice xpa xps.length xpc, .slice xka xks.length xkc] : Array Value)[1]? = some (.slice xpa xps.length xpc) := rfl
    have e2 : (#[Value.string xn, .slice xpa xps.length xpc, .slice xka xks.length xkc] : Array Value)[2]? = some (.slice xka xks.length xkc) := rfl
    rw [e0] at b0
    rw [e1] at b1
    rw [e2] at b2
    have hov := HOV.out
    obtain ⟨O, hO⟩ : ∃ O, oneV (Nd.mk xn xpa xpc xps xka xkc xks) ⟨#[112, 104, 97, 110, 100, 108, 101]⟩ = O := ⟨_, rfl⟩
    rw [hO] at HC hov
    subst hov
    clear hO HOV HONE
    simp only [oneVal] at HC
    clear e0 e1 e2 x1 x2 x3 x4 x5 x6 x7 x8 x9 ht2 hcl2 hfz2 hin2 hgc hW2s
    gi_wp2_with fail
    refine ⟨trivial, rfl, (CallsIn.inRound l2 (callsIn_wide.2 HC.out)).mono ?_⟩
    rintro e W3 ⟨rfl, hb3⟩
    have y6 : W3.heap[g + 1]? = some (.cells #[.int .i64 0] 35 (0, 0)) := (hb3.block _ (by have := HS2.out; omega)).trans HX6.out
    have y7 : W3.heap[g + 3]? = some (.cells #[.map (some (g + 2))] 105 (0, 0)) := (hb3.block _ (by have := HS2.out; omega)).trans HX7.out
    have HY6 := Lib.hid y6
    have HY7 := Lib.hid y7
    have HY8 := Lib.hid (mapO HX8.out (hb3.block _ (by have := HS2.out; omega)))
    have HK3 := Lib.hid (Kp.of_below (n := g) hb3 (by have := HS2.out; omega) HU2.out)
    have HB3 := Lib.hid (HX9.out.trans (hb3.mono (by have := HS2.out; omega)))
    have HS3 : Hid (g + 5 ≤ W3.heap.size) := Lib.hid (by have := HS2.out; have := hb3.size; omega)
    have c0 : W3.cell? ⟨g + 1, 0, none⟩ = some (.int .i64 0) := by rw [Lib.cell_of_heap y6]; rfl
    have f0 := Lib.frozen_of_heap y6 0
    have c3 : W3.cell? ⟨g + 3, 0, none⟩ = some (.map (some (g + 2))) := by rw [Lib.cell_of_heap y7]; rfl
    obtain ⟨rn1, rn2, rn3, rn4, rn5⟩ := HRN.out
    -- the end of a round that says what is wrong
    have HEND : ∀ (z : Int), (refsOf R).2 = z → ∀ W4 : World, W4 = W3 ∨ W4 = W3.alloc (.cells #[] 109) → Kp g M W2 (W4.setCell ⟨g + 1, 0, none⟩ (.int .i64 z)) ∧ Below g w (W4.setCell ⟨g + 1, 0, none⟩ (.int .i64 z)) ∧ ¬ M (g + 1) ∧ (W4.setCell ⟨g + 1, 0, none⟩ (.int .i64 z)).heap[g + 1]? = some (.cells #[.int .i64 (refsOf R).2] 35 (0, 0)) := by
      intro z hz W4 hw4
      have hb4 : Below W3.heap.size W3 W4 := by
        rcases hw4 with rfl | rfl
        · exact Below.refl _ _
        · exact (Below.refl _ _).alloc (Nat.le_refl _) _
      have hs3 := HS3.out
      have hk4 : Kp g M W3 W4 := Kp.of_below hb4 (by omega) (HU2.out.more hb3.size)
      have y4 := (hb4.block (g + 1) (by omega)).trans HY6.out
      refine ⟨(HK3.out.trans hk4).trans (Kp.setCell W4 (by omega) HX3.out.1 0 _), (HB3.out.trans hk4.below).setCell (p := ⟨g + 1, 0, none⟩) (by show g ≤ g + 1; omega) _, HX3.out.1, ?_⟩
      rw [hz]
      simp [World.setCell, Array.getElem?_modify, y4]
    have HE := Lib.hid HEND
    clear HEND y6 y7 b0 b1 b2 HC
    by_cases her : er = 0
    · subst her
      cases fl
      · have HN := Lib.hid (rn2 rfl rfl)
        clear rn1 rn2 rn3 rn4 rn5 c0 f0 c3
        gi_wp2
        exact ⟨HK3.out, acc2, HN.out, by have := HA3.out; rw [List.length_append]; omega, HX3.out, HY6.out, HY7.out, HY8.out, HB3.out⟩
      · by_cases h3 : hv = 0 ∨ hv = 4294967295
        · have HN := Lib.hid (rn3 rfl rfl h3)
          have HRR := HRG.out
          by_cases h0 : hv = 0
          · subst h0
            clear rn1 rn2 rn3 rn4 rn5 c3 h3
            gi_wp2
            obtain ⟨k1, k2, k3, k4⟩ := HE.out 11 HN.out W3 (.inl rfl)
            exact ⟨k1, rfl, k2, k3, k4⟩
          · obtain rfl : hv = 4294967295 := by omega
            clear rn1 rn2 rn3 rn4 rn5 c3 h3
            gi_wp2
            obtain ⟨k1, k2, k3, k4⟩ := HE.out 11 HN.out W3 (.inl rfl)
            exact ⟨k1, rfl, k2, k3, k4⟩
        · have HKO := Lib.hid (keyH_ok HRG.out.1 HRG.out.2)
          have hhas := has_SnH acc2 hv
          have q0 : (hv == 0) = false := by rw [beq_eq_false_iff_ne]; omega
          have q1 : decide (hv > 4294967294) = false := decide_eq_false (by have := HRG.out.2; omega)
          have hal : Below W3.heap.size W3 (W3.alloc (.cells #[] 109)) := (Below.refl _ _).alloc (Nat.le_refl _) _
          have c0a := Lib.cell?_alloc_some (.cells #[] 109) c0
          have c3a := Lib.cell?_alloc_some (.cells #[] 109) c3
          have f0a : (W3.alloc (.cells #[] 109)).frozen? ⟨g + 1, 0, none⟩ = false := (World.frozen?_of_block (hal.block (g + 1) (by have := HS3.out; omega))).trans f0
          have HY8a := Lib.hid (mapO HY8.out (hal.block _ (by have := HS3.out; omega)))
          have HAL := Lib.hid hal
          clear hal
          cases hany : acc2.any (fun x => decide (x.1 = hv))
          · have HN := Lib.hid (rn5 rfl rfl h3 hany)
            rw [hany] at hhas
            clear rn1 rn2 rn3 rn4 rn5 h3 hany c0 f0 c0a f0a
            gi_wp2_with (first
              | (gi_at_lookup; refine wpListIn_lookup_own_unit _ rfl _ _ 105 rfl 22 109 lawU Try.underlying105 (zeroU _) (g + 2) acc2.length _ rfl HY8.out _ _ rfl HKO.out ?_)
              | (gi_at_mapUpdate; refine wpListIn_mapUpdate_own _ rfl _ _ _ 105 rfl 22 109 lawU Try.underlying105 unitElem (g + 2) acc2.length _ rfl HY8a.out (by have := HA2.out; unfold maxLen; omega) _ _ _ rfl rfl HKO.out (.agg []) [] unitElem_mk ?_; intro w5 hown5 hgrow5))
            have hs3 := HS3.out
            have hs4 := HAL.out.size
            have hku : Ups (g + 5) M (W3.alloc (.cells #[] 109)) := HU2.out.more (Nat.le_trans HK3.out.below.size hs4)
            have k4 : Kp g M (W3.alloc (.cells #[] 109)) w5 := Kp.grown hgrow5 hku (by omega) (fun k e => by cases e; exact ⟨by omega, HX3.out.2.1⟩)
            have k3 : Kp g M W3 (W3.alloc (.cells #[] 109)) := Kp.of_below HAL.out (by omega) (HU2.out.more HK3.out.below.size)
            have oth : ∀ k, k < g + 5 → k ≠ g + 2 → w5.heap[k]? = W3.heap[k]? := fun k hk hne => (hgrow5.block k (by omega) (fun e => hne (Option.some.inj e))).trans (HAL.out.block k (by omega))
            refine ⟨(HK3.out.trans k3).trans k4, acc2 ++ [(hv, p)], HN.out, ?_, HX3.out, (oth _ (by omega) (by omega)).trans HY6.out, (oth _ (by omega) (by omega)).trans HY7.out, ?_, HB3.out.trans (k3.trans k4).below⟩
            · have := HA3.out
              rw [List.length_append, List.length_append]
              simp only [List.length_singleton]
              omega
            · rw [SnH_snoc, List.length_append, List.length_singleton]
              exact hown5
          · have HN := Lib.hid (rn4 rfl rfl h3 hany)
            rw [hany] at hhas
            clear rn1 rn2 rn3 rn4 rn5 h3 hany c3a
            gi_wp2_with (gi_at_lookup; refine wpListIn_lookup_own_unit _ rfl _ _ 105 rfl 22 109 lawU Try.underlying105 (zeroU _) (g + 2) acc2.length _ rfl HY8.out _ _ rfl HKO.out ?_)
            obtain ⟨k1, k2, k3, k4⟩ := HE.out 9 HN.out (W3.alloc (.cells #[] 109)) (.inr rfl)
            exact ⟨k1, rfl, k2, k3, k4⟩
    · have k1 : (er != 0) = true := by rw [bne_iff_ne]; exact her
      have HN := Lib.hid (rn1 her)
      clear rn1 rn2 rn3 rn4 rn5 c3 her
      gi_wp2
      obtain ⟨k1, k2, k3, k4⟩ := HE.out er HN.out W3 (.inl rfl)
      exact ⟨k1, rfl, k2, k3, k4⟩
  case done =>
    rintro D M Wd hM hu hsz hD ⟨acc, a1, a2, ⟨a3, a4, a5⟩, a6, a7, a8, a9⟩ hd
    have c0 : Wd.cell? ⟨g + 1, 0, none⟩ = some (.int .i64 0) := by rw [Lib.cell_of_heap a6]; rfl
    have f0 := Lib.frozen_of_heap a6 0
    have hDg := (hu D hD).1
    have hd2 : (Wd.setCell ⟨g + 1, 0, none⟩ (.int .i64 0)).heap[D]? = some (.deferred (some [])) := (Below.heap_setCell _ _ _ _ (by show D ≠ g + 1; omega)).trans hd
    have HBF : Hid (Below g w ((Wd.setCell ⟨g + 1, 0, none⟩ (.int .i64 0)).putObj D (.deferred none))) := Lib.hid ((a9.setCell (p := ⟨g + 1, 0, none⟩) (by show g ≤ g + 1; omega) _).trans ⟨rfl, rfl, rfl, by simp, fun k hk => World.putObj_heap_other (by omega)⟩)
    have r0 : ((Wd.setCell ⟨g + 1, 0, none⟩ (.int .i64 0)).putObj D (.deferred none)).cell? ⟨g + 1, 0, none⟩ = some (.int .i64 0) := (World.cell?_of_block (World.putObj_heap_other (by show g + 1 ≠ D; omega))).trans (World.cell?_setCell_same' _ _ _ (by rw [c0]; rfl))
    have HR : Hid ((refsOf R).2 = 0) := Lib.hid (by rw [refsOf, a1])
    clear a1 a2 a3 a4 a5 a6 a7 a8 a9 hu hsz hM
    gi_wp2
    refine ⟨by simp, .inl ⟨_, _, rfl, run_takeDeferred hd2, ?_⟩⟩
    refine ⟨.int .i64 0, by simp [results, Try.results44, go_sem, r0], by rw [HR.out], ?_⟩
    rw [HG.out]
    exact HBF.out
  case stop =>
    rintro D c M pre Wd hM hu hsz hD hpre ⟨rfl, hx1, hx2, hx3⟩ hd
    have c0 : Wd.cell? ⟨g + 1, 0, none⟩ = some (.int .i64 (refsOf R).2) := by rw [Lib.cell_of_heap hx3]; rfl
    have hDg := (hu D hD).1
    have HBF : Hid (Below g w (Wd.putObj D (.deferred none))) := Lib.hid (hx1.trans ⟨rfl, rfl, rfl, by simp, fun k hk => World.putObj_heap_other (by omega)⟩)
    have r0 : (Wd.putObj D (.deferred none)).cell? ⟨g + 1, 0, none⟩ = some (.int .i64 (refsOf R).2) := (World.cell?_of_block (World.putObj_heap_other (by show g + 1 ≠ D; omega))).trans c0
    clear hx1 hx2 hx3 hu hsz hM c0
    gi_wp2
    refine ⟨by simp, .inl ⟨_, _, rfl, run_takeDeferred hd, ?_⟩⟩
    refine ⟨.int .i64 (refsOf R).2, by simp [results, Try.results44, go_sem, r0], rfl, ?_⟩
    rw [HG.out]
    exact HBF.out
end Go.Proofs.Ytapfcbcojnplaaa
