/-
  Iter, part 3.
-/
import Derived.Test.YtcfinbapfhhpgaaGreatDoorIter2
import Derived.Maps.Own
import Derived.Maps.OwnSet
import Derived.Maps.OwnOps
import Derived.Maps.OwnIn
import Derived.Maps.Views
import Derived.Test.YtcfinbapfhhpgaaGreatDoorBase8
import Derived.Maps.AppendAt
import Derived.Laws.Pointers
import Derived.BigQuiet
import Derived.Test.YtcfinbapfhhpgaaGreatDoorShelf
import Derived.Test.YtcfinbapfhhpgaaGreatDoorBase1
namespace Go.Proofs.YtcfinbapfhhpgaaGreatDoor
open Go.RowKit
set_option linter.unusedVariables false
set_option linter.unusedSimpArgs false
set_option maxRecDepth 20000
set_option maxHeartbeats 16000000
section
open Go.RowKit Go.Maps Go.WideMaps
attribute [local go_sem] Oper.semAt_some
def keyH (h : Int) : Lit := .int .u32 h
def SnH (acc : List (Int × List Nat)) : DataW Unit := setOf (.agg []) (acc.map fun x => keyH x.1)
theorem SnH_snoc (acc : List (Int × List Nat)) (h : Int) (p : List Nat) : SnH (acc ++ [(h, p)]) = (SnH acc).put (keyH h) (.agg []) := by
 unfold SnH
 rw [List.map_append, <- setOf_snoc]
 rfl
theorem has_SnH (acc : List (Int × List Nat)) (h : Int) : Maps.has (SnH acc) (keyH h) = acc.any (fun x => decide (x.1 = h)) := by
 unfold SnH
 rw [Bool.eq_iff_iff, has_setOf _ _ _ (fun y hy => by obtain ⟨_, _, rfl⟩ := List.mem_map.1 hy; trivial), List.any_map]
 have e : ((fun x => x.sameKey (keyH h)) ∘ fun x : Int × List Nat => keyH x.1) = fun x => decide (x.1 = h) := by
  funext x
  simp [keyH, Lit.sameKey]
 rw [<- e]
theorem qco_ (root : Nd) : ∀ (p q : List (List Nat)) (acc : List (Int × List Nat)), qah_ root acc (p ++ q) = if (qah_ root acc p).2 = 0 then qah_ root (qah_ root acc p).1 q else ([], (qah_ root acc p).2)
 | [], q, acc => by rw [List.nil_append]; simp [qah_]
 | x :: p, q, acc => by
  rw [List.cons_append, qah_, qah_]
  by_cases h : (qau_ root acc x).2 = 0
  ·rw [if_pos h, if_pos h, qco_ root p q]
  ·rw [if_neg h, if_neg h, if_neg h]
theorem lawU : Keyed Tryz.prog 22 := int_keyed Tryz.underlying22
theorem zeroU (w : World) : (zeroValue 151).run Tryz.prog w = .ok (.agg #[]) w := by kernel_rfl
theorem qox_ {h : Int} (h0 : 0 <= h) (h1 : h <= 4294967295) : keyOf Tryz.prog 22 (.int .u32 h) = some (keyH h) := keyOf_int_mk Tryz.underlying22 (by simp [Lit.wf, IntKind.min, IntKind.max, IntKind.signed, IntKind.bits]; omega)
theorem mapO {w w' : World} {b n : Nat} {k : TypeId} {R : Value -> Option (DataW Unit × List MemPlace)} {D : DataW Unit} (h : w.ownsMap Tryz.prog k R b n D) (hb : w'.heap[b]? = w.heap[b]?) : w'.ownsMap Tryz.prog k R b n D := by
 obtain ⟨es, clock, h1, h2⟩ := h
 exact ⟨es, clock, hb.trans h1, h2⟩
theorem allocs5 (w : World) (o0 o1 o2 o3 o4 : Obj) : (((((w.alloc o0).alloc o1).alloc o2).alloc o3).alloc o4).heap.size = w.heap.size + 5 /\ (((((w.alloc o0).alloc o1).alloc o2).alloc o3).alloc o4).heap[w.heap.size + 1]? = some o1 /\ (((((w.alloc o0).alloc o1).alloc o2).alloc o3).alloc o4).heap[w.heap.size + 2]? = some o2 /\
  (((((w.alloc o0).alloc o1).alloc o2).alloc o3).alloc o4).heap[w.heap.size + 3]? = some o3 /\ (((((w.alloc o0).alloc o1).alloc o2).alloc o3).alloc o4).heap[w.heap.size + 4]? = some o4 /\ Below w.heap.size w (((((w.alloc o0).alloc o1).alloc o2).alloc o3).alloc o4) := by
 obtain ⟨w1, h1⟩ : ∃ w1, w.alloc o0 = w1 := ⟨_, rfl⟩
 obtain ⟨w2, h2⟩ : ∃ w2, w1.alloc o1 = w2 := ⟨_, rfl⟩
 obtain ⟨w3, h3⟩ : ∃ w3, w2.alloc o2 = w3 := ⟨_, rfl⟩
 obtain ⟨w4, h4⟩ : ∃ w4, w3.alloc o3 = w4 := ⟨_, rfl⟩
 obtain ⟨w5, h5⟩ : ∃ w5, w4.alloc o4 = w5 := ⟨_, rfl⟩
 have z1 : w1.heap.size = w.heap.size + 1 := by rw [<- h1]; simp
 have z2 : w2.heap.size = w.heap.size + 2 := by rw [<- h2]; simp [z1]
 have z3 : w3.heap.size = w.heap.size + 3 := by rw [<- h3]; simp [z2]
 have z4 : w4.heap.size = w.heap.size + 4 := by rw [<- h4]; simp [z3]
 have z5 : w5.heap.size = w.heap.size + 5 := by rw [<- h5]; simp [z4]
 have b1 : Below w.heap.size w w1 := by rw [<- h1]; exact (Below.refl _ _).alloc (Nat.le_refl _) _
 have b2 : Below w1.heap.size w1 w2 := by rw [<- h2]; exact (Below.refl _ _).alloc (Nat.le_refl _) _
 have b3 : Below w2.heap.size w2 w3 := by rw [<- h3]; exact (Below.refl _ _).alloc (Nat.le_refl _) _
 have b4 : Below w3.heap.size w3 w4 := by rw [<- h4]; exact (Below.refl _ _).alloc (Nat.le_refl _) _
 have b5 : Below w4.heap.size w4 w5 := by rw [<- h5]; exact (Below.refl _ _).alloc (Nat.le_refl _) _
 have n2 : w2.heap[w.heap.size + 1]? = some o1 := by rw [<- z1, <- h2]; exact heap_alloc_new _ _
 have n3 : w3.heap[w.heap.size + 2]? = some o2 := by rw [<- z2, <- h3]; exact heap_alloc_new _ _
 have n4 : w4.heap[w.heap.size + 3]? = some o3 := by rw [<- z3, <- h4]; exact heap_alloc_new _ _
 have n5 : w5.heap[w.heap.size + 4]? = some o4 := by rw [<- z4, <- h5]; exact heap_alloc_new _ _
 rw [h1, h2, h3, h4, h5]
 refine ⟨z5, ?_, ?_, ?_, n5, b1.trans ((b2.mono (by omega)).trans ((b3.mono (by omega)).trans ((b4.mono (by omega)).trans (b5.mono (by omega)))))⟩
 ·rw [b5.block _ (by omega), b4.block _ (by omega), b3.block _ (by omega)]; exact n2
 ·rw [b5.block _ (by omega), b4.block _ (by omega)]; exact n3
 ·rw [b5.block _ (by omega)]; exact n4
theorem refs_next {R : Nd} {pre t : List (List Nat)} {p : List Nat} {acc : List (Int × List Nat)} {nd : Nd} {hv : Int} {fl : Bool} {er : Int} (h : qah_ R [] pre = (acc, 0)) (ht : pre ++ [p] ++ t = qac_ R []) (hat : qaj_ R p = some nd) (ho : oneV nd qas_ = (hv, fl, er)) :
  (er ≠ 0 -> (qan_ R).2 = er) /\ (er = 0 -> fl = false -> qah_ R [] (pre ++ [p]) = (acc, 0)) /\ (er = 0 -> fl = true -> (hv = 0 \/ hv = 4294967295) -> (qan_ R).2 = 11) /\ (er = 0 -> fl = true -> ¬ (hv = 0 \/ hv = 4294967295) -> acc.any (fun x => decide (x.1 = hv)) = true -> (qan_ R).2 = 9) /\ (er = 0 -> fl = true -> ¬ (hv = 0 \/ hv = 4294967295) -> acc.any (fun x => decide (x.1 = hv)) = false -> qah_ R [] (pre ++ [p]) = (acc ++ [(hv, p)], 0)) := by
 have hs : qau_ R acc p = if er ≠ 0 then ([], er) else if fl = false then (acc, 0) else if hv = 0 \/ hv = 4294967295 then ([], 11) else if acc.any (fun x => decide (x.1 = hv)) = true then ([], 9) else (acc ++ [(hv, p)], 0) := by
  unfold qau_
  rw [hat]
  simp only [ho]
 have h1 : qah_ R [] (pre ++ [p]) = if (qau_ R acc p).2 = 0 then ((qau_ R acc p).1, 0) else ([], (qau_ R acc p).2) := by
  rw [qco_, h, if_pos rfl, qah_]
  simp only [qah_]
 have h2 : (qau_ R acc p).2 ≠ 0 -> (qan_ R).2 = (qau_ R acc p).2 := fun hne => by
  rw [qan_, <- ht, qco_, h1, if_neg hne, if_neg hne]
 refine ⟨fun he => ?_, fun he hf => ?_, fun he hf h3 => ?_, fun he hf h3 h4 => ?_, fun he hf h3 h4 => ?_⟩
 ·rw [if_pos he] at hs
  rw [h2 (by rw [hs]; exact he), hs]
 ·rw [if_neg (by simp [he]), if_pos hf] at hs
  rw [h1, hs]
  simp
 ·rw [if_neg (by simp [he]), if_neg (by simp [hf]), if_pos h3] at hs
  rw [h2 (by rw [hs]; decide), hs]
 ·rw [if_neg (by simp [he]), if_neg (by simp [hf]), if_neg h3, if_pos h4] at hs
  rw [h2 (by rw [hs]; decide), hs]
 ·rw [if_neg (by simp [he]), if_neg (by simp [hf]), if_neg h3, if_neg (by simp [h4])] at hs
  rw [h1, hs]
  simp
theorem qiy_ (t : Tr) (w : World) (hin : t.In w w.heap.size) (hh : heftN t.root <= 134217728) :
  Calls Tryz.prog 39 #[t.val] w fun e w' => e = .returned (.int .i64 (qan_ t.root).2) /\ Below w.heap.size w w' := by
 have hmm := @run_makeMap Tryz.prog
 have HNA := Lib.hid (qk6_ t)
 have HNW := Lib.hid (fun (k : Nat) (W : World) (h : Below w.heap.size w W) hk => qgz_ t w.heap.size k W (hin.under h) h.size hk hh)
 have HPN : Hid ((qac_ t.root []).length <= 134217728) := Lib.hid (Nat.le_trans (qbr_ t.root []).1 hh)
 obtain ⟨R, hR⟩ : ∃ R, t.root = R := ⟨_, rfl⟩
 rw [hR] at HNW HPN ⊢
 clear hR hin hh
 obtain ⟨boot, ra, rc, rs, ⟨nm, pa, pc, ps, ka, kc, ks⟩⟩ := t
 simp only [tbox, Tr.val, Tr.rv, Nd.val, Nd.pv, Nd.kv, Nd.name, Nd.pa, Nd.pc, Nd.props, Nd.ka, Nd.kc, Nd.kids] at HNA HNW ⊢
 refine (callsIn_wide (n := 0)).1 ?_
 refine callsIn_of_wp_marks Tryz.func39 rfl trivial ?_ rfl
 simp only [Tryz.ntmps39, List.size_toArray, List.length_cons, List.length_nil, Nat.reduceAdd, Nat.reduceSub, Array.replicate_succ, Array.replicate_zero, List.push_toArray, List.append_toArray, List.nil_append, List.cons_append]
 gi_wp2_with (refine ⟨trivial, rfl, (callsIn_wide.2 (HNA.out _)).mono ?_⟩; rintro e W4 ⟨rfl, hW4⟩)
 clear hW4 HNA hmm
 obtain ⟨g, hg⟩ : ∃ g, w.heap.size = g := ⟨_, rfl⟩
 have HG := Lib.hid hg
 obtain ⟨W5, hW5⟩ : ∃ W5, (((((w.alloc (.cells #[.int .u32 boot, .slice ra rs.length rc, .string nm, .slice pa ps.length pc, .slice ka ks.length kc] 29)).alloc (.cells #[.int .i64 0] 32)).alloc (.map #[] 0)).alloc (.cells #[.map (some (w.heap.size + 1 + 1))] 147)).alloc (.cells #[.int .u32 boot, .slice ra rs.length rc, .string nm, .slice pa ps.length pc, .slice ka ks.length kc] 29)) = W5 := ⟨_, rfl⟩
 obtain ⟨s5, s1, s2, s3, s4, sb⟩ := allocs5 w (.cells #[.int .u32 boot, .slice ra rs.length rc, .string nm, .slice pa ps.length pc, .slice ka ks.length kc] 29) (.cells #[.int .i64 0] 32) (.map #[] 0) (.cells #[.map (some (w.heap.size + 1 + 1))] 147) (.cells #[.int .u32 boot, .slice ra rs.length rc, .string nm, .slice pa ps.length pc, .slice ka ks.length kc] 29)
 rw [hW5] at s5 s1 s2 s3 s4 sb ⊢
 clear hW5
 have HW5 := Lib.hid (HNW.out (w.heap.size + 4) W5 sb s4)
 rw [hg] at HNW HW5 s5 s1 s2 s3 s4 sb ⊢
 have HSB := Lib.hid sb
 have HS5 := Lib.hid s5
 have HI0 : Hid (∃ acc, qah_ R [] [] = (acc, 0) /\ acc.length <= ([] : List (List Nat)).length /\ (¬ False /\ ¬ False /\ ¬ False) /\ W5.heap[g + 1]? = some (.cells #[.int .i64 0] 32 (0, 0)) /\ W5.heap[g + 3]? = some (.cells #[.map (some (g + 2))] 147 (0, 0)) /\ W5.ownsMap Tryz.prog 22 unitElem (g + 2) acc.length (SnH acc) /\ Below g w W5) :=
  Lib.hid ⟨[], rfl, Nat.le_refl _, ⟨id, id, id⟩, s1, s3, ⟨#[], 0, s2, ⟨by simp, Go.MapKept.stamped_empty 0, by simp⟩, Nat.le_refl _, by simp [SnH, setOf]⟩, sb⟩
 clear s1 s2 s3 s4 s5 sb hg HNW
 refine qb9_ (gf := 101) (lb := #[.pointer (some ⟨g + 4, 0, none⟩)]) rfl (enters_of Tryz.func101 (by kernel_rfl) rfl) HW5.out (Below.refl _ _) (by have := HS5.out; omega) (fun Wx p args h => by obtain ⟨A, c, nd, rfl, _⟩ := h; rfl) (g + 5) (by have := HS5.out; omega) (fun _ => False) (fun k h => h.elim)
  (fun M pre Wx => ∃ acc, qah_ R [] pre = (acc, 0) /\ acc.length <= pre.length /\ (¬ M (g + 1) /\ ¬ M (g + 2) /\ ¬ M (g + 3)) /\ Wx.heap[g + 1]? = some (.cells #[.int .i64 0] 32 (0, 0)) /\ Wx.heap[g + 3]? = some (.cells #[.map (some (g + 2))] 147 (0, 0)) /\ Wx.ownsMap Tryz.prog 22 unitElem (g + 2) acc.length (SnH acc) /\ Below g w Wx)
  (fun c M pre Wx => c = .ret /\ Below g w Wx /\ ¬ M (g + 1) /\ Wx.heap[g + 1]? = some (.cells #[.int .i64 (qan_ R).2] 32 (0, 0)))
  (fun T T' s A C hs hB hT ht hst => by
   obtain ⟨acc, a1, a2, ⟨a3, a4, a5⟩, a6, a7, a8, a9⟩ := hs
   have hn : ∀ k, k < g + 5 -> ¬ T k -> ¬ T' k := fun k hk hnk h => (ht.fresh k h).elim hnk (fun h => by omega)
   exact ⟨acc, a1, a2, ⟨hn _ (by omega) a3, hn _ (by omega) a4, hn _ (by omega) a5⟩, (ht.same _ (by omega) a3).trans a6, (ht.same _ (by omega) a5).trans a7, mapO a8 (ht.same _ (by omega) a4), a9.trans ((ht.below hT hB).mono (by omega))⟩)
  (fun c T T' s A C hs hB hT ht hst => ⟨hs.1, hs.2.1.trans ((ht.below hT hB).mono (by omega)), fun h => (ht.fresh _ h).elim hs.2.2.1 (fun h => by omega), (ht.same _ (by omega) hs.2.2.1).trans hs.2.2.2⟩) HI0.out ?round ?done ?stop
 case round =>
  rintro l2 M pre p args Wr hM hu hsz hbn ⟨acc, a1, a2, ⟨a3, a4, a5⟩, a6, a7, a8, a9⟩ ⟨A, c, nd, rfl, hat, hcel, hc1, hc2, hndin⟩ hpre
  have hrg := qcd_ hndin qas_
  obtain ⟨hv, fl, er, hov⟩ : ∃ hv fl er, oneV nd qas_ = (hv, fl, er) := ⟨_, _, _, rfl⟩
  rw [hov] at hrg
  have HRN : Hid _ := Lib.hid (refs_next a1 (t := hpre.choose) hpre.choose_spec hat hov)
  -- the node's box of this round
  obtain ⟨Wc, hWc⟩ : ∃ Wc, Wc = Wr.alloc (.cells #[.string nd.name, nd.pv, nd.kv] 27) := ⟨_, rfl⟩
  have hcs : Wc.heap.size = Wr.heap.size + 1 := by rw [hWc]; simp
  have hbc : Below Wr.heap.size Wr Wc := by rw [hWc]; exact (Below.refl _ _).alloc (Nat.le_refl _) _
  have hcn : Wc.heap[Wr.heap.size]? = some (.cells #[.string nd.name, nd.pv, nd.kv] 27 (0, 0)) := by rw [hWc]; exact heap_alloc_new _ _
  have hgr : g + 5 <= Wr.heap.size := by have := HS5.out; omega
  have huc : Ups (g + 5) M Wc := hu.more (by omega)
  have hkc : Kp g M Wr Wc := Kp.of_below hbc (by omega) hu
  have HIC : Hid (∃ acc, qah_ R [] pre = (acc, 0) /\ acc.length <= pre.length /\ (¬ M (g + 1) /\ ¬ M (g + 2) /\ ¬ M (g + 3)) /\ Wc.heap[g + 1]? = some (.cells #[.int .i64 0] 32 (0, 0)) /\ Wc.heap[g + 3]? = some (.cells #[.map (some (g + 2))] 147 (0, 0)) /\ Wc.ownsMap Tryz.prog 22 unitElem (g + 2) acc.length (SnH acc) /\ Below g w Wc) :=
   Lib.hid ⟨acc, a1, a2, ⟨a3, a4, a5⟩, (hbc.block _ (by omega)).trans a6, (hbc.block _ (by omega)).trans a7, mapO a8 (hbc.block _ (by omega)), a9.trans hkc.below⟩
  have HKC := Lib.hid hkc
  have HRG := Lib.hid hrg
  have HUC := Lib.hid huc
  have HCS := Lib.hid hcs
  have HCN := Lib.hid hcn
  have HGR := Lib.hid hgr
  have HNI := Lib.hid (hndin.under hkc.below)
  have HONE := Lib.hid (fun Wx (h : nd.In Wx Wx.heap.size) => oneOK nd ⟨#[112, 104, 97, 110, 100, 108, 101]⟩ Wx h (by decide))
  have HOV : Hid (oneV nd ⟨#[112, 104, 97, 110, 100, 108, 101]⟩ = (hv, fl, er)) := Lib.hid hov
  have HA1 := Lib.hid a1
  have HA3 : Hid (acc.length <= pre.length) := Lib.hid a2
  have HA2 : Hid (acc.length + 1 <= 134217728) := Lib.hid (by have h1 := hpre.length_le; have h2 := HPN.out; rw [List.length_append, List.length_singleton] at h1; omega)
  clear hat hcel hc1 hc2 hndin hpre hov hcs hbc hcn huc hkc hsz hu hbn hM a1 a2 a3 a4 a5 a6 a7 a8 a9 hrg hgr
  obtain ⟨xn, xpa, xpc, xps, xka, xkc, xks⟩ := nd
  simp only [Nd.val, Nd.pv, Nd.kv, Nd.name, Nd.pa, Nd.pc, Nd.props, Nd.ka, Nd.kc, Nd.kids] at hWc HCN HONE ⊢
  gi_wp2
  rw [<- hWc]
  refine ⟨HIC.out, HKC.out, ?_⟩
  clear hWc
  intro W2 acc2 x1 x2 x3 x4 x5 x6 x7 x8 x9 ht2 hcl2 hfz2
  obtain rfl : acc2 = acc := by rw [HA1.out] at x1; exact (Prod.mk.inj x1).1.symm
  have hW2s : Wc.heap.size <= W2.heap.size := ht2.size
  have hgc : g + 5 <= Wc.heap.size := by have := HGR.out; have := HCS.out; omega
  have hin2 := (HNI.out.keep (w' := W2) (fun a _ => hcl2 a)).more (B' := W2.heap.size) (by omega)
  have HC := Lib.hid (HONE.out W2 hin2)
  have HU2 := Lib.hid (ht2.ups HUC.out hgc)
  have HX3 := Lib.hid (And.intro x3 (And.intro x4 x5))
  have HX6 := Lib.hid x6
  have HX7 := Lib.hid x7
  have HX8 := Lib.hid x8
  have HX9 := Lib.hid x9
  have HS2 : Hid (g + 5 <= W2.heap.size) := Lib.hid (by omega)
  have b0 := (hcl2 ⟨Wr.heap.size, 0, none⟩).trans (Lib.cell_of_heap HCN.out 0)
  have b1 := (hcl2 ⟨Wr.heap.size, 1, none⟩).trans (Lib.cell_of_heap HCN.out 1)
  have b2 := (hcl2 ⟨Wr.heap.size, 2, none⟩).trans (Lib.cell_of_heap HCN.out 2)
  have e0 : (#[Value.string xn, .slice xpa xps.length xpc, .slice xka xks.length xkc] : Array Value)[0]? = some (.string xn) := rfl
  have e1 : (#[Value.string xn, .slice xpa xps.length xpc, .slice xka xks.length xkc] : Array Value)[1]? = some (.slice xpa xps.length xpc) := rfl
  have e2 : (#[Value.string xn, .slice xpa xps.length xpc, .slice xka xks.length xkc] : Array Value)[2]? = some (.slice xka xks.length xkc) := rfl
  rw [e0] at b0
  rw [e1] at b1
  rw [e2] at b2
  have hov := HOV.out
  obtain ⟨O, hO⟩ : ∃ O, oneV (Nd.mk xn xpa xpc xps xka xkc xks) ⟨#[112, 104, 97, 110, 100, 108, 101]⟩ = O := ⟨_, rfl⟩
  rw [hO] at HC hov
  subst hov
  clear hO HOV HONE
  simp only [qfz_] at HC
  clear e0 e1 e2 x1 x2 x3 x4 x5 x6 x7 x8 x9 ht2 hcl2 hfz2 hin2 hgc hW2s
  gi_wp2_with fail
  refine ⟨trivial, rfl, (CallsIn.inRound l2 (callsIn_wide.2 HC.out)).mono ?_⟩
  rintro e W3 ⟨rfl, hb3⟩
  have y6 : W3.heap[g + 1]? = some (.cells #[.int .i64 0] 32 (0, 0)) := (hb3.block _ (by have := HS2.out; omega)).trans HX6.out
  have y7 : W3.heap[g + 3]? = some (.cells #[.map (some (g + 2))] 147 (0, 0)) := (hb3.block _ (by have := HS2.out; omega)).trans HX7.out
  have HY6 := Lib.hid y6
  have HY7 := Lib.hid y7
  have HY8 := Lib.hid (mapO HX8.out (hb3.block _ (by have := HS2.out; omega)))
  have HK3 := Lib.hid (Kp.of_below (n := g) hb3 (by have := HS2.out; omega) HU2.out)
  have HB3 := Lib.hid (HX9.out.trans (hb3.mono (by have := HS2.out; omega)))
  have HS3 : Hid (g + 5 <= W3.heap.size) := Lib.hid (by have := HS2.out; have := hb3.size; omega)
  have c0 : W3.cell? ⟨g + 1, 0, none⟩ = some (.int .i64 0) := by rw [Lib.cell_of_heap y6]; rfl
  have f0 := Lib.frozen_of_heap y6 0
  have c3 : W3.cell? ⟨g + 3, 0, none⟩ = some (.map (some (g + 2))) := by rw [Lib.cell_of_heap y7]; rfl
  obtain ⟨rn1, rn2, rn3, rn4, rn5⟩ := HRN.out
  -- the end of a round that says what is wrong
  have HEND : ∀ (z : Int), (qan_ R).2 = z -> ∀ W4 : World, W4 = W3 \/ W4 = W3.alloc (.cells #[] 151) -> Kp g M W2 (W4.setCell ⟨g + 1, 0, none⟩ (.int .i64 z)) /\ Below g w (W4.setCell ⟨g + 1, 0, none⟩ (.int .i64 z)) /\ ¬ M (g + 1) /\ (W4.setCell ⟨g + 1, 0, none⟩ (.int .i64 z)).heap[g + 1]? = some (.cells #[.int .i64 (qan_ R).2] 32 (0, 0)) := by
   intro z hz W4 hw4
   have hb4 : Below W3.heap.size W3 W4 := by
    rcases hw4 with rfl | rfl
    ·exact Below.refl _ _
    ·exact (Below.refl _ _).alloc (Nat.le_refl _) _
   have hs3 := HS3.out
   have hk4 : Kp g M W3 W4 := Kp.of_below hb4 (by omega) (HU2.out.more hb3.size)
   have y4 := (hb4.block (g + 1) (by omega)).trans HY6.out
   refine ⟨(HK3.out.trans hk4).trans (Kp.setCell W4 (by omega) HX3.out.1 0 _), (HB3.out.trans hk4.below).setCell (p := ⟨g + 1, 0, none⟩) (by show g <= g + 1; omega) _, HX3.out.1, ?_⟩
   rw [hz]
   simp [World.setCell, Array.getElem?_modify, y4]
  have HE := Lib.hid HEND
  clear HEND y6 y7 b0 b1 b2 HC
  by_cases her : er = 0
  ·subst her
   cases fl
   ·have HN := Lib.hid (rn2 rfl rfl)
    clear rn1 rn2 rn3 rn4 rn5 c0 f0 c3
    gi_wp2
    exact ⟨HK3.out, acc2, HN.out, by have := HA3.out; rw [List.length_append]; omega, HX3.out, HY6.out, HY7.out, HY8.out, HB3.out⟩
   ·by_cases h3 : hv = 0 \/ hv = 4294967295
    ·have HN := Lib.hid (rn3 rfl rfl h3)
     have HRR := HRG.out
     by_cases h0 : hv = 0
     ·subst h0
      clear rn1 rn2 rn3 rn4 rn5 c3 h3
      gi_wp2
      obtain ⟨k1, k2, k3, k4⟩ := HE.out 11 HN.out W3 (.inl rfl)
      exact ⟨k1, rfl, k2, k3, k4⟩
     ·obtain rfl : hv = 4294967295 := by omega
      clear rn1 rn2 rn3 rn4 rn5 c3 h3
      gi_wp2
      obtain ⟨k1, k2, k3, k4⟩ := HE.out 11 HN.out W3 (.inl rfl)
      exact ⟨k1, rfl, k2, k3, k4⟩
    ·have HKO := Lib.hid (qox_ HRG.out.1 HRG.out.2)
     have hhas := has_SnH acc2 hv
     have q0 : (hv == 0) = false := by rw [beq_eq_false_iff_ne]; omega
     have q1 : decide (hv > 4294967294) = false := decide_eq_false (by have := HRG.out.2; omega)
     have hal : Below W3.heap.size W3 (W3.alloc (.cells #[] 151)) := (Below.refl _ _).alloc (Nat.le_refl _) _
     have c0a := Lib.cell?_alloc_some (.cells #[] 151) c0
     have c3a := Lib.cell?_alloc_some (.cells #[] 151) c3
     have f0a : (W3.alloc (.cells #[] 151)).frozen? ⟨g + 1, 0, none⟩ = false := (World.frozen?_of_block (hal.block (g + 1) (by have := HS3.out; omega))).trans f0
     have HY8a := Lib.hid (mapO HY8.out (hal.block _ (by have := HS3.out; omega)))
     have HAL := Lib.hid hal
     clear hal
     cases hany : acc2.any (fun x => decide (x.1 = hv))
     ·have HN := Lib.hid (rn5 rfl rfl h3 hany)
      rw [hany] at hhas
      clear rn1 rn2 rn3 rn4 rn5 h3 hany c0 f0 c0a f0a
      gi_wp2_with (first
       | (gi_at_lookup; refine wpListIn_lookup_own_unit _ rfl _ _ 147 rfl 22 151 lawU Tryz.underlying147 (zeroU _) (g + 2) acc2.length _ rfl HY8.out _ _ rfl HKO.out ?_)
       | (gi_at_mapUpdate; refine wpListIn_mapUpdate_own _ rfl _ _ _ 147 rfl 22 151 lawU Tryz.underlying147 unitElem (g + 2) acc2.length _ rfl HY8a.out (by have := HA2.out; unfold maxLen; omega) _ _ _ rfl rfl HKO.out (.agg []) [] unitElem_mk ?_; intro w5 hown5 hgrow5))
      have hs3 := HS3.out
      have hs4 := HAL.out.size
      have hku : Ups (g + 5) M (W3.alloc (.cells #[] 151)) := HU2.out.more (Nat.le_trans HK3.out.below.size hs4)
      have k4 : Kp g M (W3.alloc (.cells #[] 151)) w5 := Kp.grown hgrow5 hku (by omega) (fun k e => by cases e; exact ⟨by omega, HX3.out.2.1⟩)
      have k3 : Kp g M W3 (W3.alloc (.cells #[] 151)) := Kp.of_below HAL.out (by omega) (HU2.out.more HK3.out.below.size)
      have oth : ∀ k, k < g + 5 -> k ≠ g + 2 -> w5.heap[k]? = W3.heap[k]? := fun k hk hne => (hgrow5.block k (by omega) (fun e => hne (Option.some.inj e))).trans (HAL.out.block k (by omega))
      refine ⟨(HK3.out.trans k3).trans k4, acc2 ++ [(hv, p)], HN.out, ?_, HX3.out, (oth _ (by omega) (by omega)).trans HY6.out, (oth _ (by omega) (by omega)).trans HY7.out, ?_, HB3.out.trans (k3.trans k4).below⟩
      ·have := HA3.out
       rw [List.length_append, List.length_append]
       simp only [List.length_singleton]
       omega
      ·rw [SnH_snoc, List.length_append, List.length_singleton]
       exact hown5
     ·have HN := Lib.hid (rn4 rfl rfl h3 hany)
      rw [hany] at hhas
      clear rn1 rn2 rn3 rn4 rn5 h3 hany c3a
      gi_wp2_with (gi_at_lookup; refine wpListIn_lookup_own_unit _ rfl _ _ 147 rfl 22 151 lawU Tryz.underlying147 (zeroU _) (g + 2) acc2.length _ rfl HY8.out _ _ rfl HKO.out ?_)
      obtain ⟨k1, k2, k3, k4⟩ := HE.out 9 HN.out (W3.alloc (.cells #[] 151)) (.inr rfl)
      exact ⟨k1, rfl, k2, k3, k4⟩
  ·have k1 : (er != 0) = true := by rw [bne_iff_ne]; exact her
   have HN := Lib.hid (rn1 her)
   clear rn1 rn2 rn3 rn4 rn5 c3 her
   gi_wp2
   obtain ⟨k1, k2, k3, k4⟩ := HE.out er HN.out W3 (.inl rfl)
   exact ⟨k1, rfl, k2, k3, k4⟩
 case done =>
  rintro D M Wd hM hu hsz hD ⟨acc, a1, a2, ⟨a3, a4, a5⟩, a6, a7, a8, a9⟩ hd
  have c0 : Wd.cell? ⟨g + 1, 0, none⟩ = some (.int .i64 0) := by rw [Lib.cell_of_heap a6]; rfl
  have f0 := Lib.frozen_of_heap a6 0
  have hDg := (hu D hD).1
  have hd2 : (Wd.setCell ⟨g + 1, 0, none⟩ (.int .i64 0)).heap[D]? = some (.deferred (some [])) := (Below.heap_setCell _ _ _ _ (by show D ≠ g + 1; omega)).trans hd
  have HBF : Hid (Below g w ((Wd.setCell ⟨g + 1, 0, none⟩ (.int .i64 0)).putObj D (.deferred none))) := Lib.hid ((a9.setCell (p := ⟨g + 1, 0, none⟩) (by show g <= g + 1; omega) _).trans ⟨rfl, rfl, rfl, by simp, fun k hk => World.putObj_heap_other (by omega)⟩)
  have r0 : ((Wd.setCell ⟨g + 1, 0, none⟩ (.int .i64 0)).putObj D (.deferred none)).cell? ⟨g + 1, 0, none⟩ = some (.int .i64 0) := (World.cell?_of_block (World.putObj_heap_other (by show g + 1 ≠ D; omega))).trans (World.cell?_setCell_same' _ _ _ (by rw [c0]; rfl))
  have HR : Hid ((qan_ R).2 = 0) := Lib.hid (by rw [qan_, a1])
  clear a1 a2 a3 a4 a5 a6 a7 a8 a9 hu hsz hM
  gi_wp2
  refine ⟨by simp, .inl ⟨_, _, rfl, run_takeDeferred hd2, ?_⟩⟩
  refine ⟨.int .i64 0, by simp [results, Tryz.results39, go_sem, r0], by rw [HR.out], ?_⟩
  rw [HG.out]
  exact HBF.out
 case stop =>
  rintro D c M pre Wd hM hu hsz hD hpre ⟨rfl, hx1, hx2, hx3⟩ hd
  have c0 : Wd.cell? ⟨g + 1, 0, none⟩ = some (.int .i64 (qan_ R).2) := by rw [Lib.cell_of_heap hx3]; rfl
  have hDg := (hu D hD).1
  have HBF : Hid (Below g w (Wd.putObj D (.deferred none))) := Lib.hid (hx1.trans ⟨rfl, rfl, rfl, by simp, fun k hk => World.putObj_heap_other (by omega)⟩)
  have r0 : (Wd.putObj D (.deferred none)).cell? ⟨g + 1, 0, none⟩ = some (.int .i64 (qan_ R).2) := (World.cell?_of_block (World.putObj_heap_other (by show g + 1 ≠ D; omega))).trans c0
  clear hx1 hx2 hx3 hu hsz hM c0
  gi_wp2
  refine ⟨by simp, .inl ⟨_, _, rfl, run_takeDeferred hd, ?_⟩⟩
  refine ⟨.int .i64 (qan_ R).2, by simp [results, Tryz.results39, go_sem, r0], rfl, ?_⟩
  rw [HG.out]
  exact HBF.out
end
section
open Go.RowKit Go.Maps Go.WideMaps
inductive Spot (w : World) (R : Nd) (D : Nat -> Prop) : Nat -> List Nat -> Nd -> Prop
 | root {b : Nat} : D b -> w.heap[b]? = some (.cells #[.string R.name, R.pv, R.kv, .pointer none, .int .i64 0] 223 (0, 0)) -> Spot w R D b [] R
 | kid {a b i : Nat} {z : List Nat} {x k : Nd} : Spot w R D a z x -> x.kids[i]? = some k -> D b -> w.heap[b]? = some (.cells #[.string k.name, k.pv, k.kv, .pointer (some ⟨a, 0, none⟩), .int .i64 i] 223 (0, 0)) -> Spot w R D b (z ++ [i]) k
def Sp (w w' : World) : Prop := ∀ (j : Nat) (c : Array Value), w.heap[j]? = some (Obj.cells c 223 (0, 0)) -> w'.heap[j]? = w.heap[j]?
section
variable {w w' w'' : World} {R x : Nd} {D D' : Nat -> Prop} {b : Nat} {z : List Nat}
theorem Sp.trans (h : Sp w w') (k : Sp w' w'') : Sp w w'' := fun j c e => (k j c ((h j c e).trans e)).trans (h j c e)
theorem Sp.of_below (h : Below w.heap.size w w') : Sp w w' := fun j c e => h.block j (Array.getElem?_eq_some_iff.1 e).1
theorem Sp.grown {g : Nat} {es : Array MapEntry} {cl : Nat} (h : w.grownBy w' (some g)) (hg : w.heap[g]? = some (.map es cl)) : Sp w w' := fun j c e => h.block j (Array.getElem?_eq_some_iff.1 e).1 (fun q => by
 rw [Option.some.inj q, hg] at e
 cases e)
theorem Spot.sp (h : Spot w R D b z x) (k : Sp w w') : Spot w' R D b z x := by
 induction h with
 | root hd e => exact .root hd ((k _ _ e).trans e)
 | kid _ hk hd e ih => exact .kid ih hk hd ((k _ _ e).trans e)
theorem Spot.keep (h : Spot w R D b z x) (k : ∀ j, D j -> j < w.heap.size -> w'.heap[j]? = w.heap[j]?) : Spot w' R D b z x := by
 induction h with
 | root hd e => exact .root hd ((k _ hd (Array.getElem?_eq_some_iff.1 e).1).trans e)
 | kid _ hk hd e ih => exact .kid ih hk hd ((k _ hd (Array.getElem?_eq_some_iff.1 e).1).trans e)
theorem Spot.sub (h : Spot w R D b z x) (k : ∀ j, D j -> j < w.heap.size -> D' j) : Spot w R D' b z x := by
 induction h with
 | root hd e => exact .root (k _ hd (Array.getElem?_eq_some_iff.1 e).1) e
 | kid _ hk hd e ih => exact .kid ih hk (k _ hd (Array.getElem?_eq_some_iff.1 e).1) e
theorem Spot.on (h : Spot w R D b z x) (k : Below w.heap.size w w') : Spot w' R D b z x := h.sp (.of_below k)
theorem Spot.heap (h : Spot w R D b z x) : ∃ a i, w.heap[b]? = some (.cells #[.string x.name, x.pv, x.kv, .pointer a, .int .i64 i] 223 (0, 0)) := by
 cases h with
 | root _ e => exact ⟨_, _, e⟩
 | kid _ _ _ e => exact ⟨_, _, e⟩
theorem Spot.inv (h : Spot w R D b z x) : (z = [] /\ x = R /\ w.heap[b]? = some (.cells #[.string R.name, R.pv, R.kv, .pointer none, .int .i64 0] 223 (0, 0))) \/ ∃ a i z' x', z = z' ++ [i] /\ Spot w R D a z' x' /\ x'.kids[i]? = some x /\ w.heap[b]? = some (.cells #[.string x.name, x.pv, x.kv, .pointer (some ⟨a, 0, none⟩), .int .i64 (i : Nat)] 223 (0, 0)) := by
 cases h with
 | root _ e => exact .inl ⟨rfl, rfl, e⟩
 | kid h1 h2 _ h3 => exact .inr ⟨_, _, _, _, rfl, h1, h2, h3⟩
theorem Spot.node (h : Spot w R D b z x) : nodeZ R (z.map Int.ofNat) = some x := by
 induction h with
 | root _ e => rfl
 | @kid a b i z x k _ hk _ e ih =>
  rw [List.map_append, List.map_cons, List.map_nil, qar_, ih]
  simp only [nodeZ, Int.ofNat_eq_natCast, Int.toNat_natCast, hk]
  rw [if_neg (by omega)]
theorem Spot.inn (h : Spot w R D b z x) {v : World} {B : Nat} (hin : R.In v B) : x.In v B := qa9_ _ hin h.node
theorem kid_heft {x k : Nd} {i : Nat} (h : x.kids[i]? = some k) : 16 + heftN k <= heftN x := by
 obtain ⟨hlt, rfl⟩ := List.getElem?_eq_some_iff.1 h
 have h2 := qbh_ x.kids _ hlt
 have h3 := qbb_ x.kids (i + 1)
 have h4 : heftN x = 16 + x.name.size + (x.props.map heftP).sum + heftL x.kids := by cases x; rw [heftN]; rfl
 omega
theorem Spot.len (h : Spot w R D b z x) : 16 * z.length + heftN x <= heftN R := by
 induction h with
 | root _ e => simp
 | kid _ hk _ e ih =>
  have := kid_heft hk
  rw [List.length_append, List.length_singleton]
  omega
end
theorem Spot.det {w : World} {R x x' : Nd} {D D' : Nat -> Prop} {b : Nat} {z z' : List Nat} (h : Spot w R D b z x) : Spot w R D' b z' x' -> z = z' := by
 induction h generalizing z' x' with
 | root _ e =>
  intro h'
  rcases h'.inv with ⟨rfl, _, _⟩ | ⟨a, i, z1, x1, rfl, _, _, e'⟩
  ·rfl
  ·rw [e] at e'
   simp at e'
 | @kid a b i z x k h1 _ _ e ih =>
  intro h'
  rcases h'.inv with ⟨rfl, rfl, e'⟩ | ⟨a', i', z1, x1, rfl, h1', _, e'⟩
  ·rw [e] at e'
   simp at e'
  ·rw [e] at e'
   simp only [Option.some.injEq, Obj.cells.injEq, Array.mk.injEq, List.cons.injEq, Value.pointer.injEq, Addr.mk.injEq, Value.int.injEq, and_true, true_and, Int.natCast_inj] at e'
   obtain ⟨-, -, -, rfl, hi⟩ := e'
   have hi' : i = i' := by omega
   rw [ih h1', hi']
theorem Spot.at_ {w : World} {R x : Nd} {D : Nat -> Prop} {b : Nat} {z : List Nat} (h : Spot w R D b z x) : qaj_ R z = some x := by
 have := h.node
 rwa [qa4_] at this
section
variable {w w' : World} {R : Nd} {D D' : Nat -> Prop} {g n : Nat}
theorem zeroSpot (w : World) : (zeroValue 219).run Tryz.prog w = .ok (.pointer none) w := by kernel_rfl
theorem makeMapZ (w : World) : (Instr.makeMap 159 none).run Tryz.prog w = .ok (.map (some w.heap.size)) (w.alloc (.map #[] 0)) := by
 simp [Instr.makeMap, run_underlying Tryz.underlying159, asInt, asIntOf, Result.andThen]
end
def rbox (t : Tr) (own : Option Nat) (er : Int) : Obj := .cells #[.int .u32 t.boot, t.rv, .string t.root.name, t.root.pv, t.root.kv, .map own, .int .i64 er] 161 (0, 0)
structure Tn (B r : Nat) (w w' : World) : Prop where
 below : Below B w w'
 same : ∀ k, k < w.heap.size -> k ≠ r -> w'.heap[k]? = w.heap[k]?
section
variable {w w' w'' : World} {B r : Nat} {t : Tr} {D D' : Nat -> Prop}
theorem Tn.refl (B r : Nat) (w : World) : Tn B r w w := ⟨Below.refl _ _, fun _ _ _ => rfl⟩
theorem Tn.of_below (h : Below w.heap.size w w') (hB : B <= w.heap.size) : Tn B r w w' := ⟨h.mono hB, fun k hk _ => h.block k hk⟩
theorem Tn.trans (h : Tn B r w w') (k : Tn B r w' w'') : Tn B r w w'' := ⟨h.below.trans k.below, fun j hj hr => (k.same j (Nat.lt_of_lt_of_le hj h.below.size) hr).trans (h.same j hj hr)⟩
end
end
theorem qat_ {w : World} {b : Nat} {v0 v1 v2 v3 v4 : Value} (h : w.heap[b]? = some (.cells #[v0, v1, v2, v3, v4] 223 (0, 0))) : w.cell? ⟨b, 0, none⟩ = some v0 /\ w.cell? ⟨b, 1, none⟩ = some v1 /\ w.cell? ⟨b, 2, none⟩ = some v2 /\ w.cell? ⟨b, 3, none⟩ = some v3 /\ w.cell? ⟨b, 4, none⟩ = some v4 := by
 refine ⟨?_, ?_, ?_, ?_, ?_⟩ <;> rw [Lib.cell_of_heap h] <;> rfl
theorem qgi_ (R : Nd) (D : Nat -> Prop) (b : Nat) (z : List Nat) (x : Nd) (i : Nat) (w : World) (hs : Spot w R D b z x) (hD : D w.heap.size) (hin : R.In w w.heap.size) (hi : i < x.kids.length) :
  Calls Tryz.prog 165 #[.pointer (some ⟨b, 0, none⟩), .int .i64 i] w fun e w' => e = .returned (.pointer (some ⟨w.heap.size, 0, none⟩)) /\ Spot w' R D w.heap.size (z ++ [i]) x.kids[i] /\ Below w.heap.size w w' := by
 have hx := hs.inn hin
 obtain ⟨pa, pi, hb⟩ := hs.heap
 obtain ⟨kb, ko, ek, _, d0, d1, d2⟩ := hx.kcell hi
 have hkl := hx.klen
 have HF : Hid (∀ W : World, Below w.heap.size w W -> W.heap[w.heap.size]? = some (.cells #[.string x.kids[i].name, x.kids[i].pv, x.kids[i].kv, .pointer (some ⟨b, 0, none⟩), .int .i64 i] 223 (0, 0)) -> Spot W R D w.heap.size (z ++ [i]) x.kids[i]) := Lib.hid (fun W h1 h2 => .kid (hs.on h1) (List.getElem?_eq_getElem hi) hD h2)
 clear hs hin hx hD
 obtain ⟨xn, xpa, xpc, xps, xka, xkc, xks⟩ := x
 replace hb : w.heap[b]? = some (.cells #[.string xn, .slice xpa xps.length xpc, .slice xka xks.length xkc, .pointer pa, .int .i64 pi] 223 (0, 0)) := hb
 replace hi : i < xks.length := hi
 replace d0 : w.cell? ⟨kb, ko + i * 3, none⟩ = some (.string xks[i].name) := d0
 replace d1 : w.cell? ⟨kb, ko + i * 3 + 1, none⟩ = some xks[i].pv := d1
 replace d2 : w.cell? ⟨kb, ko + i * 3 + 2, none⟩ = some xks[i].kv := d2
 replace hkl : xks.length <= xkc /\ xkc <= 9223372036854775807 := hkl
 obtain rfl : xka = _ := ek
 obtain ⟨s0, s1, s2, s3, s4⟩ := qat_ hb
 simp only [Nd.kids] at HF ⊢
 generalize hk : xks[i] = k at *
 clear hk hb
 obtain ⟨yn, ypa, ypc, yps, yka, ykc, yks⟩ := k
 simp only [Nd.pv, Nd.kv, Nd.name, Nd.pa, Nd.pc, Nd.props, Nd.ka, Nd.kc, Nd.kids] at d0 d1 d2 HF
 generalize xks.length = xkl at *
 have HFIN := Lib.hid (HF.out (w.alloc (.cells #[.string yn, .slice ypa yps.length ypc, .slice yka yks.length ykc, .pointer (some ⟨b, 0, none⟩), .int .i64 i] 223)) ((Below.refl _ _).alloc (Nat.le_refl _) _) (heap_alloc_new _ _))
 clear HF
 go_enter Tryz.func165, Tryz.ntmps165
 go_wp2_with fail
 go_ret
 exact ⟨rfl, HFIN.out, (Below.refl _ _).alloc (Nat.le_refl _) _⟩
theorem one_one {n : Nd} {s : ByteArray} (h : (oneV n s).1 = 1) : (oneV n s).2.1 = true /\ (oneV n s).2.2 = 0 := by
 unfold oneV at *
 cases hf : n.props.find? (fun p => decide (p.name = s)) with
 | none => rw [hf] at h; simp at h
 | some p =>
  rw [hf] at h
  simp only at h ⊢
  by_cases h4 : p.zs.length = 4
  ·rw [if_pos h4]; exact ⟨rfl, rfl⟩
  ·rw [if_neg h4] at h; simp at h
theorem ctrlB_two (n : Nd) : ctrlB n = (decide (0 <= idxOf (n.props.map PV.name) qn0_) && decide ((oneV n qb3_).1 = 1)) := by
 unfold ctrlB
 by_cases h : (oneV n qb3_).1 = 1
 ·obtain ⟨h1, h2⟩ := one_one h
  rw [h1, h2]
  simp
 ·simp [h]
theorem qnx_ (n : Nd) (w : World) (hin : n.In w w.heap.size) : Calls Tryz.prog 78 #[n.val] w fun e w' => e = .returned (.bool (ctrlB n)) /\ Below w.heap.size w w' := by
 have C1 := Lib.hid (fun W (hW : Below w.heap.size w W) => qcz_ n qn0_ W (hin.on hW) _ rfl)
 have C2 := Lib.hid (fun W (hW : Below w.heap.size w W) => oneOK n qb3_ W (hin.on hW) (by decide))
 obtain ⟨B, hB⟩ : ∃ B, ctrlB n = B := ⟨_, rfl⟩
 have HBV : Hid (B = _) := Lib.hid (hB.symm.trans (ctrlB_two n))
 rw [hB]
 generalize idxOf (n.props.map PV.name) qn0_ = r at *
 generalize oneV n qb3_ = O at *
 obtain ⟨v, ok, er⟩ := O
 simp only [qfz_] at C2 HBV
 clear hB hin
 obtain ⟨nm, pa, pc, ps, ka, kc, ks⟩ := n
 simp only [Nd.val, Nd.pv, Nd.kv, Nd.name, Nd.pa, Nd.pc, Nd.props, Nd.ka, Nd.kc, Nd.kids, qn0_, qb3_] at C1 C2 ⊢
 obtain ⟨V, hV⟩ : ∃ V, w.alloc (.cells #[.string nm, .slice pa ps.length pc, .slice ka ks.length kc] 27) = V := ⟨_, rfl⟩
 have bV : Below w.heap.size w V := by rw [<- hV]; exact (Below.refl _ _).alloc (Nat.le_refl _) _
 have hg : V.heap[w.heap.size]? = some (.cells #[.string nm, .slice pa ps.length pc, .slice ka ks.length kc] 27 (0, 0)) := by rw [<- hV]; exact heap_alloc_new _ _
 have hVs : V.heap.size = w.heap.size + 1 := by rw [<- hV]; simp
 have HX := Lib.hid (fun (W : World) (h : Below V.heap.size V W) => (show W.cell? ⟨w.heap.size, 0, none⟩ = some (.string nm) /\ W.cell? ⟨w.heap.size, 1, none⟩ = some (.slice pa ps.length pc) /\ W.cell? ⟨w.heap.size, 2, none⟩ = some (.slice ka ks.length kc) from by
  have e := (h.block w.heap.size (by omega)).trans hg
  refine ⟨?_, ?_, ?_⟩ <;> rw [Lib.cell_of_heap e] <;> rfl))
 have HBV0 := Lib.hid bV
 obtain ⟨x0, x1, x2⟩ := HX.out V (Below.refl _ _)
 clear bV hg hVs
 go_enter Tryz.func78, Tryz.ntmps78
 go_wp2_with fail
 clear hV
 refine (C1.out _ HBV0.out).mono ?_
 rintro e w1 ⟨A1, c1, zs1, rfl, _, _, hb⟩
 have HB1 := Lib.hid (HBV0.out.trans (hb.mono HBV0.out.size))
 clear x0 x1 x2
 obtain ⟨x0, x1, x2⟩ := HX.out w1 hb
 clear hb
 go_wp2_with fail
 refine (C2.out _ HB1.out).mono ?_
 rintro e w2 ⟨rfl, hb⟩
 have HB2 := Lib.hid (HB1.out.trans (hb.mono HB1.out.size))
 clear hb x0 x1 x2 HX C1 C2
 by_cases h0 : 0 <= r
 ·have q0 : decide ((0 : Int) <= r) = true := decide_eq_true h0
  by_cases hv : v = 1
  ·subst hv
   obtain rfl : B = true := by rw [HBV.out, q0]; rfl
   clear h0
   go_wp2
   go_ret
   exact ⟨rfl, HB2.out⟩
  ·have q1 : (v == 1) = false := by rw [beq_eq_false_iff_ne]; exact hv
   obtain rfl : B = false := by rw [HBV.out, q0, decide_eq_false hv]; rfl
   clear h0 hv
   go_wp2
   go_ret
   exact ⟨rfl, HB2.out⟩
 ·have q0 : decide ((0 : Int) <= r) = false := decide_eq_false h0
  obtain rfl : B = false := by rw [HBV.out, q0]; rfl
  clear h0
  go_wp2
  go_ret
  exact ⟨rfl, HB2.out⟩
def AtOut (w' : World) (R : Nd) (D : Nat -> Prop) (z : List Int) (e : Ending) : Prop := (∃ b x zn, e = .returned (.tuple #[.pointer (some ⟨b, 0, none⟩), .bool true]) /\ nodeZ R z = some x /\ z = zn.map Int.ofNat /\ Spot w' R D b zn x) \/ (e = .returned (.tuple #[.pointer none, .bool false]) /\ nodeZ R z = none)
theorem qbi_ {w : World} {r : Nat} {t : Tr} {own : Option Nat} {er : Int} (h : w.heap[r]? = some (rbox t own er)) : (w.cell? ⟨r, 0, none⟩ = some (.int .u32 t.boot) /\ w.cell? ⟨r, 1, none⟩ = some t.rv /\ w.cell? ⟨r, 2, none⟩ = some (.string t.root.name) /\ w.cell? ⟨r, 3, none⟩ = some t.root.pv /\ w.cell? ⟨r, 4, none⟩ = some t.root.kv) /\ w.cell? ⟨r, 5, none⟩ = some (.map own) /\ w.cell? ⟨r, 6, none⟩ = some (.int .i64 er) := by
 refine ⟨⟨?_, ?_, ?_, ?_, ?_⟩, ?_, ?_⟩ <;> rw [Lib.cell_of_heap h] <;> rfl
theorem at_any (t : Tr) (r : Nat) (own : Option Nat) (er : Int) (z : List Int) (A : Option Addr) (n c : Nat) (w : World) (hr : w.heap[r]? = some (rbox t own er)) (hin : t.In w w.heap.size) (hp : Cel w w.heap.size A n (intsZ z)) (hnc : n <= c) (hc : c <= 9223372036854775807) :
  Calls Tryz.prog 131 #[.pointer (some ⟨r, 0, none⟩), .slice A n c] w fun e w' => AtOut w' t.root (fun k => w.heap.size <= k) z e /\ Below w.heap.size w w' := by
 have HI := Lib.hid hin.root
 have HP := Lib.hid hp
 have HPL : Hid (z.length = n) := Lib.hid (by have := hp.1; rwa [List.length_map] at this)
 obtain ⟨⟨_, _, b2, b3, b4⟩, _, _⟩ := qbi_ hr
 clear hin hp hr
 obtain ⟨R, hR⟩ : ∃ R, t.root = R := ⟨_, rfl⟩
 rw [hR] at HI b2 b3 b4 ⊢
 clear hR
 have HW0 : Hid (Spot (w.alloc (.cells #[.string R.name, R.pv, R.kv, .pointer none, .int .i64 0] 223)) R (fun k => w.heap.size <= k) w.heap.size [] R /\ Below w.heap.size w (w.alloc (.cells #[.string R.name, R.pv, R.kv, .pointer none, .int .i64 0] 223))) := Lib.hid ⟨.root (Nat.le_refl _) (heap_alloc_new _ _), (Below.refl _ _).alloc (Nat.le_refl _) _⟩
 obtain ⟨RN, hRN⟩ : ∃ RN, R.name = RN := ⟨_, rfl⟩
 obtain ⟨RA, hRA⟩ : ∃ RA, R.pa = RA := ⟨_, rfl⟩
 obtain ⟨RL, hRL⟩ : ∃ RL, R.props.length = RL := ⟨_, rfl⟩
 obtain ⟨RC, hRC⟩ : ∃ RC, R.pc = RC := ⟨_, rfl⟩
 obtain ⟨SA, hSA⟩ : ∃ SA, R.ka = SA := ⟨_, rfl⟩
 obtain ⟨SL, hSL⟩ : ∃ SL, R.kids.length = SL := ⟨_, rfl⟩
 obtain ⟨SC, hSC⟩ : ∃ SC, R.kc = SC := ⟨_, rfl⟩
 simp only [Nd.pv, Nd.kv, hRN, hRA, hRL, hRC, hSA, hSL, hSC] at b2 b3 b4 HW0
 clear hRN hRA hRL hRC hSA hSL hSC
 go_enter Tryz.func131, Tryz.ntmps131
 go_wp2_with fail
 clear b2 b3 b4
 generalize w.alloc (.cells #[.string RN, .slice RA RL RC, .slice SA SL SC, .pointer none, .int .i64 0] 223) = W0 at *
 go_loopw [6, 18] (fun s i wr => ∃ (k b : Nat) (x : Nd) (zn : List Nat), k <= n /\ i = .int .i64 k /\ s = .pointer (some ⟨b, 0, none⟩) /\ z.take k = zn.map Int.ofNat /\ Spot wr R (fun k => w.heap.size <= k) b zn x /\ Below w.heap.size w wr) (fun _ i _ => n - (intOf i).toNat)
 case atStart => exact ⟨0, w.heap.size, R, [], Nat.zero_le _, rfl, rfl, rfl, HW0.out.1, HW0.out.2⟩
 case round =>
  obtain ⟨k, b, x, zn, hk, rfl, rfl, hz, hs, hb⟩ := hrel
  have HB := Lib.hid hb
  have HS := Lib.hid hs
  have hnode := hs.node
  by_cases hlt : k < n
  ·obtain ⟨pb, po, rfl, _, hcell⟩ := (HP.out.below hb).2 (by omega)
   have ck := hcell k hlt
   have hkp : k < z.length := by rw [HPL.out]; exact hlt
   rw [List.getElem?_map, List.getElem?_eq_getElem hkp] at ck
   have hzt : z.take (k + 1) = z.take k ++ [z[k]] := by rw [List.take_add_one, List.getElem?_eq_getElem hkp]; rfl
   have hzs : nodeZ R z = nodeZ x (z[k] :: z.drop (k + 1)) := by
    have e : z = z.take k ++ (z[k] :: z.drop (k + 1)) := by rw [List.getElem_cons_drop, List.take_append_drop]
    conv => lhs; rw [e, qar_, hz, hnode]
   replace ck : wr.cell? ⟨pb, po + k, none⟩ = some (.int .i64 z[k]) := ck
   generalize z[k] = q at *
   generalize z.drop (k + 1) = zr at *
   have HZS := Lib.hid hzs
   have HZT := Lib.hid (hzt.trans (by rw [hz]))
   have hxin := hs.inn HI.out
   have hkl := hxin.name_le.2.2
   have HIN := Lib.hid (HI.out.under hb |>.more hb.size)
   obtain ⟨pa, pi, hbk⟩ := hs.heap
   obtain ⟨s0, s1, s2, s3, s4⟩ := qat_ hbk
   have HSB := Lib.hid (fun (j : Nat) (hj : j < x.kids.length) => qgi_ R (fun k => w.heap.size <= k) b zn x j wr hs HB.out.size HIN.out hj)
   have HKX : Hid (∀ j : Nat, nodeZ R z = none \/ True) := Lib.hid (fun _ => .inr trivial)
   obtain ⟨XL, hXL⟩ : ∃ XL, x.kids.length = XL := ⟨_, rfl⟩
   have HXL := Lib.hid hXL
   have hkm : XL * 64 <= 140737488351232 := by rw [<- hXL]; exact hkl
   simp only [Nd.kv, hXL] at s2
   generalize x.ka = xka at *
   generalize x.kc = xkc at *
   clear hz hs hb hnode hcell hkp hzt hzs hxin hkl hbk s0 s1 s3 s4 hXL
   by_cases hq0 : q < 0
   ·have q2 : decide (q < 0) = true := decide_eq_true hq0
    have HN : Hid (nodeZ R z = none) := Lib.hid (by rw [HZS.out, nodeZ, if_pos hq0])
    clear hq0
    go_wp2
    go_ret2
    exact ⟨.inr ⟨rfl, HN.out⟩, HB.out⟩
   ·have q1 : decide (q < 0) = false := decide_eq_false hq0
    obtain ⟨q, rfl⟩ : ∃ m : Nat, q = (m : Int) := ⟨q.toNat, by omega⟩
    by_cases hqk : q < XL
    ·have q2 : decide ((q : Int) >= (XL : Int)) = false := decide_eq_false (by omega)
     have q3 : ¬ ((q : Int) >= (XL : Int)) := by omega
     have hql : q < x.kids.length := by rw [HXL.out]; exact hqk
     have C := Lib.hid (HSB.out q hql)
     clear hq0
     go_wp2_with fail
     refine C.out.mono ?_
     rintro e w2 ⟨rfl, hs2, hb2⟩
     have HB2 := Lib.hid (HB.out.trans (hb2.mono HB.out.size))
     clear hb2 C
     go_wp2
     go_roundw
     case rel => exact ⟨k + 1, wr.heap.size, x.kids[q], zn ++ [q], by omega, by go_num, rfl, by rw [HZT.out, List.map_append]; rfl, hs2, HB2.out⟩
     case measure => simp [intOf]; omega
    ·have q2 : decide ((q : Int) >= (XL : Int)) = true := decide_eq_true (by omega)
     have HN : Hid (nodeZ R z = none) := Lib.hid (by
      rw [HZS.out, nodeZ, if_neg hq0, Int.toNat_natCast, List.getElem?_eq_none (by rw [HXL.out]; omega)])
     clear hq0
     go_wp2
     go_ret2
     exact ⟨.inr ⟨rfl, HN.out⟩, HB.out⟩
  ·have hzz : z = zn.map Int.ofNat := by rw [<- hz, List.take_of_length_le (by rw [HPL.out]; omega)]
   have HE : Hid (nodeZ R z = some x /\ z = zn.map Int.ofNat) := Lib.hid ⟨by rw [hzz]; exact hnode, hzz⟩
   clear hz hs hb hnode hzz
   go_wp2
   go_ret2
   exact ⟨.inl ⟨b, x, zn, rfl, HE.out.1, HE.out.2, HS.out⟩, HB.out⟩
def lenV : Value -> Nat
 | .slice _ n _ => n
 | _ => 0
theorem qex_ {B b : Nat} {w0 : World} (hb : B <= b) : ∀ (vs : List Value) (o : Nat) (w : World), Below B w0 w -> Below B w0 (w.setCells b o vs)
 | [], _, _, h => h
 | v :: r, o, w, h => qex_ hb r (o + 1) _ (h.setCell (p := ⟨b, o, none⟩) hb v)
theorem app_numI {w : World} {B : Nat} {v : Value} {p : List Nat} (h : w.ownsRow B 3 1 v p.length (ints p)) (q : Nat) (hn : p.length + 1 <= 1073741824) (hB : B <= w.heap.size) :
  ∃ A' c' w', (Builtin.append_ #[56, 56] 56 #[v, .slice (some ⟨w.heap.size, 0, none⟩) 1 1]).run Tryz.prog (w.alloc (.cells #[.int .i64 (q : Int)] 3)) = .ok (.slice A' (p.length + 1) c') w' /\ w'.ownsRow B 3 1 (.slice A' (p.length + 1) c') (p.length + 1) (ints (p ++ [q])) /\ Below B w w' := by
 have h1 := h.alloc (.cells #[.int .i64 (q : Int)] 3)
 have hb := (Below.refl B w).alloc hB (.cells #[.int .i64 (q : Int)] 3)
 obtain ⟨v', w', r, g⟩ := qd2_ 1 h1 (qie_ w q) (by simp only [List.length_cons, List.length_nil]; omega) (Nat.le_trans hB hb.size) 56
 have g2 := hb.grown g.2.1 (Nat.le_trans hB hb.size) (fun b e => (h1.lt b e).1)
 have g3 := g.1
 rw [List.length_map, List.length_append, show [q].length = 1 from rfl] at g3
 obtain ⟨A', c', rfl, _⟩ := qai_ g3
 exact ⟨A', c', w', r, g3, g2⟩
theorem rev_any {w : World} {B n : Nat} {A : Option Addr} {c : Nat} {p : List Nat} (h : w.ownsRow B 3 1 (.slice A n c) n (ints p)) (hn : n <= 1073741824) :
  Calls Tryz.prog 178 #[.slice A n c] w fun e w' => e = .returned (.tuple #[]) /\ Cel w' w'.heap.size A n (ints p.reverse) /\ n <= c /\ c <= 9223372036854775807 /\ Below B w w' := by
 obtain ⟨A', c', e', hcel, h1, h2, hob⟩ := qai_ h
 simp only [Value.slice.injEq, true_and] at e'
 obtain ⟨rfl, rfl⟩ := e'
 have hl := h.1
 rw [List.length_map, Nat.mul_one] at hl
 rcases Nat.eq_zero_or_pos n with rfl | h0
 ·obtain rfl : p = [] := List.eq_nil_of_length_eq_zero hl
  exact (Tryz.slices_Reverse_int_empty A c w).mono fun e w' ⟨h3, h4⟩ => ⟨h3, by subst h4; exact Cel.nil _ _ _, h1, h2, by subst h4; exact Below.refl _ _⟩
 ·obtain ⟨b, o, rfl, hb, hc⟩ := hcel.at_ h0
  have hBb := (hob b rfl).1
  obtain ⟨rfl, hfz⟩ : o = 0 /\ ∀ j, w.frozen? ⟨b, j, none⟩ = false := by
   rcases h.2 with ⟨e, _⟩ | ⟨g, cap, cur, e, _, hg, _⟩
   ·cases e
   ·simp only [Value.slice.injEq, Option.some.injEq, Addr.mk.injEq] at e
    obtain ⟨⟨rfl, rfl, _⟩, _, _⟩ := e
    exact ⟨rfl, fun j => Lib.frozen_of_heap hg j⟩
  have hz : ∀ j, j < (p.map Int.ofNat).length -> w.cell? ⟨b, 0 + j, none⟩ = some (.int .i64 ((p.map Int.ofNat).getD j 0)) := fun j hj => by
   rw [List.length_map] at hj
   rw [hc j (by omega), List.getElem?_map, List.getD_eq_getElem?_getD, List.getElem?_map, List.getElem?_eq_getElem hj]
   rfl
  have hlz : (p.map Int.ofNat).length = n := by rw [List.length_map]; exact hl
  refine (Tryz.slices_Reverse_int_cells b 0 n c (p.map Int.ofNat) w (by omega) (by omega) hz (fun j _ => by rw [Nat.zero_add]; exact hfz j)).mono ?_
  rintro e w' ⟨rfl, q, rfl⟩
  have ev : (((p.map Int.ofNat).take n).reverse.map (Value.int .i64)) = ints p.reverse := by
   rw [List.take_of_length_le (by omega), <- List.map_reverse, List.map_map]
   rfl
  rw [ev]
  have hll : (ints p.reverse).length = n := by rw [List.length_map, List.length_reverse]; exact hl
  have hbl : Below B w (w.drewN q) := ⟨rfl, rfl, rfl, Nat.le_refl _, fun _ _ => rfl⟩
  have hb2 := qex_ hBb (ints p.reverse) 0 _ hbl
  have hbs : b < ((w.drewN q).setCells b 0 (ints p.reverse)).heap.size := Nat.lt_of_lt_of_le hb (qex_ (B := 0) (w0 := w) (b := b) (Nat.zero_le _) (ints p.reverse) 0 (w.drewN q) ⟨rfl, rfl, rfl, Nat.le_refl _, fun _ _ => rfl⟩).size
  refine ⟨rfl, ⟨hll, fun _ => ⟨b, 0, rfl, hbs, fun i hi => ?_⟩⟩, h1, h2, hb2⟩
  rw [World.cell?_setCells_in b (ints p.reverse) 0 (w.drewN q) (fun j hj => ?_) i (by omega), List.getElem?_eq_getElem (by omega)]
  have e2 : (w.drewN q).cell? ⟨b, 0 + j, none⟩ = w.cell? ⟨b, 0 + j, none⟩ := rfl
  rw [e2, hc j (by omega), List.getElem?_eq_getElem (by rw [List.length_map]; omega)]
  rfl
theorem qk7_ (R : Nd) (D : Nat -> Prop) (b : Nat) (z : List Nat) (x : Nd) (w : World) (hs : Spot w R D b z x) (hh : heftN R <= 134217728) :
  Calls Tryz.prog 143 #[.pointer (some ⟨b, 0, none⟩)] w fun e w' => (∃ A c, e = .returned (.slice A z.length c) /\ Cel w' w'.heap.size A z.length (ints z) /\ z.length <= c /\ c <= 9223372036854775807 /\ ∀ b o, A = some ⟨b, o, none⟩ -> w.heap.size <= b) /\ Below w.heap.size w w' := by
 have HS := Lib.hid hs
 have HL : Hid (z.length <= 8388608) := Lib.hid (by have := hs.len; omega)
 clear hs hh
 go_enter Tryz.func143, Tryz.ntmps143
 go_wp2_with fail
 go_loopw [0, 3] (fun s l wr => ∃ (b' : Nat) (z1 : List Nat) (x1 : Nd) (z2 : List Nat), s = .pointer (some ⟨b', 0, none⟩) /\ Spot w R D b' z1 x1 /\ z = z1 ++ z2.reverse /\ lenV l = z2.length /\ wr.ownsRow w.heap.size 3 1 l z2.length (ints z2) /\ Below w.heap.size w wr) (fun _ l _ => z.length - lenV l)
 case atStart => exact ⟨b, z, x, [], rfl, HS.out, by simp, rfl, World.ownsRow_nil _ _ _ _, Below.refl _ _⟩
 case round =>
  obtain ⟨b', z1, x1, z2, rfl, hs1, hz, hlv, hrow, hb⟩ := hrel
  have HB := Lib.hid hb
  rcases hs1.inv with ⟨rfl, _, hbk⟩ | ⟨a, i, z3, x3, rfl, hs3, _, hbk⟩
  ·replace hbk := (hb.block _ (Array.getElem?_eq_some_iff.1 hbk).1).trans hbk
   obtain ⟨s0, s1, s2, s3, s4⟩ := qat_ hbk
   obtain ⟨A, c, rfl, _, _, _, hob⟩ := qai_ hrow
   have HOB : Hid (∀ b o, A = some ⟨b, o, none⟩ -> w.heap.size <= b) := Lib.hid (fun b o e => (hob b (by rw [e]; rfl)).1)
   clear hob
   have hz2 : z = z2.reverse := hz
   have hlen : z2.length = z.length := by rw [hz2, List.length_reverse]
   rw [hlen] at hrow
   have CR := rev_any hrow (by have := HL.out; omega)
   rw [<- hz2] at CR
   have CR := Lib.hid CR
   rw [hlen]
   clear hb hbk hs1 hz hz2 hlv hrow s0 s1 s2 s4 hlen
   go_wp2_with fail
   refine CR.out.mono ?_
   rintro e w2 ⟨rfl, hcel, h1, h2, hb2⟩
   have HFIN := Lib.hid (And.intro hcel (And.intro h1 (And.intro h2 (HB.out.trans hb2))))
   clear hcel h1 h2 hb2 CR
   go_wp2
   go_ret
   exact ⟨⟨A, c, rfl, HFIN.out.1, HFIN.out.2.1, HFIN.out.2.2.1, HOB.out⟩, HFIN.out.2.2.2⟩
  ·have hbk0 := hbk
   replace hbk := (hb.block _ (Array.getElem?_eq_some_iff.1 hbk).1).trans hbk
   obtain ⟨s0, s1, s2, s3, s4⟩ := qat_ hbk
   have hzl := congrArg List.length hz
   rw [List.length_append, List.length_append, List.length_reverse, List.length_singleton] at hzl
   obtain ⟨A', c', w5, r5, hrow5, hb5⟩ := app_numI hrow i (by have := HL.out; omega) hb.size
   have q3 : w5.cell? ⟨b', 3, none⟩ = some (.pointer (some ⟨a, 0, none⟩)) := by
    obtain ⟨_, _, _, q, _⟩ := qat_ (((hb.trans hb5).block _ (Array.getElem?_eq_some_iff.1 hbk0).1).trans hbk0)
    exact q
   have HFIN := Lib.hid (And.intro hrow5 (And.intro hs3 (And.intro (hb.trans hb5) (show z = z3 ++ (z2 ++ [i]).reverse by rw [hz, List.reverse_append]; simp))))
   obtain ⟨A, c, rfl, _⟩ := qai_ hrow
   have HZL := Lib.hid hzl
   obtain ⟨n2, hn2⟩ : ∃ n2, z2.length = n2 := ⟨_, rfl⟩
   have HN2 := Lib.hid hn2
   rw [hn2] at r5 HZL HFIN ⊢
   clear hb hbk hbk0 hs1 hs3 hz hlv hrow s0 s1 s2 hzl hrow5 hb5 hn2
   go_wp2_with (at_builtin; refine Lib.wpList_append_run_sl _ rfl _ _ _ rfl _ _ rfl rfl r5 ?_)
   go_roundw
   case rel => exact ⟨a, z3, x3, z2 ++ [i], rfl, HFIN.out.2.1, HFIN.out.2.2.2, by rw [List.length_append, HN2.out]; rfl, by rw [List.length_append, HN2.out]; exact HFIN.out.1, HFIN.out.2.2.1⟩
   case measure => have := HZL.out; simp only [lenV]; omega
end Go.Proofs.YtcfinbapfhhpgaaGreatDoor
