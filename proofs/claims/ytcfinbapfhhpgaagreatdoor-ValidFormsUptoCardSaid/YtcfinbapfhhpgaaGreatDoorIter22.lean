/-
  Iter, part 22.
-/
import Derived.Test.YtcfinbapfhhpgaaGreatDoorBase11
import Derived.Test.YtcfinbapfhhpgaaGreatDoorIter4
import Derived.Defers
import Derived.Recover
import Derived.Test.YtcfinbapfhhpgaaGreatDoorBase6
import Derived.Test.YtcfinbapfhhpgaaGreatDoorIter21
import Derived.Test.YtcfinbapfhhpgaaGreatDoorRows
import Derived.LaidHandle
import Derived.LaidMore
namespace Go.Proofs.YtcfinbapfhhpgaaGreatDoor
open Go.RowKit
set_option linter.unusedVariables false
set_option linter.unusedSimpArgs false
set_option maxRecDepth 20000
set_option maxHeartbeats 16000000
section
open Go.RowKit Go.Extern.Stop Go.Stop Go.Extern
theorem as_setF (b tb : Nat) (s : ByteArray) (e : Int) (o0 o1 : Value) (W : World) (hb0 : W.cell? ⟨b, 0, none⟩ = some (.string s)) (hb1 : W.cell? ⟨b, 1, none⟩ = some (.iface 32 (.int .i64 e))) (h0 : W.cell? ⟨tb, 0, none⟩ = some o0) (h1 : W.cell? ⟨tb, 1, none⟩ = some o1) (f0 : W.frozen? ⟨tb, 0, none⟩ = false) (f1 : W.frozen? ⟨tb, 1, none⟩ = false) :
  (ReflectliteValue.set #[.agg #[.pointer (some ⟨2, 64, none⟩), .pointer (some ⟨tb, 0, none⟩), .int .u64 409], .agg #[.pointer (some ⟨2, 64, none⟩), .pointer (some ⟨b, 0, none⟩), .int .u64 153]]).run Tryz.prog W = .ok (.tuple #[]) ((W.setCell ⟨tb, 0, none⟩ (.string s)).setCell ⟨tb, 1, none⟩ (.iface 32 (.int .i64 e))) := by
 have a1 : (isAgg 64).run Tryz.prog W = .ok true W := by kernel_rfl
 have a2 : (sizeOf 64).run Tryz.prog W = .ok 2 W := by kernel_rfl
 have l1 : (loadVar 64 ⟨b, 0, none⟩).run Tryz.prog W = .ok (.agg #[.string s, (.iface 32 (.int .i64 e))]) W := by
  simp [loadVar, a1, a2, loadCells, loadCellsFrom, Addr.add, hb0, hb1, Result.andThen, go_sem]
 have s1 : (storeVar 64 ⟨tb, 0, none⟩ (.agg #[.string s, (.iface 32 (.int .i64 e))])).run Tryz.prog W = .ok () ((W.setCell ⟨tb, 0, none⟩ (.string s)).setCell ⟨tb, 1, none⟩ (.iface 32 (.int .i64 e))) := by
  have e2 : (Value.agg #[.string s, (.iface 32 (.int .i64 e))]).cells = #[.string s, (.iface 32 (.int .i64 e))] := by simp [Value.cells]
  have g1 : (W.setCell ⟨tb, 0, none⟩ (.string s)).cell? ⟨tb, 1, none⟩ = some o1 := by rw [World.cell?_setCell_other _ _ _ _ (by simp)]; exact h1
  have g2 : (W.setCell ⟨tb, 0, none⟩ (.string s)).frozen? ⟨tb, 1, none⟩ = false := by simpa using f1
  simp only [storeVar, Sem.run_bind, a2, Result.andThen, e2]
  rw [if_neg (by simp)]
  have ta : (store ⟨tb, 0, none⟩ (.string s)).run Tryz.prog W = .ok () (W.setCell ⟨tb, 0, none⟩ (.string s)) := by
   rw [run_store Tryz.prog W ⟨tb, 0, none⟩ (.string s) _ (by rfl)]
   simp [h0, f0]
  have tb2 : (store ⟨tb, 1, none⟩ (.iface 32 (.int .i64 e))).run Tryz.prog (W.setCell ⟨tb, 0, none⟩ (.string s)) = .ok () ((W.setCell ⟨tb, 0, none⟩ (.string s)).setCell ⟨tb, 1, none⟩ (.iface 32 (.int .i64 e))) := by
   rw [run_store Tryz.prog _ ⟨tb, 1, none⟩ (.iface 32 (.int .i64 e)) _ (by rfl)]
   simp [g1, g2]
  simp [storeCells, Sem.run_bind, Addr.add, ta, tb2, Result.andThen]
 rw [rls]
 simp only [Sem.run_bind, qnr_, qpa_, Result.andThen]
 rw [if_neg (by decide)]
 simp only [Sem.run_bind, l1, qng_, Result.andThen]
 rw [if_pos trivial]
 simp only [Sem.run_bind, s1, Result.andThen]
 rfl
theorem in_FF (s : ByteArray) (e : Int) (tb : Nat) (o0 o1 : Value) (a : Addr) (w : World) (ha : w.cell? a = some (.pointer (some ⟨tb, 0, none⟩))) (hT : w.heap[tb]? = some (.cells #[o0, o1] 64 (0, 0))) :
  Calls Tryz.prog 33 #[.iface 64 (.agg #[.string s, .iface 32 (.int .i64 e)]), .iface 66 (.pointer (some ⟨tb, 0, none⟩)), .agg #[.pointer (some ⟨2, 66, none⟩), .pointer (some a), .int .u64 150], .iface 136 (.agg #[.pointer (some ⟨2, 64, none⟩)])] w fun ev w' => ev = .returned (.bool true) /\ w'.heap[tb]? = some (.cells #[.string s, (.iface 32 (.int .i64 e))] 64 (0, 0)) /\ (∀ k, k < w.heap.size -> k ≠ tb -> w'.heap[k]? = w.heap[k]?) /\ w.heap.size <= w'.heap.size /\ Below tb w w' := by
 have x0 := as_x0
 have x1 := as_x1
 have x2 := as_x2
 have x3 := as_x3
 have x4 := as_x4
 have x5 := as_x5
 have x6 := as_x6
 have x7 := as_x7
 have x8 := as_x8
 have x9 := as_x9
 have mK := qa1_
 have mE := qaz_
 have mA := qam_
 have hlt : a.block < w.heap.size := by
  rcases Nat.lt_or_ge a.block w.heap.size with h | h
  ·exact h
  ·simp [World.cell?, Array.getElem?_eq_none h] at ha
 obtain ⟨h0, h1⟩ := qaa_ hT
 have f0 := Lib.frozen_of_heap hT 0
 have f1 := Lib.frozen_of_heap hT 1
 have tF := qfr_
 have bF := qma_
 have vF := as_valF
 have htl : tb < w.heap.size := by
  rcases Nat.lt_or_ge tb w.heap.size with h | h
  ·exact h
  ·simp [World.cell?, Array.getElem?_eq_none h] at h0
 have el := as_elemVF a ⟨tb, 0, none⟩ (((w).alloc (.cells #[.pointer (some ⟨2, 66, none⟩), .pointer (some a), .int .u64 150] 93))) (by rw [World.cell?_alloc_lt _ _ a hlt]; exact ha)
 have st := as_setF (w.heap.size + 1) tb s e o0 o1 ((((w).alloc (.cells #[.pointer (some ⟨2, 66, none⟩), .pointer (some a), .int .u64 150] 93))).alloc (.cells #[.string s, .iface 32 (.int .i64 e)] 64))
  (by rw [World.cell?_alloc_at _ _ _ _ (by simp)]; rfl) (by rw [World.cell?_alloc_at _ _ _ _ (by simp)]; rfl)
  (by rw [World.cell?_alloc_lt _ _ ⟨tb, 0, none⟩ (by simp; omega), World.cell?_alloc_lt _ _ ⟨tb, 0, none⟩ htl]; exact h0)
  (by rw [World.cell?_alloc_lt _ _ ⟨tb, 1, none⟩ (by simp; omega), World.cell?_alloc_lt _ _ ⟨tb, 1, none⟩ htl]; exact h1)
  (by rw [World.frozen?_alloc_old _ _ ⟨tb, 0, none⟩ (by simp; omega), World.frozen?_alloc_old _ _ ⟨tb, 0, none⟩ (Nat.ne_of_lt htl)]; exact f0)
  (by rw [World.frozen?_alloc_old _ _ ⟨tb, 1, none⟩ (by simp; omega), World.frozen?_alloc_old _ _ ⟨tb, 1, none⟩ (Nat.ne_of_lt htl)]; exact f1)
 go_enter Tryz.func33, Tryz.ntmps33
 go_wp2
 refine wp_loop_rounds 1 ?_
 rw [rounds_succ]
 go_wp2
 go_ret
 have e1 := qax_ hT (.string s) (.iface 32 (.int .i64 e))
 have e2 := fun k (hk : k ≠ tb) => qay_ w hk (.string s) (.iface 32 (.int .i64 e))
 have e3 : Below tb w _ := qal_ (Below.refl tb w) (Nat.le_refl _) (.string s) (.iface 32 (.int .i64 e))
 have e4 : ((w.setCell ⟨tb, 0, none⟩ (.string s)).setCell ⟨tb, 1, none⟩ (.iface 32 (.int .i64 e))).heap.size = w.heap.size := by simp [World.setCell]
 generalize (w.setCell ⟨tb, 0, none⟩ (.string s)).setCell ⟨tb, 1, none⟩ (.iface 32 (.int .i64 e)) = W at *
 have e5 : ∀ (o p : Obj), Below W.heap.size W ((W.alloc o).alloc p) := fun o p => ((Below.refl _ W).alloc (Nat.le_refl _) o).alloc (by simp) p
 exact ⟨rfl, ((e5 _ _).block _ (by omega)).trans e1, fun k hk hn => ((e5 _ _).block _ (by omega)).trans (e2 k hn), by have := (e5 (.cells #[] 0) (.cells #[] 0)).size; simp at this ⊢; omega, e3.trans ((e5 _ _).mono (by omega))⟩
theorem As_E (X : TypeId) (xv : Value) (t : Addr) (w : World) (R : Bool -> World -> Prop) (hg : EL w) (C : ∀ W a, Below w.heap.size w W -> w.heap.size <= a.block -> W.cell? a = some (.pointer (some t)) -> Calls Tryz.prog 33 #[.iface X xv, .iface 62 (.pointer (some t)), .agg #[.pointer (some ⟨2, 62, none⟩), .pointer (some a), .int .u64 150], .iface 136 (.agg #[.pointer (some ⟨2, 32, none⟩)])] W fun ev w' => ∃ r, ev = .returned (.bool r) /\ R r w') :
  Calls Tryz.prog 18 #[.iface X xv, .iface 62 (.pointer (some t))] w fun ev w' => ∃ r, ev = .returned (.bool r) /\ R r w' := by
 unfold EL at hg
 have x0 := as_x0
 have x1 := as_x1
 have x2 := as_x2
 have x3 := as_x3
 have x4 := as_x4
 have x5 := as_x5
 have x6 := as_x6
 have x7 := as_x7
 have x8 := as_x8
 have x9 := as_x9
 have f6 := qmc_
 have f7 := as_typeE
 have mK := qa1_
 have mE := qaz_
 have mI := qbt_
 have k1 := as_kindPE
 have k2 := as_kindE
 have e1 := as_elemE
 have hlt : 0 < w.heap.size := by
  rcases Nat.lt_or_ge 0 w.heap.size with h | h
  ·exact h
  ·simp [World.cell?, Array.getElem?_eq_none h] at hg
 have n8 := as_isNilE ⟨w.heap.size, 0, none⟩ t ((w.alloc (.cells #[.pointer (some t)] 62)).alloc (.cells #[.pointer (some ⟨2, 62, none⟩), .pointer (some ⟨w.heap.size, 0, none⟩), .int .u64 150] 93)) (by simp)
 have iE := as_implE
 have hg2 : ((w.alloc (.cells #[.pointer (some t)] 62)).alloc (.cells #[.pointer (some ⟨2, 62, none⟩), .pointer (some ⟨w.heap.size, 0, none⟩), .int .u64 150] 93)).cell? ⟨0, 0, none⟩ = some (.iface 136 (.agg #[.pointer (some ⟨2, 41, none⟩)])) := by
  rw [World.cell?_alloc_lt _ _ ⟨0, 0, none⟩ (by simp <;> omega), World.cell?_alloc_lt _ _ ⟨0, 0, none⟩ hlt]; exact hg
 have CC := Lib.hid (C ((w.alloc (.cells #[.pointer (some t)] 62)).alloc (.cells #[.pointer (some ⟨2, 62, none⟩), .pointer (some ⟨w.heap.size, 0, none⟩), .int .u64 150] 93)) ⟨w.heap.size, 0, none⟩ (((Below.refl w.heap.size w).alloc (Nat.le_refl _) _).alloc (by simp) _) (Nat.le_refl _) (by simp))
 clear C
 go_enter Tryz.func18, Tryz.ntmps18
 go_wp2_with fail
 refine CC.out.mono ?_
 rintro ev w1 ⟨r, rfl, hr⟩
 have HR := Lib.hid hr
 clear hr CC
 go_wp2
 go_ret
 exact ⟨_, rfl, HR.out⟩
theorem As_J (X : TypeId) (xv : Value) (t : Addr) (w : World) (R : Bool -> World -> Prop) (hg : EL w) (C : ∀ W a, Below w.heap.size w W -> w.heap.size <= a.block -> W.cell? a = some (.pointer (some t)) -> Calls Tryz.prog 33 #[.iface X xv, .iface 103 (.pointer (some t)), .agg #[.pointer (some ⟨2, 103, none⟩), .pointer (some a), .int .u64 150], .iface 136 (.agg #[.pointer (some ⟨2, 102, none⟩)])] W fun ev w' => ∃ r, ev = .returned (.bool r) /\ R r w') :
  Calls Tryz.prog 18 #[.iface X xv, .iface 103 (.pointer (some t))] w fun ev w' => ∃ r, ev = .returned (.bool r) /\ R r w' := by
 unfold EL at hg
 have x0 := as_x0
 have x1 := as_x1
 have x2 := as_x2
 have x3 := as_x3
 have x4 := as_x4
 have x5 := as_x5
 have x6 := as_x6
 have x7 := as_x7
 have x8 := as_x8
 have x9 := as_x9
 have f6 := qly_
 have f7 := as_typeJ
 have mK := qa1_
 have mE := qaz_
 have mI := qbt_
 have k1 := as_kindPJ
 have k2 := as_kindJ
 have e1 := as_elemJ
 have hlt : 0 < w.heap.size := by
  rcases Nat.lt_or_ge 0 w.heap.size with h | h
  ·exact h
  ·simp [World.cell?, Array.getElem?_eq_none h] at hg
 have n8 := as_isNilJ ⟨w.heap.size, 0, none⟩ t ((w.alloc (.cells #[.pointer (some t)] 103)).alloc (.cells #[.pointer (some ⟨2, 103, none⟩), .pointer (some ⟨w.heap.size, 0, none⟩), .int .u64 150] 93)) (by simp)
 have CC := Lib.hid (C ((w.alloc (.cells #[.pointer (some t)] 103)).alloc (.cells #[.pointer (some ⟨2, 103, none⟩), .pointer (some ⟨w.heap.size, 0, none⟩), .int .u64 150] 93)) ⟨w.heap.size, 0, none⟩ (((Below.refl w.heap.size w).alloc (Nat.le_refl _) _).alloc (by simp) _) (Nat.le_refl _) (by simp))
 clear C
 go_enter Tryz.func18, Tryz.ntmps18
 go_wp2_with fail
 refine CC.out.mono ?_
 rintro ev w1 ⟨r, rfl, hr⟩
 have HR := Lib.hid hr
 clear hr CC
 go_wp2
 go_ret
 exact ⟨_, rfl, HR.out⟩
theorem As_F (X : TypeId) (xv : Value) (t : Addr) (w : World) (R : Bool -> World -> Prop) (hg : EL w) (C : ∀ W a, Below w.heap.size w W -> w.heap.size <= a.block -> W.cell? a = some (.pointer (some t)) -> Calls Tryz.prog 33 #[.iface X xv, .iface 66 (.pointer (some t)), .agg #[.pointer (some ⟨2, 66, none⟩), .pointer (some a), .int .u64 150], .iface 136 (.agg #[.pointer (some ⟨2, 64, none⟩)])] W fun ev w' => ∃ r, ev = .returned (.bool r) /\ R r w') :
  Calls Tryz.prog 18 #[.iface X xv, .iface 66 (.pointer (some t))] w fun ev w' => ∃ r, ev = .returned (.bool r) /\ R r w' := by
 unfold EL at hg
 have x0 := as_x0
 have x1 := as_x1
 have x2 := as_x2
 have x3 := as_x3
 have x4 := as_x4
 have x5 := as_x5
 have x6 := as_x6
 have x7 := as_x7
 have x8 := as_x8
 have x9 := as_x9
 have f6 := qmg_
 have f7 := as_typeF
 have mK := qa1_
 have mE := qaz_
 have mI := qbt_
 have k1 := as_kindPF
 have k2 := as_kindF
 have e1 := as_elemF
 have hlt : 0 < w.heap.size := by
  rcases Nat.lt_or_ge 0 w.heap.size with h | h
  ·exact h
  ·simp [World.cell?, Array.getElem?_eq_none h] at hg
 have n8 := as_isNilF ⟨w.heap.size, 0, none⟩ t ((w.alloc (.cells #[.pointer (some t)] 66)).alloc (.cells #[.pointer (some ⟨2, 66, none⟩), .pointer (some ⟨w.heap.size, 0, none⟩), .int .u64 150] 93)) (by simp)
 have iE := as_implF
 have hg2 : ((w.alloc (.cells #[.pointer (some t)] 66)).alloc (.cells #[.pointer (some ⟨2, 66, none⟩), .pointer (some ⟨w.heap.size, 0, none⟩), .int .u64 150] 93)).cell? ⟨0, 0, none⟩ = some (.iface 136 (.agg #[.pointer (some ⟨2, 41, none⟩)])) := by
  rw [World.cell?_alloc_lt _ _ ⟨0, 0, none⟩ (by simp <;> omega), World.cell?_alloc_lt _ _ ⟨0, 0, none⟩ hlt]; exact hg
 have CC := Lib.hid (C ((w.alloc (.cells #[.pointer (some t)] 66)).alloc (.cells #[.pointer (some ⟨2, 66, none⟩), .pointer (some ⟨w.heap.size, 0, none⟩), .int .u64 150] 93)) ⟨w.heap.size, 0, none⟩ (((Below.refl w.heap.size w).alloc (Nat.le_refl _) _).alloc (by simp) _) (Nat.le_refl _) (by simp))
 clear C
 go_enter Tryz.func18, Tryz.ntmps18
 go_wp2_with fail
 refine CC.out.mono ?_
 rintro ev w1 ⟨r, rfl, hr⟩
 have HR := Lib.hid hr
 clear hr CC
 go_wp2
 go_ret
 exact ⟨_, rfl, HR.out⟩
end
section
open Go.RowKit Go.Extern.Stop Go.Stop Go.Extern
theorem EL.below {w w' : World} {B : Nat} (h : EL w) (hb : Below B w w') (hB : 0 < B) : EL w' := (hb.cell (p := ⟨0, 0, none⟩) hB).trans h
theorem EL.lt {w : World} (h : EL w) : 0 < w.heap.size := by
 unfold EL at h
 rcases Nat.lt_or_ge 0 w.heap.size with h1 | h1
 ·exact h1
 ·simp [World.cell?, Array.getElem?_eq_none h1] at h
theorem EL.on {w w' : World} (h : EL w) (hb : Below w.heap.size w w') : EL w' := h.below hb h.lt
theorem As_EE (e : Int) (t : Addr) (old : Value) (w : World) (hg : EL w) (ht0 : w.cell? t = some old) (hf0 : w.frozen? t = false) :
  Calls Tryz.prog 18 #[.iface 32 (.int .i64 e), .iface 62 (.pointer (some t))] w fun ev w' => ev = .returned (.bool true) /\ ∃ W, Below w.heap.size w W /\ w' = W.setCell t (.int .i64 e) :=
 (As_E 32 (.int .i64 e) t w (fun r w' => r = true /\ ∃ W, Below w.heap.size w W /\ w' = W.setCell t (.int .i64 e)) hg (fun W a hb _ ha => by
  have htl : t.block < w.heap.size := by
   rcases Nat.lt_or_ge t.block w.heap.size with h | h
   ·exact h
   ·simp [World.cell?, Array.getElem?_eq_none h] at ht0
  refine (in_EE e t a W ha old ((hb.cell htl).trans ht0) ((World.frozen?_of_block (hb.block _ htl)).trans hf0)).mono ?_
  rintro ev w1 ⟨rfl, W1, hb1, rfl⟩
  exact ⟨true, rfl, rfl, W1, hb.trans (hb1.mono hb.size), rfl⟩)).mono fun ev w' ⟨r, he, hr, h⟩ => ⟨by rw [he, hr], h⟩
theorem As_EJ (e : Int) (t : Addr) (w : World) (hg : EL w) :
  Calls Tryz.prog 18 #[.iface 32 (.int .i64 e), .iface 103 (.pointer (some t))] w fun ev w' => ev = .returned (.bool false) /\ Below w.heap.size w w' :=
 (As_J 32 (.int .i64 e) t w (fun r w' => r = false /\ Below w.heap.size w w') hg (fun W a hb _ ha => by
  refine (in_EJ e t a W ha).mono ?_
  rintro ev w1 ⟨rfl, hb1⟩
  exact ⟨false, rfl, rfl, hb.trans (hb1.mono hb.size)⟩)).mono fun ev w' ⟨r, he, hr, h⟩ => ⟨by rw [he, hr], h⟩
theorem As_FE (s : ByteArray) (e : Int) (t : Addr) (old : Value) (w : World) (hg : EL w) (ht0 : w.cell? t = some old) (hf0 : w.frozen? t = false) :
  Calls Tryz.prog 18 #[.iface 64 (.agg #[.string s, .iface 32 (.int .i64 e)]), .iface 62 (.pointer (some t))] w fun ev w' => ev = .returned (.bool true) /\ ∃ W, Below w.heap.size w W /\ w' = W.setCell t (.int .i64 e) :=
 (As_E 64 (.agg #[.string s, .iface 32 (.int .i64 e)]) t w (fun r w' => r = true /\ ∃ W, Below w.heap.size w W /\ w' = W.setCell t (.int .i64 e)) hg (fun W a hb _ ha => by
  have htl : t.block < w.heap.size := by
   rcases Nat.lt_or_ge t.block w.heap.size with h | h
   ·exact h
   ·simp [World.cell?, Array.getElem?_eq_none h] at ht0
  refine (in_FE s e t a W ha old ((hb.cell htl).trans ht0) ((World.frozen?_of_block (hb.block _ htl)).trans hf0)).mono ?_
  rintro ev w1 ⟨rfl, W1, hb1, rfl⟩
  exact ⟨true, rfl, rfl, W1, hb.trans (hb1.mono hb.size), rfl⟩)).mono fun ev w' ⟨r, he, hr, h⟩ => ⟨by rw [he, hr], h⟩
theorem As_FJ (s : ByteArray) (e : Int) (t : Addr) (w : World) (hg : EL w) :
  Calls Tryz.prog 18 #[.iface 64 (.agg #[.string s, .iface 32 (.int .i64 e)]), .iface 103 (.pointer (some t))] w fun ev w' => ev = .returned (.bool false) /\ Below w.heap.size w w' :=
 (As_J 64 (.agg #[.string s, .iface 32 (.int .i64 e)]) t w (fun r w' => r = false /\ Below w.heap.size w w') hg (fun W a hb _ ha => by
  refine (in_FJ s e t a W ha).mono ?_
  rintro ev w1 ⟨rfl, hb1⟩
  exact ⟨false, rfl, rfl, hb.trans (hb1.mono hb.size)⟩)).mono fun ev w' ⟨r, he, hr, h⟩ => ⟨by rw [he, hr], h⟩
theorem As_EF (e : Int) (t : Addr) (w : World) (hg : EL w) :
  Calls Tryz.prog 18 #[.iface 32 (.int .i64 e), .iface 66 (.pointer (some t))] w fun ev w' => ev = .returned (.bool false) /\ Below w.heap.size w w' :=
 (As_F 32 (.int .i64 e) t w (fun r w' => r = false /\ Below w.heap.size w w') hg (fun W a hb _ ha => by
  refine (in_EF e t a W ha).mono ?_
  rintro ev w1 ⟨rfl, hb1⟩
  exact ⟨false, rfl, rfl, hb.trans (hb1.mono hb.size)⟩)).mono fun ev w' ⟨r, he, hr, h⟩ => ⟨by rw [he, hr], h⟩
theorem As_FF (s : ByteArray) (e : Int) (tb : Nat) (o0 o1 : Value) (w : World) (hg : EL w) (hT : w.heap[tb]? = some (.cells #[o0, o1] 64 (0, 0))) :
  Calls Tryz.prog 18 #[.iface 64 (.agg #[.string s, .iface 32 (.int .i64 e)]), .iface 66 (.pointer (some ⟨tb, 0, none⟩))] w fun ev w' => ev = .returned (.bool true) /\ w'.heap[tb]? = some (.cells #[.string s, .iface 32 (.int .i64 e)] 64 (0, 0)) /\ (∀ k, k < w.heap.size -> k ≠ tb -> w'.heap[k]? = w.heap[k]?) /\ w.heap.size <= w'.heap.size /\ Below tb w w' :=
 (As_F 64 (.agg #[.string s, .iface 32 (.int .i64 e)]) ⟨tb, 0, none⟩ w (fun r w' => r = true /\ w'.heap[tb]? = some (.cells #[.string s, .iface 32 (.int .i64 e)] 64 (0, 0)) /\ (∀ k, k < w.heap.size -> k ≠ tb -> w'.heap[k]? = w.heap[k]?) /\ w.heap.size <= w'.heap.size /\ Below tb w w') hg (fun W a hb _ ha => by
  have htl := (Array.getElem?_eq_some_iff.1 hT).1
  refine (in_FF s e tb o0 o1 a W ha ((hb.block _ htl).trans hT)).mono ?_
  rintro ev w1 ⟨rfl, h1, h2, h3, h4⟩
  have hs := hb.size
  exact ⟨true, rfl, rfl, h1, fun k hk hn => (h2 k (by omega) hn).trans (hb.block k hk), by omega, (hb.mono (by omega)).trans h4⟩)).mono fun ev w' ⟨r, he, hr, h⟩ => ⟨by rw [he, hr], h⟩
theorem branch_E (e : Int) (n : Int) (w : World) (hg : EL w) : Calls Tryz.prog 19 #[.iface 32 (.int .i64 e), .int .i64 n] w fun ev w' => ev = .returned (.iface 32 (.int .i64 e)) /\ Below w.heap.size w w' := by
 have HB := Lib.hid (((Below.refl w.heap.size w).alloc (Nat.le_refl _) (.cells #[.int .i64 n] 32)).alloc (by simp) (.cells #[.nilIface] 102))
 have CA := Lib.hid (fun (t : Addr) (W : World) (hW : Below w.heap.size w W) => As_EJ e t W (hg.on hW))
 clear hg
 go_enter Tryz.func19, Tryz.ntmps19
 go_wp2_with fail
 refine wp_loop_rounds 1 ?_
 rw [rounds_succ]
 go_wp2_with fail
 refine (CA.out _ _ HB.out).mono ?_
 rintro ev w1 ⟨rfl, hb⟩
 have HB1 := Lib.hid (HB.out.trans (hb.mono HB.out.size))
 clear hb CA
 go_wp2
 go_ret
 exact ⟨rfl, HB1.out⟩
theorem branch_F (s : ByteArray) (e : Int) (n : Int) (w : World) (hg : EL w) : Calls Tryz.prog 19 #[.iface 64 (.agg #[.string s, .iface 32 (.int .i64 e)]), .int .i64 n] w fun ev w' => ev = .returned (.iface 64 (.agg #[.string s, .iface 32 (.int .i64 e)])) /\ Below w.heap.size w w' := by
 have HB := Lib.hid (((Below.refl w.heap.size w).alloc (Nat.le_refl _) (.cells #[.int .i64 n] 32)).alloc (by simp) (.cells #[.nilIface] 102))
 have CA := Lib.hid (fun (t : Addr) (W : World) (hW : Below w.heap.size w W) => As_FJ s e t W (hg.on hW))
 clear hg
 go_enter Tryz.func19, Tryz.ntmps19
 go_wp2_with fail
 refine wp_loop_rounds 1 ?_
 rw [rounds_succ]
 go_wp2_with fail
 refine (CA.out _ _ HB.out).mono ?_
 rintro ev w1 ⟨rfl, hb⟩
 have HB1 := Lib.hid (HB.out.trans (hb.mono HB.out.size))
 clear hb CA
 go_wp2
 go_ret
 exact ⟨rfl, HB1.out⟩
theorem catch15 (p q : Addr) (w : World) :
  CallsD Tryz.prog 17 #[.pointer (some p), .pointer (some q)] .returning w fun e u' w' => e = .returned (.tuple #[]) /\ u' = .returning /\ w' = w := by
 refine callsD_of_wpS Tryz.func17 rfl fun c₀ cs hu => ?_
 apply wpS_seq
 apply wpS_region
 simp [wpOpsS, go_sem, recoverD, hu, Tryz.ntmps17, Exit.thenS]
 refine wpS_cond (t := false) (by simp [Act.eval, Array.replicate]) ?_
 simp only [Bool.false_eq_true, if_false]
 refine wpS_of_wp (wp_skip ?_)
 cases c₀
 simp_all [bodyPostS, results, Tryz.results17]
def CauseV (er : Int) (e2 : Ending) : Prop := ∃ (A : Option Addr) (m c : Nat), e2 = .returned (.tuple #[.int .i64 er, .slice A m c])
theorem cause_nil (w : World) : Calls Tryz.prog 8 #[.nilIface] w fun e w' => CauseV 0 e /\ Below w.heap.size w w' := by
 have HB := Lib.hid (((Below.refl w.heap.size w).alloc (Nat.le_refl _) (.cells #[.int .i64 0] 32)).alloc (by simp) (.cells #[.slice none 0 0] 37))
 go_enter_defers Tryz.func8, Tryz.ntmps8
 go_wp2
 have HB2 := HB.out
 simp [bodyPostD, Leaves, settle, results, Tryz.results8, go_sem, CauseV]
 exact HB2
structure CBox (w : World) (er : Int) (v : Value) (W : World) : Prop where
 num : W.heap[w.heap.size]? = some (.cells #[.int .i64 er] 32 (0, 0))
 row : W.heap[w.heap.size + 1]? = some (.cells #[v] 37 (0, 0))
 bel : Below w.heap.size w W
 size : w.heap.size + 2 <= W.heap.size
theorem CBox.on {w W W' : World} {er : Int} {v : Value} (h : CBox w er v W) (hb : Below W.heap.size W W') : CBox w er v W' :=
 ⟨(hb.block _ (by have := h.size; omega)).trans h.num, (hb.block _ (by have := h.size; omega)).trans h.row, h.bel.trans (hb.mono h.bel.size), Nat.le_trans h.size hb.size⟩
theorem CBox.cells {w W : World} {er : Int} {v : Value} (h : CBox w er v W) : W.cell? ⟨w.heap.size, 0, none⟩ = some (.int .i64 er) /\ W.cell? ⟨w.heap.size + 1, 0, none⟩ = some v /\ W.frozen? ⟨w.heap.size, 0, none⟩ = false /\ W.frozen? ⟨w.heap.size + 1, 0, none⟩ = false :=
 ⟨by rw [Lib.cell_of_heap h.num]; rfl, by rw [Lib.cell_of_heap h.row]; rfl, Lib.frozen_of_heap h.num 0, Lib.frozen_of_heap h.row 0⟩
theorem qo4_ (w : World) : CBox w 0 (.slice none 0 0) ((w.alloc (.cells #[.int .i64 0] 32)).alloc (.cells #[.slice none 0 0] 37)) := by
 have e1 : (w.alloc (.cells #[.int .i64 0] 32)).heap.size = w.heap.size + 1 := by simp
 refine ⟨?_, ?_, ((Below.refl w.heap.size w).alloc (Nat.le_refl _) _).alloc (by simp) _, by simp⟩
 ·rw [Below.heap_alloc _ _ _ (by omega)]; exact heap_alloc_new _ _
 ·rw [<- e1]; exact heap_alloc_new _ _
theorem CBox.set {w W : World} {er : Int} {v : Value} (h : CBox w er v W) (e : Int) : CBox w e v (W.setCell ⟨w.heap.size, 0, none⟩ (.int .i64 e)) :=
 ⟨by simp [World.setCell, Array.getElem?_modify, h.num], (Below.heap_setCell _ _ _ _ (by simp)).trans h.row, h.bel.setCell (Nat.le_refl _) _, by simpa using h.size⟩
theorem CBox.put {w W : World} {er : Int} {v : Value} (h : CBox w er v W) (u : Value) : CBox w er u (W.setCell ⟨w.heap.size + 1, 0, none⟩ u) :=
 ⟨(Below.heap_setCell _ _ _ _ (by simp)).trans h.num, by simp [World.setCell, Array.getElem?_modify, h.row], h.bel.setCell (by simp) _, by simpa using h.size⟩
theorem CBox.drew {w W : World} {er : Int} {v : Value} (h : CBox w er v W) : CBox w er v W.drew := ⟨h.num, h.row, ⟨h.bel.os, h.bel.tape, h.bel.output, h.bel.size, h.bel.block⟩, h.size⟩
theorem qmw_ (e : Int) (w : World) (hg : EL w) : Calls Tryz.prog 8 #[.iface 32 (.int .i64 e)] w fun ev w' => ev = .returned (.tuple #[.int .i64 e, .slice none 0 0]) /\ Below w.heap.size w w' := by
 have hmf : ∀ (fn : Fn) (first cap : Array Value) (w : World), (Instr.makeFunc fn first cap).run Tryz.prog w = .ok (.func fn first cap) w := fun _ _ _ _ => rfl
 have C1 := Lib.hid (fun (t : Addr) (old : Value) (W : World) (hW : Below w.heap.size w W) h1 h2 => As_EE e t old W (hg.on hW) h1 h2)
 have C2 := Lib.hid (fun (n : Int) (W : World) (hW : Below w.heap.size w W) => branch_E e n W (hg.on hW))
 have C3 := Lib.hid (fun (t : Addr) (W : World) (hW : Below w.heap.size w W) => As_EF e t W (hg.on hW))
 have HB := Lib.hid (qo4_ w)
 clear hg
 go_enter_defers Tryz.func8, Tryz.ntmps8
 go_wp2_with fail
 refine (C1.out ⟨w.heap.size, 0, none⟩ (.int .i64 0) _ HB.out.bel HB.out.cells.1 HB.out.cells.2.2.1).mono ?_
 rintro ev w1 ⟨rfl, W, hb, rfl⟩
 have HB1 := Lib.hid ((HB.out.on hb).set e)
 clear hb
 generalize W.setCell ⟨w.heap.size, 0, none⟩ (.int .i64 e) = W1 at *
 obtain ⟨c0, c1, f0, f1⟩ := HB1.out.cells
 have hl0 : w.heap.size < W1.heap.size := by have := HB1.out.size; omega
 have hl1 : w.heap.size + 1 < W1.heap.size := by have := HB1.out.size; omega
 have hn0 : ¬ w.heap.size = W1.heap.size := by omega
 have hn1 : ¬ w.heap.size + 1 = W1.heap.size := by omega
 go_wp2_with fail
 clear hl0 hl1 hn0 hn1
 refine (C2.out e (W1.alloc (.cells #[.string ⟨#[]⟩, .nilIface] 64)) (HB1.out.on ((Below.refl _ W1).alloc (Nat.le_refl _) _)).bel).mono ?_
 rintro ev w2 ⟨rfl, hb⟩
 have HB2 := Lib.hid ((HB1.out.on ((Below.refl _ W1).alloc (Nat.le_refl _) (.cells #[.string ⟨#[]⟩, .nilIface] 64))).on hb)
 clear hb c0 c1 f0 f1
 obtain ⟨c0, c1, f0, f1⟩ := HB2.out.cells
 go_wp2_with fail
 refine wp_loop_rounds 1 ?_
 rw [rounds_succ]
 go_wp2_with fail
 refine (C3.out _ _ HB2.out.bel).mono ?_
 rintro ev w3 ⟨rfl, hb⟩
 have HB3 := Lib.hid (HB2.out.on hb)
 clear hb c0 c1 f0 f1
 obtain ⟨c0, c1, f0, f1⟩ := HB3.out.cells
 go_wp2
 go_region
 have HB4 := Lib.hid (((HB3.out.set e).put (.slice none 0 0)).drew)
 clear c0 c1 f0 f1
 generalize ((w3.setCell ⟨w.heap.size, 0, none⟩ (.int .i64 e)).setCell ⟨w.heap.size + 1, 0, none⟩ (.slice none 0 0)).drew = W4 at *
 obtain ⟨c0, c1, f0, f1⟩ := HB4.out.cells
 go_wp2
 refine leaves_cons (f := 17) (args := #[.pointer (some ⟨w.heap.size, 0, none⟩), .pointer (some ⟨w.heap.size + 1, 0, none⟩)]) (by simp) (by simp [go_sem]) ?_
 refine (catch15 _ _ _).mono ?_
 rintro e2 u' w5 ⟨rfl, rfl, rfl⟩
 have HBE := HB4.out.bel
 simp [Leaves, settle, results, Tryz.results8, go_sem, c0, c1]
 exact HBE
theorem qnk_ : (Tryz.prog.info? 9).map (fun i => (i.zero, i.size, i.bytes)) = some (some (.string ⟨#[]⟩), 1, 16) := by kernel_rfl
theorem cause_F (s : ByteArray) (e : Int) (w : World) (hg : EL w) : Calls Tryz.prog 8 #[.iface 64 (.agg #[.string s, .iface 32 (.int .i64 e)])] w fun ev w' => CauseV e ev /\ Below w.heap.size w w' := by
 have hmf : ∀ (fn : Fn) (first cap : Array Value) (w : World), (Instr.makeFunc fn first cap).run Tryz.prog w = .ok (.func fn first cap) w := fun _ _ _ _ => rfl
 have C1 := Lib.hid (fun (t : Addr) (old : Value) (W : World) (hW : Below w.heap.size w W) h1 h2 => As_FE s e t old W (hg.on hW) h1 h2)
 have C2 := Lib.hid (fun (n : Int) (W : World) (hW : Below w.heap.size w W) => branch_F s e n W (hg.on hW))
 have C3 := Lib.hid (fun (t : Addr) (W : World) (hW : Below w.heap.size w W) => As_EF e t W (hg.on hW))
 have C4 := Lib.hid (fun (tb : Nat) (o0 o1 : Value) (W : World) (hW : Below w.heap.size w W) h1 => As_FF s e tb o0 o1 W (hg.on hW) h1)
 have HB := Lib.hid (qo4_ w)
 clear hg
 go_enter_defers Tryz.func8, Tryz.ntmps8
 go_wp2_with fail
 refine (C1.out ⟨w.heap.size, 0, none⟩ (.int .i64 0) _ HB.out.bel HB.out.cells.1 HB.out.cells.2.2.1).mono ?_
 rintro ev w1 ⟨rfl, W, hb, rfl⟩
 have HB1 := Lib.hid ((HB.out.on hb).set e)
 clear hb
 generalize W.setCell ⟨w.heap.size, 0, none⟩ (.int .i64 e) = W1 at *
 obtain ⟨c0, c1, f0, f1⟩ := HB1.out.cells
 have hl0 : w.heap.size < W1.heap.size := by have := HB1.out.size; omega
 have hl1 : w.heap.size + 1 < W1.heap.size := by have := HB1.out.size; omega
 have hn0 : ¬ w.heap.size = W1.heap.size := by omega
 have hn1 : ¬ w.heap.size + 1 = W1.heap.size := by omega
 have HN := Lib.hid (heap_alloc_new W1 (.cells #[.string ⟨#[]⟩, .nilIface] 64))
 have HAL := Lib.hid ((Below.refl _ W1).alloc (Nat.le_refl _) (.cells #[.string ⟨#[]⟩, .nilIface] 64))
 go_wp2_with fail
 clear hl0 hl1 hn0 hn1
 refine (C2.out e (W1.alloc (.cells #[.string ⟨#[]⟩, .nilIface] 64)) (HB1.out.on HAL.out).bel).mono ?_
 rintro ev w2 ⟨rfl, hb⟩
 have HB2 := Lib.hid ((HB1.out.on HAL.out).on hb)
 obtain ⟨fb, hfb⟩ : ∃ fb, W1.heap.size = fb := ⟨_, rfl⟩
 have HF2 : Hid (w2.heap[fb]? = some (.cells #[.string ⟨#[]⟩, .nilIface] 64 (0, 0)) /\ w.heap.size + 2 <= fb) := Lib.hid ⟨by rw [<- hfb]; exact (hb.block _ (by simp)).trans HN.out, by rw [<- hfb]; exact HB1.out.size⟩
 rw [hfb]
 clear hb c0 c1 f0 f1 hfb HN HAL HB1
 obtain ⟨c0, c1, f0, f1⟩ := HB2.out.cells
 go_wp2_with fail
 refine wp_loop_rounds 2 ?_
 rw [rounds_succ]
 go_wp2_with fail
 refine (C4.out fb _ _ _ HB2.out.bel HF2.out.1).mono ?_
 rintro ev w3 ⟨rfl, h1, h2, h3, h4⟩
 have HB3 : Hid (CBox w e (.slice none 0 0) w3) := Lib.hid ⟨(h2 _ (by have := HB2.out.size; omega) (by have := HF2.out.2; omega)).trans HB2.out.num, (h2 _ (by have := HB2.out.size; omega) (by have := HF2.out.2; omega)).trans HB2.out.row, HB2.out.bel.trans (h4.mono (by have := HF2.out.2; omega)), Nat.le_trans HB2.out.size h3⟩
 have HF3 := Lib.hid h1
 clear h1 h2 h3 h4 c0 c1 f0 f1
 obtain ⟨c0, c1, f0, f1⟩ := HB3.out.cells
 obtain ⟨d0, d1⟩ := qaa_ HF3.out
 obtain ⟨i0, hi, hz, hs1, hby⟩ := qaw_ qnk_
 obtain ⟨A', c', w5, r5, o5, b5⟩ := app_lit Tryz.underlying37 hi hz hs1 hby rfl (w := w3) (B := w3.heap.size) (v := .slice none 0 0) (n := 0) (xs := []) (World.ownsRow_nil _ _ _ _) (.string s) rfl (by omega) (by omega) (Nat.le_refl _) 37
 have HR5 := Lib.hid r5
 have HF5 : Hid (w5.heap[fb]? = some (.cells #[.string s, .iface 32 (.int .i64 e)] 64 (0, 0))) := Lib.hid ((b5.block _ (Array.getElem?_eq_some_iff.1 HF3.out).1).trans HF3.out)
 have HB5 := Lib.hid (HB3.out.on b5)
 clear r5 o5 b5 hi hz hs1 hby
 obtain ⟨g0, g1, j0, j1⟩ := HB5.out.cells
 obtain ⟨k0, k1⟩ := qaa_ HF5.out
 have hfw : ¬ fb = w.heap.size + 1 := by have := HF2.out.2; omega
 go_wp2_with (first | (at_builtin; refine Lib.wpList_append_run_sl _ rfl _ _ _ rfl _ _ rfl rfl HR5.out ?_))
 have HB6 := Lib.hid (HB5.out.put (.slice A' (0 + 1) c'))
 clear c0 c1 f0 f1 d0 d1 g0 g1 j0 j1 k0 k1 hfw
 generalize w5.setCell ⟨w.heap.size + 1, 0, none⟩ (.slice A' (0 + 1) c') = W6 at *
 obtain ⟨c0, c1, f0, f1⟩ := HB6.out.cells
 rw [rounds_succ]
 go_wp2_with fail
 refine (C3.out _ _ HB6.out.bel).mono ?_
 rintro ev w7 ⟨rfl, hb⟩
 have HB7 := Lib.hid (HB6.out.on hb)
 clear hb c0 c1 f0 f1
 obtain ⟨c0, c1, f0, f1⟩ := HB7.out.cells
 go_wp2
 go_region
 have HB4 := Lib.hid (((HB7.out.set e).put (.slice A' (0 + 1) c')).drew)
 clear c0 c1 f0 f1
 generalize ((w7.setCell ⟨w.heap.size, 0, none⟩ (.int .i64 e)).setCell ⟨w.heap.size + 1, 0, none⟩ (.slice A' (0 + 1) c')).drew = W4 at *
 obtain ⟨c0, c1, f0, f1⟩ := HB4.out.cells
 go_wp2
 refine leaves_cons (f := 17) (args := #[.pointer (some ⟨w.heap.size, 0, none⟩), .pointer (some ⟨w.heap.size + 1, 0, none⟩)]) (by simp) (by simp [go_sem]) ?_
 refine (catch15 _ _ _).mono ?_
 rintro e2 u' w8 ⟨rfl, rfl, rfl⟩
 have HBE := HB4.out.bel
 simp [Leaves, settle, results, Tryz.results8, go_sem, c0, c1, CauseV]
 exact HBE
end
section
open Go.RowKit Go.ChangeShapes
theorem validOKL : qph_ EL := by
 intro t w hl hin hh
 by_cases hE : qb5_ t = 0
 ·refine (qnm_ wholeOK t w hin hE hh).mono fun e w' h => ?_
  obtain ⟨h1, h2, hb⟩ := h
  have hL := hl.on hb
  have hw : wantV t = (qan_ t.root).2 := by rw [wantV, if_neg (by rw [hE]; decide)]
  rw [hw]
  by_cases hr : (qan_ t.root).2 = 0
  ·rcases h2 with rfl | ⟨er, rfl⟩ | ⟨s, er, rfl⟩
   ·exact ⟨⟨_, rfl, fun W hW => (cause_nil W).mono fun e2 w2 h => ⟨by
     obtain ⟨A, m, c, h3⟩ := h.1
     exact ⟨0, A, m, c, h3, fun hne => absurd hr hne⟩, h.2⟩⟩, hb⟩
   ·exact ⟨⟨_, rfl, fun W hW => (qmw_ er W (hL.on hW)).mono fun e2 w2 h => ⟨⟨er, none, 0, 0, h.1, fun hne => absurd hr hne⟩, h.2⟩⟩, hb⟩
   ·exact ⟨⟨_, rfl, fun W hW => (cause_F s er W (hL.on hW)).mono fun e2 w2 h => ⟨by
     obtain ⟨A, m, c, h3⟩ := h.1
     exact ⟨er, A, m, c, h3, fun hne => absurd hr hne⟩, h.2⟩⟩, hb⟩
  ·have he := h1 hr
   subst he
   exact ⟨⟨_, rfl, fun W hW => (qmw_ _ W (hL.on hW)).mono fun e2 w2 h => ⟨⟨_, none, 0, 0, h.1, fun _ => ⟨rfl, rfl⟩⟩, h.2⟩⟩, hb⟩
 ·refine (qik_ t w hin _ rfl hE).mono fun e w' h => ?_
  obtain ⟨rfl, hb⟩ := h
  have hL := hl.on hb
  have hw : wantV t = qb5_ t := by rw [wantV, if_pos hE]
  rw [hw]
  exact ⟨⟨_, rfl, fun W hW => (qmw_ _ W (hL.on hW)).mono fun e2 w2 h => ⟨⟨_, none, 0, 0, h.1, fun _ => ⟨rfl, rfl⟩⟩, h.2⟩⟩, hb⟩
theorem err_row : (List.range Tryz.prog.types.size).all (fun ty => !Tryz.prog.rowNamed ty [101, 114, 114, 111, 114] || ty == 41) = true := by kernel_rfl
theorem el_of {W : World} {l : List (String × DataW Unit)} (h : laidMetH Tryz.prog l W) (hl : l = [("errors.errorType", Rows.laid_errors_errorType)]) : EL W := by
 subst hl
 have h2 : handlesMet Tryz.prog [("errors.errorType", Rows.laid_errors_errorType)] W := h.2
 have h3 := h2 _ (List.mem_cons_self ..)
 replace h3 : ∃ name u ty, (Rows.laid_errors_errorType (H := Unit)).handleName? = some name /\ (Tryz.prog.cutTypes.find? (·.1 == "internal/reflectlite.rtype")).map (·.2) = some u /\ ty < Tryz.prog.types.size /\ Tryz.prog.rowNamed ty name = true /\ W.var? Tryz.prog "errors.errorType" = some #[.iface u (.agg #[typeHandle Tryz.prog ty])] := h3
 obtain ⟨name, u, ty, hn, hu, hty, hr, hv⟩ := h3
 obtain rfl : [101, 114, 114, 111, 114] = name := Option.some.inj ((show (Rows.laid_errors_errorType (H := Unit)).handleName? = some [101, 114, 114, 111, 114] by kernel_rfl).symm.trans hn)
 obtain rfl : 136 = u := Option.some.inj ((show (Tryz.prog.cutTypes.find? (·.1 == "internal/reflectlite.rtype")).map (·.2) = some 136 by kernel_rfl).symm.trans hu)
 have h4 := List.all_eq_true.1 err_row ty (List.mem_range.2 hty)
 rw [hr] at h4
 obtain rfl : ty = 41 := by simpa using h4
 have hg : Tryz.prog.globalNamed "errors.errorType" = some 0 := by kernel_rfl
 have hc := World.var?_cell hg hv 0
 unfold EL
 rw [hc]
 rfl
end
end Go.Proofs.YtcfinbapfhhpgaaGreatDoor
