/-
  Layer 8: the program's nodes: the iterator over all nodes of a tree has its contract.
-/
import Derived.Test.YtapfcbcojnplaaaRWalk
import Derived.Test.YtapfcbcojnplaaaBase3
import Derived.Laws.EntriesVeiled
namespace Go.Proofs.Ytapfcbcojnplaaa
open Go.RowKit
set_option linter.unusedVariables false
set_option linter.unusedSimpArgs false
attribute [local go_sem] Oper.semAt_some

/-- A tree's box. -/
def tbox (t : Tr) : Obj := .cells #[.int .u32 t.boot, t.rv, .string t.root.name, t.root.pv, t.root.kv] 29
set_option maxRecDepth 20000 in
set_option maxHeartbeats 2000000 in
theorem nodes_any (t : Tr) (w : World) : Calls Try.prog 48 #[t.val] w fun e w' => e = .returned (.func (.func 51) #[] #[.pointer (some ⟨w.heap.size, 0, none⟩)]) ∧ w' = w.alloc (tbox t) := by
  obtain ⟨boot, ra, rc, rs, ⟨nm, pa, pc, ps, ka, kc, ks⟩⟩ := t
  simp only [tbox, Tr.val, Tr.rv, Nd.val, Nd.pv, Nd.kv, Nd.name, Nd.pa, Nd.pc, Nd.props, Nd.ka, Nd.kc, Nd.kids]
  refine (callsIn_wide (n := 0)).1 ?_
  refine callsIn_of_wp Try.func48 rfl trivial ?_ rfl
  simp only [Try.ntmps48, List.size_toArray, List.length_cons, List.length_nil, Nat.reduceAdd, Nat.reduceSub, Array.replicate_succ, Array.replicate_zero, List.push_toArray, List.append_toArray, List.nil_append, List.cons_append]
  gi_wp2
  go_ret
  exact ⟨rfl, rfl⟩

set_option maxRecDepth 20000 in
set_option maxHeartbeats 4000000 in
theorem nodes_walks (t : Tr) (n k : Nat) (w : World) (hin : t.In w n) (hn : n ≤ w.heap.size) (hk : w.heap[k]? = some (tbox t)) (hh : heftN t.root ≤ 134217728) :
    Walks Try.prog 51 #[.pointer (some ⟨k, 0, none⟩)] n (EncN t.root n) (placesN t.root []) w := by
  intro l J Jx W hW hJ hJx hY h0
  have hkw : W.heap[k]? = some (tbox t) := (hW.block k (Array.getElem?_eq_some_iff.1 hk).1).trans hk
  obtain ⟨W1, hW1⟩ : ∃ W1, W1 = W.alloc (.cells #[.slice none 0 0, .func (.yield l) #[] #[]] 116) := ⟨_, rfl⟩
  have hs1 : W1.heap.size = W.heap.size + 1 := by rw [hW1]; simp
  have hal : Below W.heap.size W W1 := by rw [hW1]; exact (Below.refl _ W).alloc (Nat.le_refl _) _
  have ht : Turn (fun _ => False) (fun j => False ∨ j = W.heap.size) W W1 := Turn.own hal _ (by omega)
  have hu : Ups W.heap.size (fun j => False ∨ j = W.heap.size) W1 := ht.ups (fun k h => h.elim) (Nat.le_refl _)
  have hnW : n ≤ W.heap.size := Nat.le_trans hn hW.size
  have hin1 : t.root.In W1 n := hin.root.under ((hW.mono hn).trans (hal.mono hnW))
  have hp : PAt W.heap.size (fun j => False ∨ j = W.heap.size) W1 W.heap.size l [] := ⟨.slice none 0 0, by rw [hW1]; exact heap_alloc_new _ _, .inr rfl, World.ownsRow_nil _ _ _ _, fun k hk => by simp [Value.ownBlock] at hk⟩
  have hf := from_any t.root l n W.heap.size hnW J Jx hJ hJx W (fun T pre x args W1 a b c d e f => hY T pre x args W1 a b c d e f) t.root [] _ [] W1 W.heap.size rfl hin1 (hJ _ _ _ _ _ h0 (Nat.le_refl _) (fun k h => h.elim) ht) hu (by omega) (hal.mono hnW) hp (by simp) (by simp; omega)
  have HF := Lib.hid hf
  have HSZ := Lib.hid hs1
  rw [hW1] at HF
  clear hf hs1 hW1 hal ht hu hin1 hp hY h0 hJ hJx hin hk hW hn hnW hh
  obtain ⟨boot, ra, rc, rs, ⟨nm, pa, pc, ps, ka, kc, ks⟩⟩ := t
  simp only [tbox, Tr.val, Tr.rv, Nd.val, Nd.pv, Nd.kv, Nd.name, Nd.pa, Nd.pc, Nd.props, Nd.ka, Nd.kc, Nd.kids] at HF hkw
  have d0 := Lib.cell?_alloc_some (.cells #[.slice none 0 0, .func (.yield l) #[] #[]] 116) ((Lib.cell_of_heap hkw 2).trans rfl)
  have d1 := Lib.cell?_alloc_some (.cells #[.slice none 0 0, .func (.yield l) #[] #[]] 116) ((Lib.cell_of_heap hkw 3).trans rfl)
  have d2 := Lib.cell?_alloc_some (.cells #[.slice none 0 0, .func (.yield l) #[] #[]] 116) ((Lib.cell_of_heap hkw 4).trans rfl)
  clear hkw
  refine (callsIn_wide (n := 0)).1 ?_
  refine callsIn_of_wp Try.func51 rfl trivial ?_ rfl
  simp only [Try.ntmps51, List.size_toArray, List.length_cons, List.length_nil, Nat.reduceAdd, Nat.reduceSub, Array.replicate_succ, Array.replicate_zero, List.push_toArray, List.append_toArray, List.nil_append, List.cons_append]
  gi_wp2_with (refine ⟨trivial, rfl, (callsIn_wide.2 HF.out).mono ?_⟩; rintro e W4 ⟨T4, hu4, hs4, (⟨rfl, hj4, _, _⟩ | ⟨rfl, q4, hq4, hx4⟩)⟩)
  · go_end0
    refine ⟨⟨_, rfl⟩, T4, hu4, ?_, .inl (by simpa using hj4)⟩
    have := HSZ.out
    simp at hs4
    omega
  · go_end0
    refine ⟨⟨_, rfl⟩, T4, hu4, ?_, .inr ⟨q4, by simpa using hq4, by simpa using hx4⟩⟩
    have := HSZ.out
    simp at hs4
    omega
end Go.Proofs.Ytapfcbcojnplaaa
