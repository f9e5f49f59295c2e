/-
  The nodes on the way to a place: the program's way.
-/
import Derived.Test.YtckdddbiffoolaaDoorQPath
import Derived.Test.YtckdddbiffoolaaDoorLPathBack
namespace Go.Proofs.YtckdddbiffoolaaDoor
open Go.RowKit
set_option linter.unusedVariables false
set_option linter.unusedSimpArgs false

/-- The nodes from n to the one at a place. -/
def nodesTo : Nd → List Nat → List Nd
  | n, [] => [n]
  | n, i :: r => match n.kids[i]? with
    | none => [n]
    | some k => n :: nodesTo k r
theorem nodesTo_next : ∀ (p : List Nat) {n x : Nd} {i : Nat}, nodeAt n p = some x → ∀ hi : i < x.kids.length, nodesTo n (p ++ [i]) = nodesTo n p ++ [x.kids[i]]
  | [], n, x, i, h, hi => by
    rw [nodeAt] at h
    obtain rfl := Option.some.inj h
    simp [nodesTo, List.getElem?_eq_getElem hi]
  | j :: p, n, x, i, h, hi => by
    obtain ⟨hj, e⟩ := nodeAt_some h
    rw [List.cons_append, nodesTo, nodesTo, List.getElem?_eq_getElem hj]
    show _ :: _ = _ :: _ ++ _
    rw [nodesTo_next p e hi]
    rfl
theorem nodesTo_length : ∀ (p : List Nat) {n x : Nd}, nodeAt n p = some x → (nodesTo n p).length = p.length + 1
  | [], n, x, _ => rfl
  | i :: p, n, x, h => by
    obtain ⟨hi, e⟩ := nodeAt_some h
    rw [nodesTo, List.getElem?_eq_getElem hi]
    show (_ :: _).length = _
    rw [List.length_cons, nodesTo_length p e, List.length_cons]
theorem nodesTo_names : ∀ (p : List Nat) {n x : Nd}, nodeAt n p = some x → (nodesTo n p).tail.map Nd.name = namesAt n p
  | [], n, x, _ => rfl
  | i :: p, n, x, h => by
    obtain ⟨hi, e⟩ := nodeAt_some h
    rw [nodesTo, List.getElem?_eq_getElem hi, namesAt_cons hi]
    show (nodesTo n.kids[i] p).map Nd.name = _
    have ih := nodesTo_names p e
    have hh : ∃ l, nodesTo n.kids[i] p = n.kids[i] :: l := by
      cases p with
      | nil => exact ⟨[], rfl⟩
      | cons j p =>
        obtain ⟨hj, e2⟩ := nodeAt_some e
        exact ⟨nodesTo n.kids[i].kids[j] p, by rw [nodesTo, List.getElem?_eq_getElem hj]⟩
    obtain ⟨l, hl⟩ := hh
    rw [hl] at ih ⊢
    rw [List.map_cons, ← ih]
    rfl
/-- One step of a place that is a node's. -/
theorem nodeAt_take {n y x : Nd} {p : List Nat} {k : Nat} (hy : nodeAt n p = some y) (hk : k < p.length) (hx : nodeAt n (p.take k) = some x) : ∃ h : p[k] < x.kids.length, nodeAt n (p.take (k + 1)) = some x.kids[p[k]] ∧ nodesTo n (p.take (k + 1)) = nodesTo n (p.take k) ++ [x.kids[p[k]]] := by
  have e : p = p.take k ++ (p[k] :: p.drop (k + 1)) := by rw [List.getElem_cons_drop, List.take_append_drop]
  have h := hy
  rw [e, nodeAt_append, hx] at h
  obtain ⟨hi, _⟩ := nodeAt_some h
  have e2 : p.take (k + 1) = p.take k ++ [p[k]] := by rw [List.take_add_one, List.getElem?_eq_getElem hk]; rfl
  exact ⟨hi, by rw [e2]; exact nodeAt_next hx hi, by rw [e2]; exact nodesTo_next _ hx hi⟩

/-- Nodes, cell by cell. -/
def flat3 (ns : List Nd) : List Value := ns.flatMap fun n => [.string n.name, n.pv, n.kv]
theorem flat3_length (ns : List Nd) : (flat3 ns).length = ns.length * 3 := by
  induction ns with
  | nil => rfl
  | cons x r ih =>
    have e : flat3 (x :: r) = [.string x.name, x.pv, x.kv] ++ flat3 r := by simp [flat3]
    rw [e, List.length_append, ih]; simp; omega
theorem flat3_app (ns : List Nd) (x : Nd) : flat3 (ns ++ [x]) = flat3 ns ++ [.string x.name, x.pv, x.kv] := by simp [flat3]
theorem flat3_at : ∀ (ns : List Nd) (i : Nat) (h : i < ns.length), (flat3 ns)[i * 3]? = some (.string ns[i].name) ∧ (flat3 ns)[i * 3 + 1]? = some ns[i].pv ∧ (flat3 ns)[i * 3 + 2]? = some ns[i].kv
  | x :: r, 0, _ => by simp [flat3]
  | x :: r, i + 1, h => by
    have e : flat3 (x :: r) = .string x.name :: x.pv :: x.kv :: flat3 r := by simp [flat3]
    have ih := flat3_at r i (by simpa using h)
    rw [e, show (i + 1) * 3 = i * 3 + 1 + 1 + 1 by omega]
    simpa using ih
/-- What a call has made shows its nodes. -/
theorem owned_nodes {w : World} {base n : Nat} {e : TypeId} {v : Value} {ns : List Nd} (h : w.ownsRow base e 3 v n (flat3 ns)) : ∃ A c, v = .slice A n c ∧ KRow w w.heap.size A ns ∧ ns.length = n ∧ n ≤ c ∧ c ≤ 9223372036854775807 ∧ (∀ b, v.ownBlock = some b → base ≤ b ∧ b < w.heap.size) := by
  obtain ⟨hl, ⟨rfl, rfl⟩ | ⟨g, cap, cur, rfl, hb, hg, hnc, hcm, hsz, htk⟩⟩ := h
  · rw [flat3_length] at hl
    obtain rfl : ns = [] := List.eq_nil_of_length_eq_zero (by omega)
    exact ⟨none, 0, rfl, fun h => absurd h (by simp), rfl, Nat.le_refl _, by omega, fun b h => by simp [Value.ownBlock] at h⟩
  · rw [flat3_length] at hl
    have hlz : ns.length = n := by omega
    have hlt := (Array.getElem?_eq_some_iff.1 hg).1
    have hcell : ∀ k, k < n * 3 → w.cell? ⟨g, k, none⟩ = (flat3 ns)[k]? := fun k hk => by
      have h1 : (flat3 ns)[k]? = cur[k]? := by
        rw [← htk, List.getElem?_take_of_lt hk, Array.getElem?_toList]
      rw [h1]
      simp [World.cell?, hg]
    refine ⟨_, cap, rfl, fun hn => ⟨g, 0, rfl, hlt, fun i hi => ?_⟩, hlz, hnc, hcm, fun b h => ?_⟩
    · obtain ⟨a1, a2, a3⟩ := flat3_at ns i hi
      rw [Nat.zero_add, hcell _ (by omega), hcell _ (by omega), hcell _ (by omega)]
      exact ⟨a1, a2, a3⟩
    · simp [Value.ownBlock] at h
      omega
theorem info_node : (Tryd.prog.info? 27).map (fun i => (i.zero, i.size, i.bytes)) = some (some (.agg #[.string ByteArray.empty, .slice none 0 0, .slice none 0 0]), 3, 64) := by kernel_rfl
/-- A row of one node. -/
theorem row_one (W : World) (B : Nat) (hB : B ≤ W.heap.size) (x : Nd) : (W.alloc (.cells #[.string x.name, x.pv, x.kv] 27)).ownsRow B 27 3 (.slice (some ⟨W.heap.size, 0, none⟩) 1 1) 1 (flat3 [x]) :=
  ⟨by simp [flat3], .inr ⟨W.heap.size, 1, _, rfl, hB, heap_alloc_new W _, Nat.le_refl _, by unfold maxLen; omega, rfl, by simp [flat3]⟩⟩
/-- append of one node, laid by the call itself. -/
theorem app_node {w : World} {B n : Nat} {v : Value} {ns : List Nd} (h : w.ownsRow B 27 3 v n (flat3 ns)) (x : Nd) (hn : n + 1 ≤ 1073741824) (hB : B ≤ w.heap.size) (ty : TypeId) :
    ∃ A' c' w', (Builtin.append_ #[25, 25] ty #[v, .slice (some ⟨w.heap.size, 0, none⟩) 1 1]).run Tryd.prog (w.alloc (.cells #[.string x.name, x.pv, x.kv] 27)) = .ok (.slice A' (n + 1) c') w' ∧ w'.ownsRow B 27 3 (.slice A' (n + 1) c') (n + 1) (flat3 (ns ++ [x])) ∧ Below B w w' ∧ w.grownBy w' v.ownBlock ∧ ((Value.slice A' (n + 1) c').ownBlock = v.ownBlock ∨ (Value.slice A' (n + 1) c').ownBlock = some (w.heap.size + 1)) := by
  obtain ⟨i0, hi, hz, hs1, hby⟩ := info_any info_node
  have h1 : (w.alloc (.cells #[.string x.name, x.pv, x.kv] 27)).ownsRow B 27 3 v n (flat3 ns) := h.alloc _
  have hb1 := (Below.refl B w).alloc hB (.cells #[.string x.name, x.pv, x.kv] 27)
  obtain ⟨v', w', r1, r2, r3, _, r5⟩ := run_append_own_at (P := Tryd.prog) (w.alloc (.cells #[.string x.name, x.pv, x.kv] 27)) B 25 ty 27 i0 _ 3 64 Tryd.underlying25 hi hz hs1 hby rfl (by omega) v _ (flat3 ns) h1 ⟨w.heap.size, 0, none⟩ 1 1 [.string x.name, x.pv, x.kv] rfl
    (fun j u hu => by
      rw [addr_add, Nat.zero_add, World.cell?_alloc_new]
      rcases j with _ | _ | _ | j
      · simpa using hu
      · simpa using hu
      · simpa using hu
      · simp at hu)
    (fun u hu => by
      simp only [List.mem_cons, List.not_mem_nil, or_false] at hu
      rcases hu with rfl | rfl | rfl <;> rfl) (by unfold maxLen; omega) (by omega) (by simp; omega)
  have r2' : w'.ownsRow B 27 3 v' (n + 1) (flat3 (ns ++ [x])) := by rw [flat3_app]; exact r2
  obtain ⟨A', c', rfl, _⟩ := owned_nodes r2'
  refine ⟨A', c', w', r1, r2', hb1.grown r3 (by simp; omega) (fun q hq => (h1.lt q hq).1), ?_, by simpa using r5⟩
  have hg0 := World.grownBy_alloc w (.cells #[.string x.name, x.pv, x.kv] 27) v.ownBlock
  exact ⟨r3.os.trans hg0.os, r3.tape.trans hg0.tape, r3.output.trans hg0.output, Nat.le_trans hg0.size r3.size, fun k hk hne => (r3.block k (Nat.lt_of_lt_of_le hk hg0.size) hne).trans (hg0.block k hk hne)⟩

set_option maxRecDepth 20000 in
set_option maxHeartbeats 4000000 in
theorem way_any (t : Tr) (p : List Nat) (A : Option Addr) (n c : Nat) (y : Nd) (w : World) (hin : t.In w w.heap.size) (hy : nodeAt t.root p = some y) (hpl : p.length = n) (hn : n ≤ 16) (hp : Cel w w.heap.size A n (ints p)) (hnc : n ≤ c) (hc : c ≤ 9223372036854775807) :
    Calls Tryd.prog 15 #[t.val, .slice A n c] w fun e w' => (∃ v, e = .returned (.tuple #[v, .int .i64 0]) ∧ w'.ownsRow w.heap.size 27 3 v (n + 1) (flat3 (nodesTo t.root p))) ∧ Below w.heap.size w w' := by
  have HI := Lib.hid hin.root
  have HY := Lib.hid hy
  have HPL := Lib.hid hpl
  have HP := Lib.hid hp
  clear hin hy hpl hp
  obtain ⟨boot, ra, rc, rs, ⟨nm, pa, pc, ps, ka, kc, ks⟩⟩ := t
  replace HI : Hid ((Nd.mk nm pa pc ps ka kc ks).In w w.heap.size) := HI
  replace HY : Hid (nodeAt (Nd.mk nm pa pc ps ka kc ks) p = some y) := HY
  have n1 : ¬ ((n : Int) > 16) := by omega
  show Calls _ _ #[.agg #[.int .u32 boot, .slice ra rs.length rc, .string nm, .slice pa ps.length pc, .slice ka ks.length kc], .slice A n c] w (fun e w' => (∃ v, e = .returned (.tuple #[v, .int .i64 0]) ∧ w'.ownsRow w.heap.size 27 3 v (n + 1) (flat3 (nodesTo (Nd.mk nm pa pc ps ka kc ks) p))) ∧ Below w.heap.size w w')
  obtain ⟨R, hR⟩ : ∃ R, Nd.mk nm pa pc ps ka kc ks = R := ⟨_, rfl⟩
  have HRE := Lib.hid hR
  rw [hR] at HI HY ⊢
  clear hR
  obtain ⟨b0, b1, b2, b3, b4⟩ := box6_cells w (.int .u32 boot) (.slice ra rs.length rc) (.string nm) (.slice pa ps.length pc) (.slice ka ks.length kc) _ (Below.refl _ _)
  go_enter Tryd.func15, Tryd.ntmps15
  go_wp2_with fail
  clear b0 b1 b2 b3 b4
  have HB0 : Hid (Below w.heap.size w (((w.alloc (.cells #[.int .u32 boot, .slice ra rs.length rc, .string nm, .slice pa ps.length pc, .slice ka ks.length kc] 29)).alloc (.cells #[.string nm, .slice pa ps.length pc, .slice ka ks.length kc] 27)).alloc (.cells #[.string nm, .slice pa ps.length pc, .slice ka ks.length kc] 27))) := Lib.hid ((((Below.refl w.heap.size w).alloc (Nat.le_refl _) _).alloc (by simp) _).alloc (by simp; omega) _)
  go_loopw [7, 19] (fun l i wr => ∃ (k : Nat) (x : Nd), k ≤ n ∧ i = .int .i64 k ∧ nodeAt R (p.take k) = some x ∧ wr.heap[w.heap.size + 1]? = some (.cells #[.string x.name, x.pv, x.kv] 27 (0, 0)) ∧ wr.ownsRow (w.heap.size + 2) 27 3 l (k + 1) (flat3 (nodesTo R (p.take k))) ∧ Below w.heap.size w wr) (fun _ i _ => n - (intOf i).toNat)
  case atStart =>
    rw [← HRE.out] at *
    refine ⟨0, Nd.mk nm pa pc ps ka kc ks, Nat.zero_le _, rfl, rfl, ?_, ?_, HB0.out⟩
    · rw [Below.heap_alloc _ _ _ (by simp)]
      have e0 : (w.alloc (.cells #[.int .u32 boot, .slice ra rs.length rc, .string nm, .slice pa ps.length pc, .slice ka ks.length kc] 29)).heap.size = w.heap.size + 1 := by simp
      rw [← e0]
      exact heap_alloc_new (w.alloc (.cells #[.int .u32 boot, .slice ra rs.length rc, .string nm, .slice pa ps.length pc, .slice ka ks.length kc] 29)) _
    · have e := row_one ((w.alloc (.cells #[.int .u32 boot, .slice ra rs.length rc, .string nm, .slice pa ps.length pc, .slice ka ks.length kc] 29)).alloc (.cells #[.string nm, .slice pa ps.length pc, .slice ka ks.length kc] 27)) (w.heap.size + 2) (by simp) (Nd.mk nm pa pc ps ka kc ks)
      have e0 : ((w.alloc (.cells #[.int .u32 boot, .slice ra rs.length rc, .string nm, .slice pa ps.length pc, .slice ka ks.length kc] 29)).alloc (.cells #[.string nm, .slice pa ps.length pc, .slice ka ks.length kc] 27)).heap.size = w.heap.size + 1 + 1 := by simp
      rw [e0] at e
      exact e
  case round =>
    obtain ⟨k, x, hk, rfl, hx, hbk, hown, hb⟩ := hrel
    have HX := Lib.hid hx
    have HBK := Lib.hid hbk
    have HO := Lib.hid hown
    have HB := Lib.hid hb
    by_cases hlt : k < n
    · obtain ⟨pb, po, rfl, _, hcell⟩ := (HP.out.below hb).2 (by omega)
      have ck := hcell k hlt
      have hkp : k < p.length := by rw [HPL.out]; exact hlt
      rw [List.getElem?_map, List.getElem?_eq_getElem hkp] at ck
      obtain ⟨hq, hx2, hns⟩ := nodeAt_take HY.out hkp hx
      obtain ⟨kb, ko, ek, _, d0, d1, d2⟩ := ((nodeAt_in _ HI.out hx).under hb).kcell hq
      replace ck : wr.cell? ⟨pb, po + k, none⟩ = some (.int .i64 (p[k] : Int)) := ck
      have HX2 := Lib.hid hx2
      have HNS := Lib.hid hns
      generalize p[k] = q at *
      replace d0 : wr.cell? ⟨kb, ko + q * 3, none⟩ = some (.string x.kids[q].name) := d0
      obtain ⟨z, hz⟩ : ∃ z, x.kids[q] = z := ⟨_, rfl⟩
      rw [hz] at HX2 HNS d0 d1 d2
      have hkm := ((nodeAt_in _ HI.out hx).under hb).klen
      have hkl := ((nodeAt_in _ HI.out hx).under hb).name_le.2.2
      clear hx2 hns hx hcell hown hb hz
      obtain ⟨xn, xpa, xpc, xps, xka, xkc, xks⟩ := x
      obtain ⟨zn, zpa, zpc, zps, zka, zkc, zks⟩ := z
      obtain rfl : xka = _ := ek
      replace hq : q < xks.length := hq
      replace hkm : xks.length ≤ xkc ∧ xkc ≤ 9223372036854775807 := hkm
      replace hkl : xks.length * 64 ≤ 140737488351232 := hkl
      replace d0 : wr.cell? ⟨kb, ko + q * 3, none⟩ = some (.string zn) := d0
      replace d1 : wr.cell? ⟨kb, ko + q * 3 + 1, none⟩ = some (.slice zpa zps.length zpc) := d1
      replace d2 : wr.cell? ⟨kb, ko + q * 3 + 2, none⟩ = some (.slice zka zks.length zkc) := d2
      replace hbk : wr.heap[w.heap.size + 1]? = some (.cells #[.string xn, .slice xpa xps.length xpc, .slice (some ⟨kb, ko, none⟩) xks.length xkc] 27 (0, 0)) := hbk
      have c0 : wr.cell? ⟨w.heap.size + 1, 0, none⟩ = some (.string xn) := by rw [Lib.cell_of_heap hbk]; rfl
      have c1 : wr.cell? ⟨w.heap.size + 1, 1, none⟩ = some (.slice xpa xps.length xpc) := by rw [Lib.cell_of_heap hbk]; rfl
      have c2 : wr.cell? ⟨w.heap.size + 1, 2, none⟩ = some (.slice (some ⟨kb, ko, none⟩) xks.length xkc) := by rw [Lib.cell_of_heap hbk]; rfl
      have f0 := Lib.frozen_of_heap hbk 0
      have f1 := Lib.frozen_of_heap hbk 1
      have f2 := Lib.frozen_of_heap hbk 2
      have q1 : ¬ ((q : Int) < 0) := by omega
      have q2 : decide ((q : Int) < 0) = false := decide_eq_false q1
      have q3 : decide ((q : Int) ≥ (xks.length : Int)) = false := decide_eq_false (by omega)
      have q4 : ¬ ((q : Int) ≥ (xks.length : Int)) := by omega
      obtain ⟨A7, c7, rfl, _, _, _, _, _⟩ := owned_nodes HO.out
      have hws : (((wr.setCell ⟨w.heap.size + 1, 0, none⟩ (.string zn)).setCell ⟨w.heap.size + 1, 1, none⟩ (.slice zpa zps.length zpc)).setCell ⟨w.heap.size + 1, 2, none⟩ (.slice zka zks.length zkc)).heap.size = wr.heap.size := by simp
      have hbw : Below w.heap.size w (((wr.setCell ⟨w.heap.size + 1, 0, none⟩ (.string zn)).setCell ⟨w.heap.size + 1, 1, none⟩ (.slice zpa zps.length zpc)).setCell ⟨w.heap.size + 1, 2, none⟩ (.slice zka zks.length zkc)) := ((HB.out.setCell (p := ⟨w.heap.size + 1, 0, none⟩) (Nat.le_succ _) _).setCell (p := ⟨w.heap.size + 1, 1, none⟩) (Nat.le_succ _) _).setCell (p := ⟨w.heap.size + 1, 2, none⟩) (Nat.le_succ _) _
      have hblt : w.heap.size + 1 < wr.heap.size := (Array.getElem?_eq_some_iff.1 HBK.out).1
      have RUN : Hid (∃ A' c' w', (Builtin.append_ #[25, 25] 25 #[.slice A7 (k + 1) c7, .slice (some ⟨wr.heap.size, 0, none⟩) 1 1]).run Tryd.prog ((((wr.setCell ⟨w.heap.size + 1, 0, none⟩ (.string zn)).setCell ⟨w.heap.size + 1, 1, none⟩ (.slice zpa zps.length zpc)).setCell ⟨w.heap.size + 1, 2, none⟩ (.slice zka zks.length zkc)).alloc (.cells #[.string zn, .slice zpa zps.length zpc, .slice zka zks.length zkc] 27)) = .ok (.slice A' (k + 1 + 1) c') w' ∧ w'.ownsRow (w.heap.size + 2) 27 3 (.slice A' (k + 1 + 1) c') (k + 1 + 1) (flat3 (nodesTo R (p.take (k + 1)))) ∧ Below w.heap.size w w' ∧ w'.heap[w.heap.size + 1]? = some (.cells #[.string zn, .slice zpa zps.length zpc, .slice zka zks.length zkc] 27 (0, 0))) := by
        have ho := ownsRow_setCell_below (ownsRow_setCell_below (ownsRow_setCell_below HO.out (a := ⟨w.heap.size + 1, 0, none⟩) (Nat.lt_succ_self _) (.string zn)) (a := ⟨w.heap.size + 1, 1, none⟩) (Nat.lt_succ_self _) (.slice zpa zps.length zpc)) (a := ⟨w.heap.size + 1, 2, none⟩) (Nat.lt_succ_self _) (.slice zka zks.length zkc)
        obtain ⟨A', c', w', r, h1, h2, h3, _⟩ := app_node ho (Nd.mk zn zpa zpc zps zka zkc zks) (by omega) (by rw [hws]; omega) 25
        rw [hws] at r
        rw [← HNS.out] at h1
        refine Lib.hid ⟨A', c', w', r, h1, hbw.trans (h2.mono (by omega)), ?_⟩
        rw [h3.block _ (by rw [hws]; exact hblt) (fun e => by have := (ho.lt _ e.symm).1; omega)]
        simp [World.setCell, Array.getElem?_modify, HBK.out]
      obtain ⟨A8, c8, w8, r8, o8, b8, k8⟩ := RUN.out
      have HO8 := Lib.hid o8
      have HB8 := Lib.hid b8
      have HK8 := Lib.hid k8
      have HD2 := Lib.hid (show nodeAt R (p.take (k + 1)) = some (Nd.mk zn zpa zpc zps zka zkc zks) from HX2.out)
      clear RUN o8 b8 k8 hws hbw hblt
      replace HK8 : Hid (w8.heap[w.heap.size + 1]? = some (.cells #[.string (Nd.mk zn zpa zpc zps zka zkc zks).name, (Nd.mk zn zpa zpc zps zka zkc zks).pv, (Nd.mk zn zpa zpc zps zka zkc zks).kv] 27 (0, 0))) := HK8
      generalize hZ : Nd.mk zn zpa zpc zps zka zkc zks = Z at HK8 HD2
      clear hZ HX2 HNS HBK HO HX
      generalize xks.length = xkl at *
      generalize zks.length = zkl at *
      generalize zps.length = zpl at *
      generalize xps.length = xpl at *
      clear hbk hkp
      go_wp2_with (at_builtin; refine Lib.wpList_append_run_sl _ rfl _ _ _ rfl _ _ rfl rfl r8 ?_)
      go_roundw
      case rel => exact ⟨k + 1, Z, by omega, by go_num, HD2.out, HK8.out, HO8.out, HB8.out⟩
      case measure => simp [intOf]; omega
    · obtain rfl : k = n := by omega
      have HT : Hid (p.take k = p) := Lib.hid (List.take_of_length_le (by rw [HPL.out]; exact Nat.le_refl _))
      rw [HT.out] at hown
      have HO2 := Lib.hid (own_base hown (b' := w.heap.size) (by omega))
      clear hown hb hbk hx
      go_wp2
      go_ret2
      exact ⟨⟨_, rfl, HO2.out⟩, HB.out⟩
end Go.Proofs.YtckdddbiffoolaaDoor
