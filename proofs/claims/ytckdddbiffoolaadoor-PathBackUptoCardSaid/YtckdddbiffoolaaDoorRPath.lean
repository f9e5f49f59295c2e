/-
  The program's Path: the path of a place.
-/
import Derived.Test.YtckdddbiffoolaaDoorRAwake
import Derived.Test.YtckdddbiffoolaaDoorRBuild
namespace Go.Proofs.YtckdddbiffoolaaDoor
open Go.RowKit
set_option linter.unusedVariables false
set_option linter.unusedSimpArgs false

/-- A path is no longer than its tree is heavy. -/
theorem path_heft : ∀ (p : List Nat) {n y : Nd}, nodeAt n p = some y → (pathB (namesAt n p)).length ≤ heftL n.kids
  | [], n, y, _ => Nat.zero_le _
  | i :: p, n, y, h => by
    obtain ⟨hi, e⟩ := nodeAt_some h
    have h1 := path_heft p e
    have h2 := heftL_next n.kids i hi
    have h3 := heftL_take n.kids (i + 1)
    have h4 : heftN n.kids[i] = 16 + n.kids[i].name.size + (n.kids[i].props.map heftP).sum + heftL n.kids[i].kids := by cases n.kids[i]; rw [heftN]; rfl
    rw [namesAt_cons hi]
    have e5 : (pathB (n.kids[i].name :: namesAt n.kids[i] p)).length = 1 + n.kids[i].name.size + (pathB (namesAt n.kids[i] p)).length := by
      simp only [pathB, List.flatMap_cons, List.length_append, List.length_cons]
      show n.kids[i].name.size + 1 + _ = _
      omega
    omega
theorem pathB_take (l : List ByteArray) (j : Nat) : (pathB (l.take j)).length ≤ (pathB l).length := by
  conv => rhs; rw [← List.take_append_drop j l, pathB_append, List.length_append]
  omega
theorem pathB_next (l : List ByteArray) (j : Nat) (h : j < l.length) : pathB (l.take (j + 1)) = pathB (l.take j) ++ 47 :: l[j].data.toList := by
  rw [List.take_add_one, List.getElem?_eq_getElem h, pathB_append]
  simp [pathB]
theorem cells_next (l : List ByteArray) (j : Nat) (h : j < l.length) : Lib.byteCells (pathB (l.take (j + 1))) = (Lib.byteCells (pathB (l.take j)) ++ Lib.strCells ⟨#[47]⟩) ++ Lib.strCells l[j] := by
  rw [pathB_next l j h, Lib.strCells_eq, Lib.strCells_eq]
  simp [Lib.byteCells]
theorem bld_new (W : World) : Bld W.heap.size W.heap.size [] (W.alloc (.cells #[.pointer none, .slice none 0 0] 55)) :=
  .inl ⟨Nat.le_refl _, _, heap_alloc_new W _, ⟨rfl, .inl ⟨rfl, rfl⟩⟩, by simp [Value.ownBlock]⟩

set_option maxRecDepth 20000 in
set_option maxHeartbeats 4000000 in
theorem path_any (t : Tr) (p : List Nat) (A : Option Addr) (n c : Nat) (y : Nd) (w : World) (hin : t.In w w.heap.size) (hy : nodeAt t.root p = some y) (hpl : p.length = n) (hn0 : 0 < n) (hn : n ≤ 16) (hh : heftN t.root ≤ 134217728) (hp : Cel w w.heap.size A n (ints p)) (hnc : n ≤ c) (hc : c ≤ 9223372036854775807) :
    Calls Tryd.prog 8 #[t.val, .slice A n c] w fun e w' => e = .returned (.tuple #[.string ⟨(pathB (namesAt t.root p)).toArray⟩, .int .i64 0]) ∧ Below w.heap.size w w' := by
  have hlen := nodesTo_length p hy
  have hnm := nodesTo_names p hy
  have hpath : (pathB (namesAt t.root p)).length ≤ 134217728 := by
    have h1 := path_heft p hy
    have h2 : heftN t.root = 16 + t.root.name.size + (t.root.props.map heftP).sum + heftL t.root.kids := by cases t.root; rw [heftN]; rfl
    omega
  have hnl : (namesAt t.root p).length = n := by rw [namesAt_length p hy, hpl]
  have HC := Lib.hid (fun (W : World) (hW : Below w.heap.size w W) => (way_any t p A n c y W ((hin.under hW).more hW.size) hy hpl hn ((hp.below hW).more hW.size) hnc hc).mono fun e w' h => show (∃ b o c, e = .returned (.tuple #[.slice (some ⟨b, o, none⟩) (n + 1) c, .int .i64 0]) ∧ n + 1 ≤ c ∧ c ≤ 9223372036854775807 ∧ b < w'.heap.size ∧ ∀ j (hj : j < (namesAt t.root p).length), ∃ z : Nd, z.name = (namesAt t.root p)[j] ∧ w'.cell? ⟨b, o + 3 + j * 3, none⟩ = some (.string z.name) ∧ w'.cell? ⟨b, o + 3 + j * 3 + 1, none⟩ = some z.pv ∧ w'.cell? ⟨b, o + 3 + j * 3 + 2, none⟩ = some z.kv) ∧ Below W.heap.size W w' from ⟨by
    obtain ⟨⟨v, rfl, ho⟩, _⟩ := h
    obtain ⟨A', c', rfl, hk, hl, hc1, hc2, _⟩ := owned_nodes ho
    obtain ⟨b, o, rfl, hb, hcell⟩ := hk (by omega)
    refine ⟨b, o, c', rfl, hc1, hc2, hb, fun j hj => ?_⟩
    have hj1 : j + 1 < (nodesTo t.root p).length := by omega
    obtain ⟨a0, a1, a2⟩ := hcell (j + 1) hj1
    refine ⟨(nodesTo t.root p)[j + 1], ?_, ?_, ?_, ?_⟩
    · have e : (namesAt t.root p)[j]? = some (nodesTo t.root p)[j + 1].name := by
        rw [← hnm, List.getElem?_map, List.getElem?_tail, List.getElem?_eq_getElem hj1]
        rfl
      rw [List.getElem?_eq_getElem hj] at e
      exact (Option.some.inj e).symm
    · rw [show o + 3 + j * 3 = o + (j + 1) * 3 by omega]; exact a0
    · rw [show o + 3 + j * 3 = o + (j + 1) * 3 by omega]; exact a1
    · rw [show o + 3 + j * 3 = o + (j + 1) * 3 by omega]; exact a2, h.2⟩)
  generalize namesAt t.root p = L at *
  have HL := Lib.hid hnl
  have HPA := Lib.hid hpath
  clear hin hy hpl hh hp hlen hnm hpath hnl
  obtain ⟨boot, ra, rc, rs, ⟨nm, pa, pc, ps, ka, kc, ks⟩⟩ := t
  replace HC : Hid (∀ (W : World) (hW : Below w.heap.size w W), Calls Tryd.prog 15 #[.agg #[.int .u32 boot, .slice ra rs.length rc, .string nm, .slice pa ps.length pc, .slice ka ks.length kc], .slice A n c] W fun e w' => (∃ b o c, e = .returned (.tuple #[.slice (some ⟨b, o, none⟩) (n + 1) c, .int .i64 0]) ∧ n + 1 ≤ c ∧ c ≤ 9223372036854775807 ∧ b < w'.heap.size ∧ ∀ j (hj : j < L.length), ∃ z : Nd, z.name = L[j] ∧ w'.cell? ⟨b, o + 3 + j * 3, none⟩ = some (.string z.name) ∧ w'.cell? ⟨b, o + 3 + j * 3 + 1, none⟩ = some z.pv ∧ w'.cell? ⟨b, o + 3 + j * 3 + 2, none⟩ = some z.kv) ∧ Below W.heap.size W w') := HC
  show Calls _ _ #[.agg #[.int .u32 boot, .slice ra rs.length rc, .string nm, .slice pa ps.length pc, .slice ka ks.length kc], .slice A n c] _ _
  have HB := Lib.hid ((Below.refl w.heap.size w).alloc (Nat.le_refl _) (.cells #[.int .u32 boot, .slice ra rs.length rc, .string nm, .slice pa ps.length pc, .slice ka ks.length kc] 29))
  obtain ⟨b0, b1, b2, b3, b4⟩ := box6_cells w (.int .u32 boot) (.slice ra rs.length rc) (.string nm) (.slice pa ps.length pc) (.slice ka ks.length kc) _ (Below.refl _ _)
  have n1 : ((n : Int) + 1 == 1) = false := by rw [beq_eq_false_iff_ne]; omega
  go_enter Tryd.func8, Tryd.ntmps8
  go_wp2_with fail
  refine (HC.out _ HB.out).mono ?_
  rintro e w1 ⟨⟨b, o, c1, rfl, hc1, hc2, hbs, hcell⟩, hb⟩
  have HB1 := Lib.hid (HB.out.trans (hb.mono HB.out.size))
  have HCELL := Lib.hid hcell
  clear hb b0 b1 b2 b3 b4 hcell
  go_wp2_with fail
  obtain ⟨G, hG⟩ : ∃ G, G = w1.heap.size := ⟨_, rfl⟩
  have HG := Lib.hid hG
  have HN := Lib.hid (hG ▸ bld_new w1 : Bld G G [] (w1.alloc (.cells #[.pointer none, .slice none 0 0] 55)))
  have HB2 : Hid (Below G w1 (w1.alloc (.cells #[.pointer none, .slice none 0 0] 55))) := Lib.hid (hG ▸ (Below.refl _ w1).alloc (Nat.le_refl _) _)
  rw [← hG] at hbs ⊢
  clear hG
  go_loopw [26] (fun i wr => ∃ j : Nat, j ≤ n ∧ i = .int .i64 j ∧ Bld G G (Lib.byteCells (pathB (L.take j))) wr ∧ Below G w1 wr) (fun i _ => n - (intOf i).toNat)
  case atStart => exact ⟨0, Nat.zero_le _, rfl, HN.out, HB2.out⟩
  case round =>
    obtain ⟨j, hj, rfl, hbld, hb⟩ := hrel
    have HBL := Lib.hid hbld
    have HBX := Lib.hid hb
    by_cases hlt : j < n
    · have hjl : j < L.length := by rw [HL.out]; exact hlt
      obtain ⟨z, hz, d0, d1, d2⟩ := HCELL.out j hjl
      have HNX := Lib.hid (cells_next L j hjl)
      have HLEN : Hid ((Lib.byteCells (pathB (L.take j))).length + 1 + L[j].size ≤ 134217728) := Lib.hid (by
        have h1 := pathB_take L (j + 1)
        have h2 := HPA.out
        rw [pathB_next L j hjl, List.length_append, List.length_cons] at h1
        rw [Lib.byteCells_length]
        have : L[j].data.toList.length = L[j].size := rfl
        omega)
      generalize L[j] = s at *
      replace d0 := (hb.cell (p := ⟨b, o + 3 + j * 3, none⟩) hbs).trans d0
      replace d1 := (hb.cell (p := ⟨b, o + 3 + j * 3 + 1, none⟩) hbs).trans d1
      replace d2 := (hb.cell (p := ⟨b, o + 3 + j * 3 + 2, none⟩) hbs).trans d2
      rw [hz] at d0
      obtain ⟨zn, zpa, zpc, zps, zka, zkc, zks⟩ := z
      replace d1 : wr.cell? ⟨b, o + 3 + j * 3 + 1, none⟩ = some (.slice zpa zps.length zpc) := d1
      replace d2 : wr.cell? ⟨b, o + 3 + j * 3 + 2, none⟩ = some (.slice zka zks.length zkc) := d2
      clear hz
      generalize zps.length = zpl at *
      generalize zks.length = zkl at *
      have hGlt : G < wr.heap.size := by
        rcases hbld with h | h
        · exact h.lt
        · exact h.lt
      have C1 := Lib.hid (writeString_any G G (Lib.byteCells (pathB (L.take j))) ⟨#[47]⟩ (wr.alloc (.cells #[.string s, .slice zpa zpl zpc, .slice zka zkl zkc] 27)) (hbld.alloc _) (by have h1 := HLEN.out; have h2 : (⟨#[47]⟩ : ByteArray).size = 1 := rfl; omega) (by simp; omega))
      have HA := Lib.hid ((Below.refl G wr).alloc (Nat.le_of_lt hGlt) (.cells #[.string s, .slice zpa zpl zpc, .slice zka zkl zkc] 27))
      clear hbld hb hjl
      go_wp2_with fail
      refine C1.out.mono ?_
      rintro e w2 ⟨rfl, ha2, hb2, hk2⟩
      have hbk := hk2 wr.heap.size _ (heap_alloc_new wr _) (by intro e; have := Option.some.inj e; omega) (by intro c fz e; injection e with _ e _; revert e; decide)
      have c0 : w2.cell? ⟨wr.heap.size, 0, none⟩ = some (.string s) := by rw [Lib.cell_of_heap hbk]; rfl
      have HB3 := Lib.hid (HA.out.trans hb2)
      have C2 := Lib.hid (writeString_any G G _ s w2 (.inr ha2) (by rw [List.length_append, Lib.strCells_length]; have h1 := HLEN.out; have h2 : (⟨#[47]⟩ : ByteArray).size = 1 := rfl; omega) (by have := HB3.out.size; omega))
      clear ha2 hb2 hk2 hbk d0 d1 d2
      go_wp2_with fail
      refine C2.out.mono ?_
      rintro e w3 ⟨rfl, ha3, hb3, hk3⟩
      have HA3 := Lib.hid ha3
      have HB4 := Lib.hid (HB3.out.trans hb3)
      clear ha3 hb3 hk3 c0
      go_wp2
      go_roundw
      case rel => exact ⟨j + 1, by omega, by go_num, .inr (by rw [HNX.out]; exact HA3.out), HBX.out.trans HB4.out⟩
      case measure => simp [intOf]; omega
    · obtain rfl : j = n := by omega
      have HT : Hid (L.take j = L) := Lib.hid (List.take_of_length_le (by rw [HL.out]; exact Nat.le_refl _))
      have C3 := Lib.hid (Go.Proofs.Tryd.Builder_String_any_k G G _ wr hbld (by have := hb.size; have := HG.out; omega))
      rw [HT.out] at C3
      clear hbld hb
      go_wp2_with fail
      refine C3.out.mono ?_
      rintro e w2 ⟨rfl, _, hb2, _⟩
      have HB3 := Lib.hid (HB1.out.trans ((HBX.out.trans hb2).mono (by rw [HG.out]; exact HB1.out.size)))
      clear hb2
      go_wp2
      go_ret2
      exact ⟨rfl, HB3.out⟩

theorem pathOK : PathOK fun t p => pathOf t.root p := by
  intro t p A n c w hin hck hh hp hpl hcel hnc hc
  obtain ⟨y, hy⟩ := place_node hp
  have h15 := place_short (root_wrong hck) hy
  show Calls _ _ _ w fun e w' => e = .returned (.tuple #[.string (pathOf t.root p), .int .i64 0]) ∧ Below w.heap.size w w'
  unfold pathOf
  by_cases h0 : p = []
  · subst h0
    obtain rfl : 0 = n := hpl
    rw [if_pos rfl]
    exact path_root t A c w hin hc
  · rw [if_neg h0]
    refine path_any t p A n c y w hin hy hpl ?_ (by omega) hh hcel hnc hc
    rcases p with _ | ⟨a, r⟩
    · exact absurd rfl h0
    · rw [← hpl]; simp
end Go.Proofs.YtckdddbiffoolaaDoor
