/-
  Base, part 8.
-/
import Derived.Test.YtcfinbapfhhpgaaGreatDoorBase7
import Derived.Test.YtcfinbapfhhpgaaGreatDoorBase5
import Derived.Test.YtcfinbapfhhpgaaGreatDoorBase4
import Derived.Test.YtcfinbapfhhpgaaGreatDoorBase1
import Derived.Deep.DrawnRows
import Derived.Test.YtcfinbapfhhpgaaGreatDoorShelf
import Derived.Lib.IndexLaws
import Derived.Test.YtcfinbapfhhpgaaGreatDoorBase6
namespace Go.Proofs.YtcfinbapfhhpgaaGreatDoor
open Go.RowKit
set_option linter.unusedVariables false
set_option linter.unusedSimpArgs false
set_option maxRecDepth 20000
set_option maxHeartbeats 16000000
theorem qhq_ : ∀ (p : List Nat) {n y : Nd}, qaj_ n p = some y -> (pathB (qbw_ n p)).length <= heftL n.kids
 | [], n, y, _ => Nat.zero_le _
 | i :: p, n, y, h => by
  obtain ⟨hi, e⟩ := qa7_ h
  have h1 := qhq_ p e
  have h2 := qbh_ n.kids i hi
  have h3 := qbb_ n.kids (i + 1)
  have h4 : heftN n.kids[i] = 16 + n.kids[i].name.size + (n.kids[i].props.map heftP).sum + heftL n.kids[i].kids := by cases n.kids[i]; rw [heftN]; rfl
  rw [qd7_ hi]
  have e5 : (pathB (n.kids[i].name :: qbw_ n.kids[i] p)).length = 1 + n.kids[i].name.size + (pathB (qbw_ n.kids[i] p)).length := by
   simp only [pathB, List.flatMap_cons, List.length_append, List.length_cons]
   show n.kids[i].name.size + 1 + _ = _
   omega
  omega
theorem qmz_ (l : List ByteArray) (j : Nat) : (pathB (l.take j)).length <= (pathB l).length := by
 conv => rhs; rw [<- List.take_append_drop j l, qft_, List.length_append]
 omega
theorem qix_ (l : List ByteArray) (j : Nat) (h : j < l.length) : pathB (l.take (j + 1)) = pathB (l.take j) ++ 47 :: l[j].data.toList := by
 rw [List.take_add_one, List.getElem?_eq_getElem h, qft_]
 simp [pathB]
theorem qpf_ (l : List ByteArray) (j : Nat) (h : j < l.length) : Lib.byteCells (pathB (l.take (j + 1))) = (Lib.byteCells (pathB (l.take j)) ++ Lib.strCells ⟨#[47]⟩) ++ Lib.strCells l[j] := by
 rw [qix_ l j h, Lib.strCells_eq, Lib.strCells_eq]
 simp [Lib.byteCells]
theorem bld_new (W : World) : Bld W.heap.size W.heap.size [] (W.alloc (.cells #[.pointer none, .slice none 0 0] 185)) :=
 .inl ⟨Nat.le_refl _, _, heap_alloc_new W _, ⟨rfl, .inl ⟨rfl, rfl⟩⟩, by simp [Value.ownBlock]⟩
theorem path_any (t : Tr) (p : List Nat) (A : Option Addr) (n c : Nat) (y : Nd) (w : World) (hin : t.In w w.heap.size) (hy : qaj_ t.root p = some y) (hpl : p.length = n) (hn0 : 0 < n) (hn : n <= 16) (hh : heftN t.root <= 134217728) (hp : Cel w w.heap.size A n (ints p)) (hnc : n <= c) (hc : c <= 9223372036854775807) :
  Calls Tryz.prog 48 #[t.val, .slice A n c] w fun e w' => e = .returned (.tuple #[.string ⟨(pathB (qbw_ t.root p)).toArray⟩, .int .i64 0]) /\ Below w.heap.size w w' := by
 have hlen := qeb_ p hy
 have hnm := qfe_ p hy
 have hpath : (pathB (qbw_ t.root p)).length <= 134217728 := by
  have h1 := qhq_ p hy
  have h2 : heftN t.root = 16 + t.root.name.size + (t.root.props.map heftP).sum + heftL t.root.kids := by cases t.root; rw [heftN]; rfl
  omega
 have hnl : (qbw_ t.root p).length = n := by rw [qeu_ p hy, hpl]
 have HC := Lib.hid (fun (W : World) (hW : Below w.heap.size w W) => (way_any t p A n c y W ((hin.under hW).more hW.size) hy hpl hn ((hp.below hW).more hW.size) hnc hc).mono fun e w' h => show (∃ b o c, e = .returned (.tuple #[.slice (some ⟨b, o, none⟩) (n + 1) c, .int .i64 0]) /\ n + 1 <= c /\ c <= 9223372036854775807 /\ b < w'.heap.size /\ ∀ j (hj : j < (qbw_ t.root p).length), ∃ z : Nd, z.name = (qbw_ t.root p)[j] /\ w'.cell? ⟨b, o + 3 + j * 3, none⟩ = some (.string z.name) /\ w'.cell? ⟨b, o + 3 + j * 3 + 1, none⟩ = some z.pv /\ w'.cell? ⟨b, o + 3 + j * 3 + 2, none⟩ = some z.kv) /\ Below W.heap.size W w' from ⟨by
  obtain ⟨⟨v, rfl, ho⟩, _⟩ := h
  obtain ⟨A', c', rfl, hk, hl, hc1, hc2, _⟩ := qdq_ ho
  obtain ⟨b, o, rfl, hb, hcell⟩ := hk (by omega)
  refine ⟨b, o, c', rfl, hc1, hc2, hb, fun j hj => ?_⟩
  have hj1 : j + 1 < (qbd_ t.root p).length := by omega
  obtain ⟨a0, a1, a2⟩ := hcell (j + 1) hj1
  refine ⟨(qbd_ t.root p)[j + 1], ?_, ?_, ?_, ?_⟩
  ·have e : (qbw_ t.root p)[j]? = some (qbd_ t.root p)[j + 1].name := by
    rw [<- hnm, List.getElem?_map, List.getElem?_tail, List.getElem?_eq_getElem hj1]
    rfl
   rw [List.getElem?_eq_getElem hj] at e
   exact (Option.some.inj e).symm
  ·rw [show o + 3 + j * 3 = o + (j + 1) * 3 by omega]; exact a0
  ·rw [show o + 3 + j * 3 = o + (j + 1) * 3 by omega]; exact a1
  ·rw [show o + 3 + j * 3 = o + (j + 1) * 3 by omega]; exact a2, h.2⟩)
 generalize qbw_ t.root p = L at *
 have HL := Lib.hid hnl
 have HPA := Lib.hid hpath
 clear hin hy hpl hh hp hlen hnm hpath hnl
 obtain ⟨boot, ra, rc, rs, ⟨nm, pa, pc, ps, ka, kc, ks⟩⟩ := t
 replace HC : Hid (∀ (W : World) (hW : Below w.heap.size w W), Calls Tryz.prog 81 #[.agg #[.int .u32 boot, .slice ra rs.length rc, .string nm, .slice pa ps.length pc, .slice ka ks.length kc], .slice A n c] W fun e w' => (∃ b o c, e = .returned (.tuple #[.slice (some ⟨b, o, none⟩) (n + 1) c, .int .i64 0]) /\ n + 1 <= c /\ c <= 9223372036854775807 /\ b < w'.heap.size /\ ∀ j (hj : j < L.length), ∃ z : Nd, z.name = L[j] /\ w'.cell? ⟨b, o + 3 + j * 3, none⟩ = some (.string z.name) /\ w'.cell? ⟨b, o + 3 + j * 3 + 1, none⟩ = some z.pv /\ w'.cell? ⟨b, o + 3 + j * 3 + 2, none⟩ = some z.kv) /\ Below W.heap.size W w') := HC
 show Calls _ _ #[.agg #[.int .u32 boot, .slice ra rs.length rc, .string nm, .slice pa ps.length pc, .slice ka ks.length kc], .slice A n c] _ _
 have HB := Lib.hid ((Below.refl w.heap.size w).alloc (Nat.le_refl _) (.cells #[.int .u32 boot, .slice ra rs.length rc, .string nm, .slice pa ps.length pc, .slice ka ks.length kc] 29))
 obtain ⟨b0, b1, b2, b3, b4⟩ := qa2_ w (.int .u32 boot) (.slice ra rs.length rc) (.string nm) (.slice pa ps.length pc) (.slice ka ks.length kc) _ (Below.refl _ _)
 have n1 : ((n : Int) + 1 == 1) = false := by rw [beq_eq_false_iff_ne]; omega
 go_enter Tryz.func48, Tryz.ntmps48
 go_wp2_with fail
 refine (HC.out _ HB.out).mono ?_
 rintro e w1 ⟨⟨b, o, c1, rfl, hc1, hc2, hbs, hcell⟩, hb⟩
 have HB1 := Lib.hid (HB.out.trans (hb.mono HB.out.size))
 have HCELL := Lib.hid hcell
 clear hb b0 b1 b2 b3 b4 hcell
 go_wp2_with fail
 obtain ⟨G, hG⟩ : ∃ G, G = w1.heap.size := ⟨_, rfl⟩
 have HG := Lib.hid hG
 have HN := Lib.hid (hG ▸ bld_new w1 : Bld G G [] (w1.alloc (.cells #[.pointer none, .slice none 0 0] 185)))
 have HB2 : Hid (Below G w1 (w1.alloc (.cells #[.pointer none, .slice none 0 0] 185))) := Lib.hid (hG ▸ (Below.refl _ w1).alloc (Nat.le_refl _) _)
 rw [<- hG] at hbs ⊢
 clear hG
 go_loopw [26] (fun i wr => ∃ j : Nat, j <= n /\ i = .int .i64 j /\ Bld G G (Lib.byteCells (pathB (L.take j))) wr /\ Below G w1 wr) (fun i _ => n - (intOf i).toNat)
 case atStart => exact ⟨0, Nat.zero_le _, rfl, HN.out, HB2.out⟩
 case round =>
  obtain ⟨j, hj, rfl, hbld, hb⟩ := hrel
  have HBL := Lib.hid hbld
  have HBX := Lib.hid hb
  by_cases hlt : j < n
  ·have hjl : j < L.length := by rw [HL.out]; exact hlt
   obtain ⟨z, hz, d0, d1, d2⟩ := HCELL.out j hjl
   have HNX := Lib.hid (qpf_ L j hjl)
   have HLEN : Hid ((Lib.byteCells (pathB (L.take j))).length + 1 + L[j].size <= 134217728) := Lib.hid (by
    have h1 := qmz_ L (j + 1)
    have h2 := HPA.out
    rw [qix_ L j hjl, List.length_append, List.length_cons] at h1
    rw [Lib.byteCells_length]
    have : L[j].data.toList.length = L[j].size := rfl
    omega)
   generalize L[j] = s at *
   replace d0 := (hb.cell (p := ⟨b, o + 3 + j * 3, none⟩) hbs).trans d0
   replace d1 := (hb.cell (p := ⟨b, o + 3 + j * 3 + 1, none⟩) hbs).trans d1
   replace d2 := (hb.cell (p := ⟨b, o + 3 + j * 3 + 2, none⟩) hbs).trans d2
   rw [hz] at d0
   obtain ⟨zn, zpa, zpc, zps, zka, zkc, zks⟩ := z
   replace d1 : wr.cell? ⟨b, o + 3 + j * 3 + 1, none⟩ = some (.slice zpa zps.length zpc) := d1
   replace d2 : wr.cell? ⟨b, o + 3 + j * 3 + 2, none⟩ = some (.slice zka zks.length zkc) := d2
   clear hz
   generalize zps.length = zpl at *
   generalize zks.length = zkl at *
   have hGlt : G < wr.heap.size := by
    rcases hbld with h | h
    ·exact h.lt
    ·exact h.lt
   have C1 := Lib.hid (qdv_ G G (Lib.byteCells (pathB (L.take j))) ⟨#[47]⟩ (wr.alloc (.cells #[.string s, .slice zpa zpl zpc, .slice zka zkl zkc] 27)) (hbld.alloc _) (by have h1 := HLEN.out; have h2 : (⟨#[47]⟩ : ByteArray).size = 1 := rfl; omega) (by simp; omega))
   have HA := Lib.hid ((Below.refl G wr).alloc (Nat.le_of_lt hGlt) (.cells #[.string s, .slice zpa zpl zpc, .slice zka zkl zkc] 27))
   clear hbld hb hjl
   go_wp2_with fail
   refine C1.out.mono ?_
   rintro e w2 ⟨rfl, ha2, hb2, hk2⟩
   have hbk := hk2 wr.heap.size _ (heap_alloc_new wr _) (by intro e; have := Option.some.inj e; omega) (by intro c fz e; injection e with _ e _; revert e; decide)
   have c0 : w2.cell? ⟨wr.heap.size, 0, none⟩ = some (.string s) := by rw [Lib.cell_of_heap hbk]; rfl
   have HB3 := Lib.hid (HA.out.trans hb2)
   have C2 := Lib.hid (qdv_ G G _ s w2 (.inr ha2) (by rw [List.length_append, Lib.strCells_length]; have h1 := HLEN.out; have h2 : (⟨#[47]⟩ : ByteArray).size = 1 := rfl; omega) (by have := HB3.out.size; omega))
   clear ha2 hb2 hk2 hbk d0 d1 d2
   go_wp2_with fail
   refine C2.out.mono ?_
   rintro e w3 ⟨rfl, ha3, hb3, hk3⟩
   have HA3 := Lib.hid ha3
   have HB4 := Lib.hid (HB3.out.trans hb3)
   clear ha3 hb3 hk3 c0
   go_wp2
   go_roundw
   case rel => exact ⟨j + 1, by omega, by go_num, .inr (by rw [HNX.out]; exact HA3.out), HBX.out.trans HB4.out⟩
   case measure => simp [intOf]; omega
  ·obtain rfl : j = n := by omega
   have HT : Hid (L.take j = L) := Lib.hid (List.take_of_length_le (by rw [HL.out]; exact Nat.le_refl _))
   have C3 := Lib.hid (Go.Proofs.Tryz.Builder_String_any_k G G _ wr hbld (by have := hb.size; have := HG.out; omega))
   rw [HT.out] at C3
   clear hbld hb
   go_wp2_with fail
   refine C3.out.mono ?_
   rintro e w2 ⟨rfl, _, hb2, _⟩
   have HB3 := Lib.hid (HB1.out.trans ((HBX.out.trans hb2).mono (by rw [HG.out]; exact HB1.out.size)))
   clear hb2
   go_wp2
   go_ret2
   exact ⟨rfl, HB3.out⟩
theorem pathOK : PathOK fun t p => qgo_ t.root p := by
 intro t p A n c w hin hck hh hp hpl hcel hnc hc
 obtain ⟨y, hy⟩ := qet_ hp
 have h15 := qcq_ (qdd_ hck) hy
 show Calls _ _ _ w fun e w' => e = .returned (.tuple #[.string (qgo_ t.root p), .int .i64 0]) /\ Below w.heap.size w w'
 unfold qgo_
 by_cases h0 : p = []
 ·subst h0
  obtain rfl : 0 = n := hpl
  rw [if_pos rfl]
  exact path_root t A c w hin hc
 ·rw [if_neg h0]
  refine path_any t p A n c y w hin hy hpl ?_ (by omega) hh hcel hnc hc
  rcases p with _ | ⟨a, r⟩
  ·exact absurd rfl h0
  ·rw [<- hpl]; simp
def qn0_ : ByteArray := ⟨#[105, 110, 116, 101, 114, 114, 117, 112, 116, 45, 99, 111, 110, 116, 114, 111, 108, 108, 101, 114]⟩
def qb3_ : ByteArray := ⟨#[35, 105, 110, 116, 101, 114, 114, 117, 112, 116, 45, 99, 101, 108, 108, 115]⟩
def ctrlB (x : Nd) : Bool := decide (0 <= idxOf (x.props.map PV.name) qn0_) && (oneV x qb3_).2.1 && decide ((oneV x qb3_).2.2 = 0) && decide ((oneV x qb3_).1 = 1)
theorem qjg_ : ∀ (z : List Int) {n x : Nd}, nodeZ n z = some x -> ∃ p : List Nat, z = p.map Int.ofNat
 | [], _, _, _ => ⟨[], rfl⟩
 | i :: r, n, x, h => by
  rw [nodeZ] at h
  by_cases hi : i < 0
  ·rw [if_pos hi] at h; cases h
  rw [if_neg hi] at h
  cases hk : n.kids[i.toNat]? with
  | none => rw [hk] at h; cases h
  | some k =>
   rw [hk] at h
   obtain ⟨p, rfl⟩ := qjg_ r h
   exact ⟨i.toNat :: p, by simp; omega⟩
theorem qgs_ : ∀ (p : List Int) {n x : Nd}, nodeZ n p = some x -> heftN x <= heftN n
 | [], n, x, h => by rw [nodeZ] at h; rw [Option.some.inj h]; exact Nat.le_refl _
 | i :: p, n, x, h => by
  rw [nodeZ] at h
  by_cases hi : i < 0
  ·rw [if_pos hi] at h; cases h
  rw [if_neg hi] at h
  cases hk : n.kids[i.toNat]? with
  | none => rw [hk] at h; cases h
  | some k =>
   rw [hk] at h
   obtain ⟨hlt, rfl⟩ := List.getElem?_eq_some_iff.1 hk
   have h1 := qgs_ p h
   have h2 := qbh_ n.kids _ hlt
   have h3 := qbb_ n.kids (i.toNat + 1)
   have h4 : heftN n = 16 + n.name.size + (n.props.map heftP).sum + heftL n.kids := by cases n; rw [heftN]; rfl
   omega
def qao_ (zs : List Int) : List Int := if zs.length % 4 = 0 then (List.range (zs.length / 4)).map fun i => numTo zs (4 * i) 4 else []
def qbp_ (zs : List Int) : Int := if zs.length % 4 = 0 then 0 else 4
noncomputable def textS (zs : List Int) : ByteArray := match textV zs with | none => ⟨#[]⟩ | some s => strOfNums s
noncomputable def textE (zs : List Int) : Int := match textV zs with | none => 4 | some _ => 0
noncomputable def txtsL (zs : List Int) : List ByteArray := match qmh_ zs with | none => [] | some l => l.map strOfNums
noncomputable def txtsE (zs : List Int) : Int := match qmh_ zs with | none => 4 | some _ => 0
abbrev u32s (l : List Int) : List Value := l.map (Value.int .u32)
abbrev strs6 (l : List ByteArray) : List Value := l.map Value.string
def qe1_ (w' : World) (R : List Value) (E : Int) (e : Ending) : Prop := ∃ A c, e = .returned (.tuple #[.slice A R.length c, .int .i64 E]) /\ Cel w' w'.heap.size A R.length R /\ R.length <= c /\ c <= 9223372036854775807
theorem qic_ {w' : World} {e : Ending} {E : Int} (he : e = .returned (.tuple #[.slice none 0 0, .int .i64 E])) : qe1_ w' [] E e := ⟨none, 0, he, Cel.nil _ _ _, Nat.le_refl _, by omega⟩
def OneOK : Prop := ∀ (n : Nd) (s : ByteArray) (w : World), n.In w w.heap.size -> s.size <= 140737488351232 -> Calls Tryz.prog 65 #[n.val, .string s] w fun e w' => e = .returned (qfz_ (oneV n s)) /\ Below w.heap.size w w'
theorem u32_cell {w : World} {B n : Nat} {A : Option Addr} {l : List Int} (h : Cel w B A n (u32s l)) (hn : l.length = n) (k : Nat) (hk : k < n) : ∃ b o, A = some ⟨b, o, none⟩ /\ b < B /\ w.cell? ⟨b, o + k, none⟩ = some (.int .u32 (l.getD k 0)) := by
 obtain ⟨b, o, e, hb, hc⟩ := h.2 (by omega)
 refine ⟨b, o, e, hb, ?_⟩
 rw [hc k hk, List.getElem?_map, List.getElem?_eq_getElem (by omega)]
 simp [List.getD, List.getElem?_eq_getElem (show k < l.length by omega)]
section
def VRow (w : World) (g : Nat) (t : TypeId) (vs : List Value) : Prop := w.heap[g]? = some (.cells vs.toArray t (0, 0))
section
variable {w w' : World} {g : Nat} {t : TypeId} {vs : List Value}
theorem VRow.lt (h : VRow w g t vs) : g < w.heap.size := (Array.getElem?_eq_some_iff.1 h).1
theorem VRow.cell (h : VRow w g t vs) (i : Nat) (hi : i < vs.length) : w.cell? ⟨g, i, none⟩ = some vs[i] := by
 rw [cell_of_row w g i _ _ (0, 0) h]
 simp [List.getElem?_eq_getElem hi]
theorem VRow.at_ (h : VRow w g t vs) {i : Nat} {z : Value} (hi : vs[i]? = some z) : w.cell? ⟨g, i, none⟩ = some z := by
 obtain ⟨h1, h2⟩ := List.getElem?_eq_some_iff.1 hi
 rw [h.cell i h1, h2]
theorem VRow.free (h : VRow w g t vs) (i : Nat) : w.frozen? ⟨g, i, none⟩ = false := by
 unfold VRow at h
 simp [World.frozen?, h]
theorem VRow.set (h : VRow w g t vs) (i : Nat) (v : Value) : VRow (w.setCell ⟨g, i, none⟩ v) g t (vs.set i v) := by
 unfold VRow at h ⊢
 simp [World.setCell, Array.getElem?_modify, h]
theorem VRow.cel {n : Nat} (h : VRow w g t vs) (hn : vs.length = n) : Cel w w.heap.size (some ⟨g, 0, none⟩) n vs :=
 ⟨hn, fun _ => ⟨g, 0, rfl, h.lt, fun i hi => by rw [Nat.zero_add, h.cell i (by omega), List.getElem?_eq_getElem (by omega)]⟩⟩
end
theorem qlp_ (w : World) (z : Value) (k : Nat) (t : TypeId) : VRow (w.alloc (.cells (madeCells #[z] k) t)) w.heap.size t (List.replicate k z) := by
 unfold VRow
 rw [heap_alloc_new]
 congr 2
 apply Array.toList_inj.1
 rw [toList_madeCells_one]
def partV (l : List Value) (z : Value) (m k : Nat) : List Value := l.take k ++ List.replicate (m - k) z
theorem qk2_ (l : List Value) (z : Value) (m k : Nat) (hk : k < m) (hm : l.length = m) (x : Value) (hx : l[k]? = some x) : (partV l z m k).set k x = partV l z m (k + 1) := by
 unfold partV
 have e : l.take (k + 1) = l.take k ++ [x] := by rw [List.take_add_one, hx]; rfl
 have hl : (l.take k).length = k := by rw [List.length_take]; omega
 rw [List.set_append, if_neg (by omega), hl, Nat.sub_self, e, List.append_assoc]
 congr 1
 obtain ⟨j, hj⟩ : ∃ j, m - k = j + 1 := ⟨m - k - 1, by omega⟩
 rw [hj, show m - (k + 1) = j by omega, List.replicate_succ]
 rfl
theorem qiz_ (l : List Value) (z : Value) (m : Nat) : partV l z m 0 = List.replicate m z := by simp [partV]
theorem qle_ (l : List Value) (z : Value) (m : Nat) (hm : l.length = m) : partV l z m m = l := by simp [partV, <- hm]
theorem qnl_ (l : List Value) (z : Value) (m k : Nat) (hk : k < m) (hm : l.length = m) : (partV l z m k)[k]? = some z := by
 unfold partV
 have hl : (l.take k).length = k := by rw [List.length_take]; omega
 rw [List.getElem?_append_right (by omega), hl, Nat.sub_self, List.getElem?_replicate]
 simp; omega
theorem qg4_ {w : World} {g m c : Nat} {t : TypeId} {R : List Value} {e : Ending} (h : VRow w g t R) (hm : R.length = m) (hc : m <= c) (hc2 : c <= 9223372036854775807) (he : e = .returned (.tuple #[.slice (some ⟨g, 0, none⟩) m c, .int .i64 0])) : qe1_ w R 0 e := by
 subst hm
 exact ⟨_, c, he, h.cel rfl, hc, hc2⟩
theorem make_u32 (k : Nat) (hk : k <= 70368744177664) (w : World) :
  (Instr.makeSlice 87 (.int .i64 (k : Int)) (.int .i64 (k : Int))).run Tryz.prog w = .ok (.slice (some ⟨w.heap.size, 0, none⟩) k k) (w.alloc (.cells (madeCells #[.int .u32 0] k) 22)) :=
 run_make_row' (P := Tryz.prog) 87 22 (.int .u32 0) 4 Tryz.underlying87 qoo_ rfl .i64 .i64 k (by omega) (by omega) w
theorem qeg_ {zs : List Int} {m : Nat} (h4 : zs.length % 4 = 0) (hm : zs.length / 4 = m) : (u32s (qao_ zs)).length = m /\ ∀ k, k < m -> (u32s (qao_ zs))[k]? = some (.int .u32 (numTo zs (4 * k) 4)) := by
 rw [qao_, if_pos h4, hm]
 refine ⟨by simp, fun k hk => ?_⟩
 simp [List.getElem?_range hk]
theorem qdi_ (A : Option Addr) (n c : Nat) (zs : List Int) (w : World) (hs : Shows w w.heap.size A n zs) (hn : n <= 140737488351232) (hnc : n <= c) (hc : c <= 9223372036854775807) :
  Calls Tryz.prog 103 #[.slice A n c] w fun e w' => qe1_ w' (u32s (qao_ zs)) (qbp_ zs) e /\ Below w.heap.size w w' := by
 have HS := Lib.hid hs
 have HC := Lib.hid (And.intro hnc hc)
 have HL := Lib.hid hs.1
 clear hs hnc hc
 by_cases h4 : n % 4 = 0
 ·have q1 : (((n : Int) % 4) != 0) = false := by rw [bne_eq_false_iff_eq]; omega
  obtain ⟨m, hm⟩ : ∃ m, n / 4 = m := ⟨_, rfl⟩
  have q2 : (n : Int) / 4 = (m : Int) := by omega
  have hm4 : n = 4 * m := by omega
  have HU := Lib.hid (qeg_ (zs := zs) (m := m) (by rw [HL.out]; exact h4) (by rw [HL.out]; exact hm))
  have HE : Hid (qbp_ zs = 0) := Lib.hid (by rw [qbp_, if_pos (by rw [HL.out]; exact h4)])
  have HM := make_u32 m (by omega)
  have HN := Lib.hid (And.intro hm4 hn)
  have hm9 : m <= 35184372087808 := by omega
  clear h4 hm hm4 hn
  generalize hU : u32s (qao_ zs) = U at HU
  have HUU := Lib.hid hU
  clear hU
  go_enter Tryz.func103, Tryz.ntmps103
  go_wp2_with fail
  go_loopw [16] (fun i wr => ∃ k : Nat, k <= m /\ i = .int .i64 k /\ VRow wr w.heap.size 22 (partV U (.int .u32 0) m k) /\ Below w.heap.size w wr) (fun i _ => m - (intOf i).toNat)
  case atStart => exact ⟨0, Nat.zero_le _, rfl, by rw [qiz_]; exact qlp_ _ _ _ _, (Below.refl _ _).alloc (Nat.le_refl _) _⟩
  case round =>
   obtain ⟨k, hk, rfl, hrow, hb⟩ := hrel
   have HB := Lib.hid hb
   have HR := Lib.hid hrow
   by_cases hlt : k < m
   ·have hnum := qcy_ HS.out (4 * k)
    have CG := fun q hq => get_at A n c (4 * k) q hq zs wr w.heap.size (HS.out.below hb) (by have := HN.out.1; omega) (by have := HN.out.2; omega) HC.out.1 (by unfold maxLen; exact HC.out.2) _ rfl
    obtain ⟨x, hx⟩ : ∃ x, numTo zs (4 * k) 4 = x := ⟨_, rfl⟩
    have hat := HU.out.2 k hlt
    rw [hx] at CG hnum hat
    have HSET : Hid ((partV U (.int .u32 0) m k).set k (.int .u32 x) = partV U (.int .u32 0) m (k + 1)) := Lib.hid (qk2_ U _ m k hlt HU.out.1 _ hat)
    have hcell := hrow.at_ (qnl_ U (.int .u32 0) m k hlt HU.out.1)
    have hfree := hrow.free k
    have HR2 := Lib.hid (hrow.set k (.int .u32 x))
    have HB2 := Lib.hid (hb.setCell (p := ⟨w.heap.size, k, none⟩) (Nat.le_refl _) (.int .u32 x))
    have HCG := Lib.hid CG
    have hb4 := HN.out
    have hbd : 4 * (k : Int) <= 140737488351232 := by omega
    clear hx hat hrow hb CG hb4
    go_wp2_with fail
    refine (HCG.out _ (by omega)).mono ?_
    rintro e w1 ⟨rfl, rfl⟩
    go_wp2
    go_roundw
    case rel => exact ⟨k + 1, by omega, by go_num, by rw [<- HSET.out]; exact HR2.out, HB2.out⟩
    case measure => simp [intOf]; omega
   ·obtain rfl : k = m := by omega
    have HV : Hid (VRow wr w.heap.size 22 U) := Lib.hid (by have := HR.out; rw [qle_ _ _ _ HU.out.1] at this; exact this)
    clear hrow hb
    go_wp2
    go_ret2
    refine ⟨?_, HB.out⟩
    rw [HE.out]
    exact qg4_ HV.out HU.out.1 (Nat.le_refl _) (by omega) rfl
 ·have q1 : (((n : Int) % 4) != 0) = true := by rw [bne_iff_ne]; omega
  have H4 := Lib.hid (show ¬ zs.length % 4 = 0 by rw [HL.out]; exact h4)
  clear h4
  go_enter Tryz.func103, Tryz.ntmps103
  go_wp2
  go_ret2
  refine ⟨?_, Below.refl _ _⟩
  rw [qbp_, if_neg H4.out, qao_, if_neg H4.out]
  exact qic_ rfl
end
theorem qc1_ (z : Int) (h : 0 <= z /\ z < 256) : UInt8.ofNat z.toNat = (0 : Int).toNat.toUInt8 ↔ z = 0 := by
 constructor
 ·intro e
  have e2 := congrArg UInt8.toNat e
  simp at e2
  omega
 ·rintro rfl; rfl
theorem qpe_ (zs : List Int) (a n : Nat) (hz : ∀ z ∈ zs, 0 <= z /\ z < 256) (hl : zs.length = n) (h : NoHit zs a n) : Lib.indexByte (Lib.bytesOf (zs.drop a)) (0 : Int).toNat.toUInt8 = -1 := by
 have hge := Lib.indexByte_ge (Lib.bytesOf (zs.drop a)) (0 : Int).toNat.toUInt8
 by_cases hn : Lib.indexByte (Lib.bytesOf (zs.drop a)) (0 : Int).toNat.toUInt8 = -1
 ·exact hn
 ·obtain ⟨o, ho⟩ : ∃ o : Nat, Lib.indexByte (Lib.bytesOf (zs.drop a)) (0 : Int).toNat.toUInt8 = o := ⟨_, (Int.toNat_of_nonneg (by omega)).symm⟩
  have h1 := (Lib.indexByte_some ho).1
  rw [Lib.bytesOf, List.getElem?_map, List.getElem?_drop] at h1
  obtain ⟨z, h2, h3⟩ := Option.map_eq_some_iff.1 h1
  have hlt : a + o < n := by
   rcases Nat.lt_or_ge (a + o) zs.length with h | h
   ·omega
   ·rw [List.getElem?_eq_none h] at h2; cases h2
  exact absurd ((qc1_ z (hz z (List.mem_of_getElem? h2))).1 h3) (by have := h (a + o) (by omega) hlt; simpa [List.getD, h2] using this)
theorem qpn_ (zs : List Int) (a n i : Nat) (hz : ∀ z ∈ zs, 0 <= z /\ z < 256) (hl : zs.length = n) (h : HitAt zs a n i) : Lib.indexByte (Lib.bytesOf (zs.drop a)) (0 : Int).toNat.toUInt8 = ((i - a : Nat) : Int) := by
 obtain ⟨h1, h2, h3, h4⟩ := h
 have hge := Lib.indexByte_ge (Lib.bytesOf (zs.drop a)) (0 : Int).toNat.toUInt8
 have hi : (Lib.bytesOf (zs.drop a))[i - a]? = some (0 : Int).toNat.toUInt8 := by
  have e : zs[i]? = some zs[i] := List.getElem?_eq_getElem (by omega)
  rw [Lib.bytesOf, List.getElem?_map, List.getElem?_drop, show a + (i - a) = i from by omega, e]
  have e2 : zs[i] = 0 := by simpa [List.getD, e] using h3
  rw [e2]; rfl
 by_cases hn : Lib.indexByte (Lib.bytesOf (zs.drop a)) (0 : Int).toNat.toUInt8 = -1
 ·exact absurd hi (Lib.indexByte_none hn _)
 ·obtain ⟨o, ho⟩ : ∃ o : Nat, Lib.indexByte (Lib.bytesOf (zs.drop a)) (0 : Int).toNat.toUInt8 = o := ⟨_, (Int.toNat_of_nonneg (by omega)).symm⟩
  obtain ⟨k1, k2⟩ := Lib.indexByte_some ho
  rw [ho]
  congr 1
  rcases Nat.lt_trichotomy o (i - a) with h5 | h5 | h5
  ·rw [Lib.bytesOf, List.getElem?_map, List.getElem?_drop] at k1
   obtain ⟨z, g2, g3⟩ := Option.map_eq_some_iff.1 k1
   exact absurd ((qc1_ z (hz z (List.mem_of_getElem? g2))).1 g3) (by have := h4 (a + o) (by omega) (by omega); simpa [List.getD, g2] using this)
  ·exact h5
  ·exact absurd hi (k2 _ h5)
theorem qi3_ (A : Option Addr) (n c : Nat) (zs : List Int) (w : World) (B : Nat) (hs : Shows w B A n zs) (h0 : 0 < n) :
  Calls Tryz.prog 137 #[.slice A n c, .int .u8 0] w fun e w' => e = .returned (.int .i64 (Lib.indexByte (Lib.bytesOf zs) (0 : Int).toNat.toUInt8)) /\ w = w' := by
 obtain ⟨b, o, rfl, _, hc⟩ := hs.at_ h0
 exact (Go.Proofs.Tryz.bytes_IndexByte b o n c zs 0 w hs.1 hc).mono fun e w' ⟨h1, h2⟩ => ⟨h1, h2.symm⟩
theorem text_off (A : Option Addr) (n c : Nat) (at_ : Int) (w : World) (hn : n <= 134217728) (h : at_ < 0 \/ (n : Int) <= at_) :
  Calls Tryz.prog 105 #[.slice A n c, .int .i64 at_] w fun e w' => e = .returned (.tuple #[.string ByteArray.empty, .bool false]) /\ w = w' := by
 by_cases h0 : at_ < 0
 ·go_enter Tryz.func105, Tryz.ntmps105
  go_wp2
  go_ret2
  exact ⟨rfl, rfl⟩
 ·have h1 : (n : Int) <= at_ := by omega
  go_enter Tryz.func105, Tryz.ntmps105
  go_wp2
  go_ret2
  exact ⟨rfl, rfl⟩
theorem text_no (A : Option Addr) (n c a : Nat) (zs : List Int) (w : World) (B : Nat) (hs : Shows w B A n zs) (hn : n <= 134217728) (hnc : n <= c) (ha : a < n) (h : NoHit zs a n) :
  Calls Tryz.prog 105 #[.slice A n c, .int .i64 a] w fun e w' => e = .returned (.tuple #[.string ByteArray.empty, .bool false]) /\ w = w' := by
 have hi := qpe_ zs a n hs.2.1 hs.1 h
 have C := Lib.hid (qi3_ (cutAt A c a) (n - a) (c - a) (zs.drop a) w B (hs.from_ (Nat.le_of_lt ha) hnc) (by omega))
 rw [hi] at C
 have r1 := qe9_ (P := Tryz.prog) Tryz.underlying82 qoj_ A n c (a : Int) a rfl (Nat.le_of_lt ha)
 have h0 : ¬ ((a : Int) < 0) := by omega
 have h1 : (a : Int) < (n : Int) := by omega
 clear hs h hi hnc ha
 go_enter Tryz.func105, Tryz.ntmps105
 go_wp2_with fail
 refine C.out.mono ?_
 rintro e w' ⟨rfl, rfl⟩
 go_wp2
 go_ret2
 exact ⟨rfl, rfl⟩
theorem text_yes (A : Option Addr) (n c a i : Nat) (zs : List Int) (w : World) (B : Nat) (hs : Shows w B A n zs) (hn : n <= 134217728) (hnc : n <= c) (h : HitAt zs a n i) :
  Calls Tryz.prog 105 #[.slice A n c, .int .i64 a] w fun e w' => e = .returned (.tuple #[.string (strOfNums ((zs.drop a).take (i - a))), .bool true]) /\ w = w' := by
 have hi := qpn_ zs a n i hs.2.1 hs.1 h
 have h2 := h.1
 have h3 := h.2.1
 have C := Lib.hid (qi3_ (cutAt A c a) (n - a) (c - a) (zs.drop a) w B (hs.from_ (by omega) hnc) (by omega))
 rw [hi] at C
 have r1 := qe9_ (P := Tryz.prog) Tryz.underlying82 qoj_ A n c (a : Int) a rfl (by omega)
 obtain ⟨m, rfl⟩ : ∃ m, i = a + m := ⟨i - a, by omega⟩
 simp only [Nat.add_sub_cancel_left] at C ⊢
 have ei : IntKind.i64.wrap ((a : Int) + (m : Int)) = (a : Int) + (m : Int) := IntWalk.i64_in _ (by omega)
 have r2 := run_cut (P := Tryz.prog) Tryz.underlying82 qoj_ A n c (a : Int) ((a : Int) + (m : Int)) a (a + m) rfl (by omega) (by omega) (by omega)
 simp only [Nat.add_sub_cancel_left] at r2
 have hcv := qo2_ (hs.cut (l := a) (h := a + m) (by omega) (by omega) hnc) (c - a)
 simp only [Nat.add_sub_cancel_left] at hcv
 have h0 : ¬ ((a : Int) < 0) := by omega
 have h1 : (a : Int) < (n : Int) := by omega
 clear hs h hi hnc h2
 go_enter Tryz.func105, Tryz.ntmps105
 go_wp2_with fail
 refine C.out.mono ?_
 rintro e w' ⟨rfl, rfl⟩
 go_wp2
 go_ret2
 exact ⟨rfl, rfl⟩
theorem qf6_ : ∀ (l : List Int) (k : Nat), k < l.length -> l.getD k 0 = 0 -> (∀ j, j < k -> l.getD j 0 ≠ 0) -> 0 ∈ l /\ (l.takeWhile fun z => decide (z ≠ 0)) = l.take k
 | x :: l, 0, _, h0, _ => by
  have hx : x = 0 := by simpa using h0
  subst hx
  simp [List.takeWhile_cons]
 | x :: l, k + 1, hk, h0, h1 => by
  have hx : x ≠ 0 := by simpa using h1 0 (by omega)
  obtain ⟨e1, e2⟩ := qf6_ l k (by simpa using hk) (by simpa using h0) (fun j hj => by simpa using h1 (j + 1) (by omega))
  refine ⟨List.mem_cons_of_mem _ e1, ?_⟩
  rw [List.takeWhile_cons, if_pos (by simpa using hx), e2, List.take_succ_cons]
theorem qhi_ (zs : List Int) (a k : Nat) : (zs.drop a).getD k 0 = zs.getD (a + k) 0 := by simp [List.getD, List.getElem?_drop]
theorem qj1_ {zs : List Int} {a i : Nat} (h : HitAt zs a zs.length i) : qbm_ zs a = some ((zs.drop a).take (i - a)) := by
 obtain ⟨h1, h2, h3, h4⟩ := h
 obtain ⟨e1, e2⟩ := qf6_ (zs.drop a) (i - a) (by rw [List.length_drop]; omega) (by rw [qhi_, show a + (i - a) = i by omega]; exact h3) (fun j hj => by rw [qhi_]; exact h4 _ (by omega) (by omega))
 rw [qbm_, if_pos e1, e2]
theorem qen_ {zs : List Int} {a : Nat} (h : NoHit zs a zs.length) : qbm_ zs a = none := by
 rw [qbm_, if_neg]
 intro h0
 obtain ⟨k, hk, e⟩ := List.getElem_of_mem h0
 rw [List.length_drop] at hk
 refine h (a + k) (by omega) (by omega) ?_
 rw [<- qhi_]
 simp [List.getD, List.getElem?_eq_getElem (show k < (zs.drop a).length by rw [List.length_drop]; omega), e]
def txtOf : Option (List Int) -> ByteArray
 | none => ByteArray.empty
 | some s => strOfNums s
theorem qm8_ (A : Option Addr) (n c a : Nat) (q : Int) (hq : q = (a : Int)) (zs : List Int) (w : World) (B : Nat) (hs : Shows w B A n zs) (hn : n <= 134217728) (hnc : n <= c) (r : Option (List Int)) (hr : qbm_ zs a = r) :
  Calls Tryz.prog 105 #[.slice A n c, .int .i64 q] w fun e w' => e = .returned (.tuple #[.string (txtOf r), .bool r.isSome]) /\ w = w' := by
 subst hq
 have hl := hs.1
 rcases Nat.lt_or_ge a n with ha | ha
 ·rcases qia_ zs a (n - a) with h | ⟨i, h⟩
  ·rw [show a + (n - a) = n by omega] at h
   rw [<- hl] at h
   rw [qen_ h] at hr
   subst hr
   exact text_no A n c a zs w B hs hn hnc ha (by rw [<- hl]; exact h)
  ·rw [show a + (n - a) = n by omega] at h
   have h' := h
   rw [<- hl] at h'
   rw [qj1_ h'] at hr
   subst hr
   exact text_yes A n c a i zs w B hs hn hnc h
 ·have h : NoHit zs a zs.length := fun j h1 h2 => by omega
  rw [qen_ h] at hr
  subst hr
  exact text_off A n c a w hn (.inr (by omega))
theorem qof_ (A : Option Addr) (n c : Nat) (zs : List Int) (w : World) (hs : Shows w w.heap.size A n zs) (hn : n <= 140737488351232) :
  Calls Tryz.prog 104 #[.slice A n c] w fun e w' => ∃ v', e = .returned v' /\ w'.ownsRow w.heap.size 5 1 v' n (u8s zs) /\ Below w.heap.size w w' := by
 obtain ⟨i0, hi0, hz0, hz1, hz2⟩ := info_parts info_u8
 have HS := Lib.hid hs
 clear hs
 have q : ∀ (w : World) (a : Option Addr) (n c n' c' : Nat), (binOp .eql 82 (.slice a n c) (.slice none n' c')).run Tryz.prog w = .ok (.bool a.isNone) w := fun w a n c n' c' => Lib.run_eql_slice_nil w _ _ a n c n' c' Tryz.underlying82
 have u22 : ∀ w, Sem.run Tryz.prog (underlying 82) w = .ok (TypeDesc.slice 5) w := run_underlying Tryz.underlying82
 rcases A with _ | ad
 ·have hn0 : n = 0 := by
   rcases Nat.eq_zero_or_pos n with h | h
   ·exact h
   ·obtain ⟨b, o, e, _⟩ := HS.out.at_ h
    cases e
  have hz0' : zs = [] := List.eq_nil_of_length_eq_zero (HS.out.1.trans hn0)
  subst hn0 hz0'
  go_enter Tryz.func104, Tryz.ntmps104
  go_wp2
  go_ret
  exact ⟨_, rfl, World.ownsRow_nil _ _ _ _, Below.refl _ _⟩
 ·have HB0 := Lib.hid ((Below.refl w.heap.size w).alloc (Nat.le_refl _) (.cells #[] 5))
  obtain ⟨v', w', hrun, hown, hgr, _⟩ := qgf_ (w.alloc (.cells #[] 5)) i0 hi0 hz0 hz1 hz2 w.heap.size (.slice (some ⟨w.heap.size, 0, none⟩) 0 0) 0 [] (World.ownsRow_made w #[] 0 (Nat.le_refl _) (Nat.zero_le _) rfl) w.heap.size (some ad) n c zs (HS.out.below HB0.out) (by omega) (by simp) 82
  have HO := Lib.hid hown
  have HG := Lib.hid hgr
  have HR := Lib.hid hrun
  clear hown hgr hrun hi0 hz0 hz1 hz2
  go_enter Tryz.func104, Tryz.ntmps104
  go_wp2_with (at_builtin; refine Lib.wpList_append_run_sl _ rfl _ _ 82 rfl _ _ rfl rfl HR.out ?_)
  go_ret
  refine ⟨_, rfl, ?_, HB0.out.grown HG.out (by simp) ?_⟩
  ·have := HO.out
   rw [Nat.zero_add] at this
   simpa using this
  ·intro k hk
   simp [Value.ownBlock] at hk
   omega
theorem qcz_ (n : Nd) (s : ByteArray) (w : World) (hin : n.In w w.heap.size) (r : Int) (hr : r = idxOf (n.props.map PV.name) s) :
  Calls Tryz.prog 67 #[n.val, .string s] w fun e w' => ∃ A c zs, e = .returned (.tuple #[.slice A zs.length c, .bool (decide (0 <= r))]) /\ (Shows w' w'.heap.size A zs.length zs /\ zs.length <= c /\ c <= 9223372036854775807) /\
   (r < 0 /\ zs = [] \/ ∃ k, ∃ hk : k < n.props.length, r = k /\ zs = n.props[k].zs) /\ Below w.heap.size w w' := by
 obtain ⟨nm, pa, pc, ps, ka, kc, ks⟩ := n
 have HI := Lib.hid hin
 have HR := Lib.hid hr
 obtain ⟨hl, hm⟩ : ps.length <= pc /\ pc <= 9223372036854775807 := hin.plen
 have HM := Lib.hid (show (ps.map PV.name).length = ps.length from List.length_map _)
 clear hin hr
 show Calls _ _ #[.agg #[.string nm, .slice pa ps.length pc, .slice ka ks.length kc], .string s] _ _
 go_enter Tryz.func67, Tryz.ntmps67
 go_wp2_with fail
 go_loopw [11] (fun i wr => ∃ k : Nat, k <= ps.length /\ i = .int .i64 k /\ Missed (ps.map PV.name) s k /\ Below w.heap.size w wr) (fun i _ => ps.length - (intOf i).toNat)
 case atStart => exact ⟨0, Nat.zero_le _, rfl, Missed.zero _ _, (Below.refl _ _).alloc (Nat.le_refl _) _⟩
 case round =>
  obtain ⟨k, hk, rfl, hmiss, hb⟩ := hrel
  have HA := Lib.hid hmiss
  have HB := Lib.hid hb
  clear hmiss hb
  by_cases hlt : k < ps.length
  ·obtain ⟨b, o, e, hb, c0, c1⟩ := (HI.out.under HB.out).pcell (i := k) hlt
   obtain rfl : pa = _ := e
   replace c0 : _ = some (Value.string ps[k].name) := c0
   replace c1 : _ = some (Value.slice ps[k].addr ps[k].zs.length ps[k].cap) := c1
   have hxm : Hid ((ps.map PV.name)[k]'(by rw [HM.out]; exact hlt) = ps[k].name) := List.getElem_map _
   by_cases hxs : ps[k].name = s
   ·have heq : (ps[k].name.toList == s.toList) = true := by rw [hxs]; simp
    have HX := Lib.hid hxs
    clear hxs
    obtain rfl : r = k := by rw [HR.out]; exact HA.out.hit _ (hxm.out.trans HX.out)
    have HV := Lib.hid (HI.out.prop (List.getElem_mem hlt))
    have HB2 := Lib.hid (HB.out.alloc HB.out.size (.cells #[Value.string ps[k].name, Value.slice ps[k].addr ps[k].zs.length ps[k].cap] 84))
    go_wp2_with fail
    refine (qof_ ps[k].addr ps[k].zs.length ps[k].cap ps[k].zs _ ((HV.out.2.1.below HB2.out).more HB2.out.size) HV.out.1.2).mono ?_
    rintro e w' ⟨v', rfl, hown, hb'⟩
    obtain ⟨A, c, rfl, hsh, hc1, hc2⟩ := qmn_ hown HV.out.2.1.2.1
    have HS := Lib.hid (And.intro hsh (And.intro hc1 hc2))
    have HB3 := Lib.hid (HB2.out.trans (hb'.mono HB2.out.size))
    clear hown hsh hb' hc1 hc2
    go_wp2
    go_ret2
    refine ⟨A, c, ps[k].zs, ?_, HS.out, .inr ⟨k, hlt, rfl, rfl⟩, HB3.out⟩
    congr 3
   ·have hne := qjq_ hxs
    have HF := Lib.hid (HA.out.succ (by rw [HM.out]; exact hlt) (by rw [hxm.out]; exact hxs))
    clear hxs
    go_wp2
    go_roundw
    case rel => exact ⟨k + 1, by omega, by go_num, HF, HB.out.alloc HB.out.size _⟩
    case measure => simp [intOf]; omega
  ·obtain rfl : r = -1 := by rw [HR.out]; exact HA.out.all (by rw [HM.out]; exact hlt)
   go_wp2
   go_ret2
   exact ⟨none, 0, [], rfl, ⟨Shows.nil _ _, Nat.le_refl _, by omega⟩, .inl ⟨by omega, rfl⟩, HB.out⟩
theorem qkc_ (n : Nd) (s : ByteArray) (w : World) (hin : n.In w w.heap.size) (h : idxOf (n.props.map PV.name) s < 0) :
  Calls Tryz.prog 67 #[n.val, .string s] w fun e w' => (∃ A c, e = .returned (.tuple #[.slice A 0 c, .bool false]) /\ c <= 9223372036854775807) /\ Below w.heap.size w w' :=
 (qcz_ n s w hin _ rfl).mono fun e w' ⟨A, c, zs, he, hs, hw, hb⟩ => by
  rcases hw with ⟨_, rfl⟩ | ⟨k, _, e, _⟩
  ·exact ⟨⟨A, c, by rw [he, decide_eq_false (by omega)]; rfl, hs.2.2⟩, hb⟩
  ·omega
theorem qmq_ (n : Nd) (s : ByteArray) (w : World) (hin : n.In w w.heap.size) (k : Nat) (hk : k < n.props.length) (h : idxOf (n.props.map PV.name) s = (k : Int)) (zs : List Int) (hz : n.props[k].zs = zs) :
  Calls Tryz.prog 67 #[n.val, .string s] w fun e w' => (∃ A c, e = .returned (.tuple #[.slice A zs.length c, .bool true]) /\ Shows w' w'.heap.size A zs.length zs /\ zs.length <= c /\ c <= 9223372036854775807) /\ Below w.heap.size w w' :=
 (qcz_ n s w hin _ rfl).mono fun e w' ⟨A, c, zs', he, hs, hw, hb⟩ => by
  rcases hw with ⟨h0, _⟩ | ⟨j, hj, e, h1⟩
  ·omega
  ·obtain rfl : j = k := by omega
   obtain rfl : zs' = zs := h1.trans hz
   exact ⟨⟨A, c, by rw [he, decide_eq_true (by omega)], hs⟩, hb⟩
theorem oneOK : OneOK := by
 intro n s w hin hs
 have HB := Lib.hid ((Below.refl w.heap.size w).alloc (Nat.le_refl _) (.cells #[Value.string n.name, n.pv, n.kv] 27))
 have HI := Lib.hid (fun o => Nd.In.more ((Below.refl w.heap.size w).alloc (Nat.le_refl _) o).size (hin.under ((Below.refl w.heap.size w).alloc (Nat.le_refl _) o)))
 rcases qjs_ (n.props.map PV.name) s with h | ⟨k, h1, h2, _⟩
 ·have CF := Lib.hid (fun o => qkc_ n s (w.alloc o) (HI.out o) (by omega))
  have HO : Hid (oneV n s = (0, false, 0)) := Lib.hid (by rw [oneV, qdo_ h])
  clear hin h HI
  obtain ⟨nm, pa, pc, ps, ka, kc, ks⟩ := n
  rw [HO.out]
  simp only [Nd.val, Nd.pv, Nd.kv, Nd.name, Nd.pa, Nd.pc, Nd.props, Nd.ka, Nd.kc, Nd.kids] at CF HB ⊢
  go_enter Tryz.func65, Tryz.ntmps65
  go_wp2_with fail
  refine (CF.out _).mono ?_
  rintro e w1 ⟨⟨A1, c1, rfl, _⟩, hb⟩
  have HB1 := Lib.hid (HB.out.trans (hb.mono HB.out.size))
  clear hb
  go_wp2
  go_ret3
  exact ⟨rfl, HB1.out⟩
 ·rw [List.length_map] at h1
  obtain ⟨zs, hzs⟩ : ∃ zs, n.props[k].zs = zs := ⟨_, rfl⟩
  have CF := fun o => qmq_ n s (w.alloc o) (HI.out o) k h1 h2 zs hzs
  have HO : Hid (oneV n s = if zs.length = 4 then (numTo zs 0 4, true, 0) else (0, false, 4)) := Lib.hid (by rw [oneV, qg7_ h1 h2, <- hzs])
  have hN : zs.length <= 140737488351232 := by rw [<- hzs]; exact (hin.prop (List.getElem_mem h1)).1.2
  have HC := Lib.hid (fun A c W (hW : Shows W W.heap.size A zs.length zs) h1 h2 => qdi_ A zs.length c zs W hW (by omega) h1 h2)
  obtain ⟨O, hO⟩ : ∃ O, oneV n s = O := ⟨_, rfl⟩
  rw [hO] at HO ⊢
  obtain ⟨N, hNe⟩ : ∃ N, zs.length = N := ⟨_, rfl⟩
  rw [hNe] at HO HC CF hN
  have HCF := Lib.hid CF
  have HNN := Lib.hid hNe
  clear hin HI hO hNe CF hzs h1 h2
  obtain ⟨nm, pa, pc, ps, ka, kc, ks⟩ := n
  simp only [Nd.val, Nd.pv, Nd.kv, Nd.name, Nd.pa, Nd.pc, Nd.props, Nd.ka, Nd.kc, Nd.kids] at HCF HB ⊢
  go_enter Tryz.func65, Tryz.ntmps65
  go_wp2_with fail
  refine (HCF.out _).mono ?_
  rintro e w1 ⟨⟨A1, c1, rfl, hsh, hl1, hl2⟩, hb⟩
  have HB1 := Lib.hid (HB.out.trans (hb.mono HB.out.size))
  have CC := HC.out A1 c1 w1 hsh hl1 hl2
  by_cases h4 : N % 4 = 0
  ·have hE : qbp_ zs = 0 := by rw [qbp_, if_pos (by rw [HNN.out]; exact h4)]
   obtain ⟨hUL, hU⟩ := qeg_ (zs := zs) (by rw [HNN.out]; exact h4) rfl
   rw [HNN.out] at hUL hU
   obtain ⟨M, hM⟩ : ∃ M, N / 4 = M := ⟨_, rfl⟩
   rw [hM] at hUL hU
   unfold qe1_ at CC
   rw [hE, hUL] at CC
   have HU := Lib.hid hU
   generalize u32s (qao_ zs) = U at CC HU
   have HCC := Lib.hid CC
   clear hb hsh CC hE hUL hU
   go_wp2_with fail
   refine HCC.out.mono ?_
   rintro e w2 ⟨⟨A, c, rfl, hcel, hl3, hl4⟩, hb⟩
   have HB2 := Lib.hid (HB1.out.trans (hb.mono HB1.out.size))
   clear hb
   by_cases h1 : M = 1
   ·subst h1
    obtain ⟨bc, oc, rfl, _, hc0⟩ := hcel.2 (by omega)
    have d0 := hc0 0 (by omega)
    rw [Nat.add_zero, HU.out 0 (by omega)] at d0
    obtain ⟨v, hv⟩ : ∃ v, numTo zs 0 4 = v := ⟨_, rfl⟩
    have HO2 : Hid (O = (v, true, 0)) := Lib.hid (by rw [HO.out, if_pos (by omega), hv])
    rw [Nat.mul_zero, hv] at d0
    clear hcel hc0 hv hM h4 HCC HO
    go_wp2
    go_ret3
    exact ⟨by rw [HO2.out]; rfl, HB2.out⟩
   ·have k1 : ((M : Int) != 1) = true := by rw [bne_iff_ne]; omega
    have HO2 : Hid (O = (0, false, 4)) := Lib.hid (by rw [HO.out, if_neg (by omega)])
    clear hcel hM h4 h1 HCC HO
    go_wp2
    go_ret3
    exact ⟨by rw [HO2.out]; rfl, HB2.out⟩
  ·have hE : qbp_ zs = 4 := by rw [qbp_, if_neg (by rw [HNN.out]; exact h4)]
   have hUL : u32s (qao_ zs) = [] := by rw [qao_, if_neg (by rw [HNN.out]; exact h4)]; rfl
   unfold qe1_ at CC
   rw [hE, hUL] at CC
   have HCC : Hid (Calls Tryz.prog 103 #[.slice A1 N c1] w1 fun e w' => (∃ A c, e = .returned (.tuple #[.slice A 0 c, .int .i64 4]) /\ Cel w' w'.heap.size A 0 [] /\ 0 <= c /\ c <= 9223372036854775807) /\ Below w1.heap.size w1 w') := Lib.hid CC
   have HO2 : Hid (O = (0, false, 4)) := Lib.hid (by rw [HO.out, if_neg (by omega)])
   clear hb hsh CC hE hUL h4 HO
   go_wp2_with fail
   refine HCC.out.mono ?_
   rintro e w2 ⟨⟨A, c, rfl, hcel, hl3, hl4⟩, hb⟩
   have HB2 := Lib.hid (HB1.out.trans (hb.mono HB1.out.size))
   clear hb hcel
   go_wp2
   go_ret3
   exact ⟨by rw [HO2.out]; rfl, HB2.out⟩

def IndexOK : Prop := ∀ (t : Tr) (w : World), t.In w w.heap.size -> heftN t.root <= 134217728 -> Calls Tryz.prog 21 #[t.val] w fun e w' => (∃ A n c, e = .returned (.tuple #[.slice A n c, .int .i64 (qan_ t.root).2]) /\ RefShow w' w'.heap.size A n (qan_ t.root).1 /\ n <= c /\ c <= 9223372036854775807) /\ Below w.heap.size w w'
def MostOK : Prop := ∀ (t : Tr) (w : World), t.In w w.heap.size -> heftN t.root <= 134217728 -> Calls Tryz.prog 176 #[t.val] w fun e w' => e = .returned (.tuple #[.int .u32 (mostOf t.root), .int .i64 (qan_ t.root).2]) /\ Below w.heap.size w w'
theorem qjh_ : ∀ (l : List (Int × List Nat)) (j : Nat) (hj : j < l.length), (l.map Prod.fst).Nodup -> l.find? (fun x => decide (x.1 = l[j].1)) = some l[j]
 | x :: l, 0, _, _ => by rw [List.find?_cons_of_pos (by simp)]; rfl
 | x :: l, j + 1, hj, h => by
  rw [List.map_cons, List.nodup_cons] at h
  have hjl : j < l.length := by simpa using hj
  rw [List.find?_cons_of_neg (by
   have : x.1 ≠ l[j].1 := fun e => h.1 (by rw [e]; exact List.mem_map.2 ⟨l[j], List.getElem_mem hjl, rfl⟩)
   simpa using this)]
  exact qjh_ l j hjl h.2
end Go.Proofs.YtcfinbapfhhpgaaGreatDoor
