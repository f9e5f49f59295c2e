/-
  Layer 14: the program's place.
-/
import Derived.Test.YtapfcbcojnplaaaIAt
import Derived.Test.YtapfcbcojnplaaaShelf
import Derived.Test.YtapfcbcojnplaaaBase1
namespace Go.Proofs.Ytapfcbcojnplaaa
open Go.RowKit
set_option linter.unusedVariables false
set_option linter.unusedSimpArgs false

def lenV : Value → Nat
  | .slice _ n _ => n
  | _ => 0
theorem below_cells {B b : Nat} {w0 : World} (hb : B ≤ b) : ∀ (vs : List Value) (o : Nat) (w : World), Below B w0 w → Below B w0 (w.setCells b o vs)
  | [], _, _, h => h
  | v :: r, o, w, h => below_cells hb r (o + 1) _ (h.setCell (p := ⟨b, o, none⟩) hb v)
/-- append of one number, laid by the call itself. -/
theorem app_numI {w : World} {B : Nat} {v : Value} {p : List Nat} (h : w.ownsRow B 3 1 v p.length (ints p)) (q : Nat) (hn : p.length + 1 ≤ 1073741824) (hB : B ≤ w.heap.size) :
    ∃ A' c' w', (Builtin.append_ #[30, 30] 30 #[v, .slice (some ⟨w.heap.size, 0, none⟩) 1 1]).run Try.prog (w.alloc (.cells #[.int .i64 (q : Int)] 3)) = .ok (.slice A' (p.length + 1) c') w' ∧ w'.ownsRow B 3 1 (.slice A' (p.length + 1) c') (p.length + 1) (ints (p ++ [q])) ∧ Below B w w' := by
  have h1 := h.alloc (.cells #[.int .i64 (q : Int)] 3)
  have hb := (Below.refl B w).alloc hB (.cells #[.int .i64 (q : Int)] 3)
  obtain ⟨v', w', r, g⟩ := app_ints 1 h1 (one_new w q) (by simp only [List.length_cons, List.length_nil]; omega) (Nat.le_trans hB hb.size) 30
  have g2 := hb.grown g.2.1 (Nat.le_trans hB hb.size) (fun b e => (h1.lt b e).1)
  have g3 := g.1
  rw [List.length_map, List.length_append, show [q].length = 1 from rfl] at g3
  obtain ⟨A', c', rfl, _⟩ := owned_cel g3
  exact ⟨A', c', w', r, g3, g2⟩
/-- slices.Reverse of a row of the call's own. -/
theorem rev_any {w : World} {B n : Nat} {A : Option Addr} {c : Nat} {p : List Nat} (h : w.ownsRow B 3 1 (.slice A n c) n (ints p)) (hn : n ≤ 1073741824) :
    Calls Try.prog 30 #[.slice A n c] w fun e w' => e = .returned (.tuple #[]) ∧ Cel w' w'.heap.size A n (ints p.reverse) ∧ n ≤ c ∧ c ≤ 9223372036854775807 ∧ Below B w w' := by
  obtain ⟨A', c', e', hcel, h1, h2, hob⟩ := owned_cel h
  simp only [Value.slice.injEq, true_and] at e'
  obtain ⟨rfl, rfl⟩ := e'
  have hl := h.1
  rw [List.length_map, Nat.mul_one] at hl
  rcases Nat.eq_zero_or_pos n with rfl | h0
  · obtain rfl : p = [] := List.eq_nil_of_length_eq_zero hl
    exact (Try.slices_Reverse_int_empty A c w).mono fun e w' ⟨h3, h4⟩ => ⟨h3, by subst h4; exact Cel.nil _ _ _, h1, h2, by subst h4; exact Below.refl _ _⟩
  · obtain ⟨b, o, rfl, hb, hc⟩ := hcel.at_ h0
    have hBb := (hob b rfl).1
    obtain ⟨rfl, hfz⟩ : o = 0 ∧ ∀ j, w.frozen? ⟨b, j, none⟩ = false := by
      rcases h.2 with ⟨e, _⟩ | ⟨g, cap, cur, e, _, hg, _⟩
      · cases e
      · simp only [Value.slice.injEq, Option.some.injEq, Addr.mk.injEq] at e
        obtain ⟨⟨rfl, rfl, _⟩, _, _⟩ := e
        exact ⟨rfl, fun j => Lib.frozen_of_heap hg j⟩
    have hz : ∀ j, j < (p.map Int.ofNat).length → w.cell? ⟨b, 0 + j, none⟩ = some (.int .i64 ((p.map Int.ofNat).getD j 0)) := fun j hj => by
      rw [List.length_map] at hj
      rw [hc j (by omega), List.getElem?_map, List.getD_eq_getElem?_getD, List.getElem?_map, List.getElem?_eq_getElem hj]
      rfl
    have hlz : (p.map Int.ofNat).length = n := by rw [List.length_map]; exact hl
    refine (Try.slices_Reverse_int_cells b 0 n c (p.map Int.ofNat) w (by omega) (by omega) hz (fun j _ => by rw [Nat.zero_add]; exact hfz j)).mono ?_
    rintro e w' ⟨rfl, q, rfl⟩
    have ev : (((p.map Int.ofNat).take n).reverse.map (Value.int .i64)) = ints p.reverse := by
      rw [List.take_of_length_le (by omega), ← List.map_reverse, List.map_map]
      rfl
    rw [ev]
    have hll : (ints p.reverse).length = n := by rw [List.length_map, List.length_reverse]; exact hl
    have hbl : Below B w (w.drewN q) := ⟨rfl, rfl, rfl, Nat.le_refl _, fun _ _ => rfl⟩
    have hb2 := below_cells hBb (ints p.reverse) 0 _ hbl
    have hbs : b < ((w.drewN q).setCells b 0 (ints p.reverse)).heap.size := Nat.lt_of_lt_of_le hb (below_cells (B := 0) (w0 := w) (b := b) (Nat.zero_le _) (ints p.reverse) 0 (w.drewN q) ⟨rfl, rfl, rfl, Nat.le_refl _, fun _ _ => rfl⟩).size
    refine ⟨rfl, ⟨hll, fun _ => ⟨b, 0, rfl, hbs, fun i hi => ?_⟩⟩, h1, h2, hb2⟩
    rw [World.cell?_setCells_in b (ints p.reverse) 0 (w.drewN q) (fun j hj => ?_) i (by omega), List.getElem?_eq_getElem (by omega)]
    have e2 : (w.drewN q).cell? ⟨b, 0 + j, none⟩ = w.cell? ⟨b, 0 + j, none⟩ := rfl
    rw [e2, hc j (by omega), List.getElem?_eq_getElem (by rw [List.length_map]; omega)]
    rfl

set_option maxRecDepth 20000 in
set_option maxHeartbeats 4000000 in
theorem place_any (R : Nd) (D : Nat → Prop) (b : Nat) (z : List Nat) (x : Nd) (w : World) (hs : Spot w R D b z x) (hh : heftN R ≤ 134217728) :
    Calls Try.prog 20 #[.pointer (some ⟨b, 0, none⟩)] w fun e w' => (∃ A c, e = .returned (.slice A z.length c) ∧ Cel w' w'.heap.size A z.length (ints z) ∧ z.length ≤ c ∧ c ≤ 9223372036854775807 ∧ ∀ b o, A = some ⟨b, o, none⟩ → w.heap.size ≤ b) ∧ Below w.heap.size w w' := by
  have HS := Lib.hid hs
  have HL : Hid (z.length ≤ 8388608) := Lib.hid (by have := hs.len; omega)
  clear hs hh
  go_enter Try.func20, Try.ntmps20
  go_wp2_with fail
  go_loopw [0, 3] (fun s l wr => ∃ (b' : Nat) (z1 : List Nat) (x1 : Nd) (z2 : List Nat), s = .pointer (some ⟨b', 0, none⟩) ∧ Spot w R D b' z1 x1 ∧ z = z1 ++ z2.reverse ∧ lenV l = z2.length ∧ wr.ownsRow w.heap.size 3 1 l z2.length (ints z2) ∧ Below w.heap.size w wr) (fun _ l _ => z.length - lenV l)
  case atStart => exact ⟨b, z, x, [], rfl, HS.out, by simp, rfl, World.ownsRow_nil _ _ _ _, Below.refl _ _⟩
  case round =>
    obtain ⟨b', z1, x1, z2, rfl, hs1, hz, hlv, hrow, hb⟩ := hrel
    have HB := Lib.hid hb
    rcases hs1.inv with ⟨rfl, _, hbk⟩ | ⟨a, i, z3, x3, rfl, hs3, _, hbk⟩
    · replace hbk := (hb.block _ (Array.getElem?_eq_some_iff.1 hbk).1).trans hbk
      obtain ⟨s0, s1, s2, s3, s4⟩ := spot_cells hbk
      obtain ⟨A, c, rfl, _, _, _, hob⟩ := owned_cel hrow
      have HOB : Hid (∀ b o, A = some ⟨b, o, none⟩ → w.heap.size ≤ b) := Lib.hid (fun b o e => (hob b (by rw [e]; rfl)).1)
      clear hob
      have hz2 : z = z2.reverse := hz
      have hlen : z2.length = z.length := by rw [hz2, List.length_reverse]
      rw [hlen] at hrow
      have CR := rev_any hrow (by have := HL.out; omega)
      rw [← hz2] at CR
      have CR := Lib.hid CR
      rw [hlen]
      clear hb hbk hs1 hz hz2 hlv hrow s0 s1 s2 s4 hlen
      go_wp2_with fail
      refine CR.out.mono ?_
      rintro e w2 ⟨rfl, hcel, h1, h2, hb2⟩
      have HFIN := Lib.hid (And.intro hcel (And.intro h1 (And.intro h2 (HB.out.trans hb2))))
      clear hcel h1 h2 hb2 CR
      go_wp2
      go_ret
      exact ⟨⟨A, c, rfl, HFIN.out.1, HFIN.out.2.1, HFIN.out.2.2.1, HOB.out⟩, HFIN.out.2.2.2⟩
    · have hbk0 := hbk
      replace hbk := (hb.block _ (Array.getElem?_eq_some_iff.1 hbk).1).trans hbk
      obtain ⟨s0, s1, s2, s3, s4⟩ := spot_cells hbk
      have hzl := congrArg List.length hz
      rw [List.length_append, List.length_append, List.length_reverse, List.length_singleton] at hzl
      obtain ⟨A', c', w5, r5, hrow5, hb5⟩ := app_numI hrow i (by have := HL.out; omega) hb.size
      have q3 : w5.cell? ⟨b', 3, none⟩ = some (.pointer (some ⟨a, 0, none⟩)) := by
        obtain ⟨_, _, _, q, _⟩ := spot_cells (((hb.trans hb5).block _ (Array.getElem?_eq_some_iff.1 hbk0).1).trans hbk0)
        exact q
      have HFIN := Lib.hid (And.intro hrow5 (And.intro hs3 (And.intro (hb.trans hb5) (show z = z3 ++ (z2 ++ [i]).reverse by rw [hz, List.reverse_append]; simp))))
      obtain ⟨A, c, rfl, _⟩ := owned_cel hrow
      have HZL := Lib.hid hzl
      obtain ⟨n2, hn2⟩ : ∃ n2, z2.length = n2 := ⟨_, rfl⟩
      have HN2 := Lib.hid hn2
      rw [hn2] at r5 HZL HFIN ⊢
      clear hb hbk hbk0 hs1 hs3 hz hlv hrow s0 s1 s2 hzl hrow5 hb5 hn2
      go_wp2_with (at_builtin; refine Lib.wpList_append_run_sl _ rfl _ _ _ rfl _ _ rfl rfl r5 ?_)
      go_roundw
      case rel => exact ⟨a, z3, x3, z2 ++ [i], rfl, HFIN.out.2.1, HFIN.out.2.2.2, by rw [List.length_append, HN2.out]; rfl, by rw [List.length_append, HN2.out]; exact HFIN.out.1, HFIN.out.2.2.1⟩
      case measure => have := HZL.out; simp only [lenV]; omega
end Go.Proofs.Ytapfcbcojnplaaa
