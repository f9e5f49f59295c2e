/-
  Base, part 5: what the proofs of this claim lean on.
-/
import Derived.Test.YtijhjlpkbnajpaaBase4
import Derived.BigQuiet
import Derived.Test.YtijhjlpkbnajpaaBase1

/-! The node at a place: the document's answer, for any numbers. -/
namespace Go.Proofs.Ytijhjlpkbnajpaa
open Go.RowKit
set_option linter.unusedVariables false
set_option linter.unusedSimpArgs false

/-- The node at a place below n, of any numbers. -/
def nodeZ : Nd → List Int → Option Nd
  | n, [] => some n
  | n, i :: r => if i < 0 then none else match n.kids[i.toNat]? with
    | none => none
    | some k => nodeZ k r
abbrev intsZ (z : List Int) : List Value := z.map fun k => Value.int .i64 k
theorem ints_eq (p : List Nat) : ints p = intsZ (p.map Int.ofNat) := by simp [ints, intsZ]
theorem nodeZ_nat : ∀ (p : List Nat) (n : Nd), nodeZ n (p.map Int.ofNat) = nodeAt n p
  | [], n => rfl
  | i :: p, n => by
    rw [List.map_cons, nodeZ, nodeAt, if_neg (by simp)]
    simp only [Int.ofNat_eq_natCast, Int.toNat_natCast]
    cases n.kids[i]? with
    | none => rfl
    | some k => exact nodeZ_nat p k
theorem nodeZ_append : ∀ (p q : List Int) (n : Nd), nodeZ n (p ++ q) = match nodeZ n p with | none => none | some x => nodeZ x q
  | [], q, n => by simp [nodeZ]
  | i :: p, q, n => by
    rw [List.cons_append, nodeZ, nodeZ]
    by_cases hi : i < 0
    · rw [if_pos hi, if_pos hi]
    · rw [if_neg hi, if_neg hi]
      cases n.kids[i.toNat]? with
      | none => rfl
      | some k => exact nodeZ_append p q k
theorem nodeZ_in {w : World} {B : Nat} : ∀ (p : List Int) {n x : Nd}, n.In w B → nodeZ n p = some x → x.In w B
  | [], n, x, h, e => by rw [nodeZ] at e; rw [← Option.some.inj e]; exact h
  | i :: p, n, x, h, e => by
    rw [nodeZ] at e
    by_cases hi : i < 0
    · rw [if_pos hi] at e; cases e
    rw [if_neg hi] at e
    cases hk : n.kids[i.toNat]? with
    | none => rw [hk] at e; cases e
    | some k => rw [hk] at e; exact nodeZ_in p (h.kid (List.mem_of_getElem? hk)) e
/-- The answer. -/
def getVal : Option Nd → Value
  | none => .tuple #[.agg #[.string ⟨#[]⟩, .slice none 0 0, .slice none 0 0], .bool false]
  | some x => .tuple #[x.val, .bool true]

theorem below_sets {g : Nat} {w wr : World} (h : Below g w wr) (m b : Nat) (hb : g ≤ b) (u0 u1 u2 : Value) : Below g w ((((wr.drewN m).setCell ⟨b, 0, none⟩ u0).setCell ⟨b, 1, none⟩ u1).setCell ⟨b, 2, none⟩ u2) :=
  ((Below.setCell (Below.setCell (Below.setCell (h.trans (c := wr.drewN m) ⟨rfl, rfl, rfl, Nat.le_refl _, fun _ _ => rfl⟩) (p := ⟨b, 0, none⟩) hb u0) (p := ⟨b, 1, none⟩) hb u1) (p := ⟨b, 2, none⟩) hb u2))
theorem heap_sets {wr : World} (m b k : Nat) (hk : k ≠ b) (u0 u1 u2 : Value) : ((((wr.drewN m).setCell ⟨b, 0, none⟩ u0).setCell ⟨b, 1, none⟩ u1).setCell ⟨b, 2, none⟩ u2).heap[k]? = wr.heap[k]? := by
  rw [Below.heap_setCell _ _ _ _ hk, Below.heap_setCell _ _ _ _ hk, Below.heap_setCell _ _ _ _ hk]
  rfl
theorem heap_set3 {wr : World} (m b : Nat) {v0 v1 v2 : Value} {t : TypeId} {fz : Nat × Nat} (h : wr.heap[b]? = some (.cells #[v0, v1, v2] t fz)) (u0 u1 u2 : Value) : ((((wr.drewN m).setCell ⟨b, 0, none⟩ u0).setCell ⟨b, 1, none⟩ u1).setCell ⟨b, 2, none⟩ u2).heap[b]? = some (.cells #[u0, u1, u2] t fz) := by
  simp [World.setCell, Array.getElem?_modify, h]

set_option maxRecDepth 20000 in
set_option maxHeartbeats 8000000 in
theorem refget_any (t : Tr) (z : List Int) (A : Option Addr) (n c : Nat) (w : World) (hin : t.In w w.heap.size) (hp : Cel w w.heap.size A n (intsZ z)) (hnc : n ≤ c) (hc : c ≤ 9223372036854775807) :
    Calls Try.prog 20 #[t.val, .slice A n c] w fun e w' => e = .returned (getVal (nodeZ t.root z)) ∧ Below w.heap.size w w' := by
  have HI := Lib.hid hin.root
  have HP := Lib.hid hp
  have HPL : Hid (z.length = n) := Lib.hid (by have := hp.1; rwa [List.length_map] at this)
  clear hin hp
  obtain ⟨boot, ra, rc, rs, ⟨nm, pa, pc, ps, ka, kc, ks⟩⟩ := t
  replace HI : Hid ((Nd.mk nm pa pc ps ka kc ks).In w w.heap.size) := HI
  show Calls _ _ #[.agg #[.int .u32 boot, .slice ra rs.length rc, .string nm, .slice pa ps.length pc, .slice ka ks.length kc], .slice A n c] w (fun e w' => e = .returned (getVal (nodeZ (Nd.mk nm pa pc ps ka kc ks) z)) ∧ Below w.heap.size w w')
  obtain ⟨R, hR⟩ : ∃ R, Nd.mk nm pa pc ps ka kc ks = R := ⟨_, rfl⟩
  have HRE := Lib.hid hR
  rw [hR] at HI ⊢
  clear hR
  obtain ⟨b0, b1, b2, b3, b4⟩ := box6_cells w (.int .u32 boot) (.slice ra rs.length rc) (.string nm) (.slice pa ps.length pc) (.slice ka ks.length kc) _ (Below.refl _ _)
  go_enter Try.func20, Try.ntmps20
  go_wp2_with fail
  clear b0 b1 b2 b3 b4
  obtain ⟨g, hg⟩ : ∃ g, g = w.heap.size := ⟨_, rfl⟩
  have HG := Lib.hid hg
  have h1 : (w.alloc (.cells #[.int .u32 boot, .slice ra rs.length rc, .string nm, .slice pa ps.length pc, .slice ka ks.length kc] 29)).heap.size = g + 1 := by simp [hg]
  have h2 : ((w.alloc (.cells #[.int .u32 boot, .slice ra rs.length rc, .string nm, .slice pa ps.length pc, .slice ka ks.length kc] 29)).alloc (.cells #[.string ⟨#[]⟩, .slice none 0 0, .slice none 0 0] 27)).heap.size = g + 1 + 1 := by simp [hg]
  have W0 : Hid ((((w.alloc (.cells #[.int .u32 boot, .slice ra rs.length rc, .string nm, .slice pa ps.length pc, .slice ka ks.length kc] 29)).alloc (.cells #[.string ⟨#[]⟩, .slice none 0 0, .slice none 0 0] 27)).alloc (.cells #[.string nm, .slice pa ps.length pc, .slice ka ks.length kc] 27)).heap[g + 1]? = some (.cells #[.string ⟨#[]⟩, .slice none 0 0, .slice none 0 0] 27 (0, 0)) ∧ (((w.alloc (.cells #[.int .u32 boot, .slice ra rs.length rc, .string nm, .slice pa ps.length pc, .slice ka ks.length kc] 29)).alloc (.cells #[.string ⟨#[]⟩, .slice none 0 0, .slice none 0 0] 27)).alloc (.cells #[.string nm, .slice pa ps.length pc, .slice ka ks.length kc] 27)).heap[g + 1 + 1]? = some (.cells #[.string nm, .slice pa ps.length pc, .slice ka ks.length kc] 27 (0, 0)) ∧ Below g w (((w.alloc (.cells #[.int .u32 boot, .slice ra rs.length rc, .string nm, .slice pa ps.length pc, .slice ka ks.length kc] 29)).alloc (.cells #[.string ⟨#[]⟩, .slice none 0 0, .slice none 0 0] 27)).alloc (.cells #[.string nm, .slice pa ps.length pc, .slice ka ks.length kc] 27))) := Lib.hid ⟨by
      rw [Below.heap_alloc _ _ _ (by rw [h2]; omega), ← h1]
      exact heap_alloc_new _ _, by
      rw [← h2]
      exact heap_alloc_new _ _, by
      have hl : g ≤ w.heap.size := by rw [hg]; exact Nat.le_refl _
      exact (((Below.refl g w).alloc hl (.cells #[.int .u32 boot, .slice ra rs.length rc, .string nm, .slice pa ps.length pc, .slice ka ks.length kc] 29)).alloc (by rw [h1]; omega) (.cells #[.string ⟨#[]⟩, .slice none 0 0, .slice none 0 0] 27)).alloc (by rw [h2]; omega) (.cells #[.string nm, .slice pa ps.length pc, .slice ka ks.length kc] 27)⟩
  rw [← hg] at HI HP ⊢
  clear h1 h2 hg
  go_loopw [12] (fun i wr => ∃ (k : Nat) (x : Nd), k ≤ n ∧ i = .int .i64 k ∧ nodeZ R (z.take k) = some x ∧ wr.heap[g + 1]? = some (.cells #[.string ⟨#[]⟩, .slice none 0 0, .slice none 0 0] 27 (0, 0)) ∧ wr.heap[g + 1 + 1]? = some (.cells #[.string x.name, x.pv, x.kv] 27 (0, 0)) ∧ Below g w wr) (fun i _ => n - (intOf i).toNat)
  case atStart =>
    obtain ⟨a1, a2, a3⟩ := W0.out
    exact ⟨0, R, Nat.zero_le _, rfl, rfl, a1, by rw [← HRE.out]; exact a2, a3⟩
  case round =>
    obtain ⟨k, x, hk, rfl, hx, hz, hbk, hb⟩ := hrel
    have HX := Lib.hid hx
    have HBK := Lib.hid hbk
    have HZC := Lib.hid hz
    have HB := Lib.hid hb
    have y0 : wr.cell? ⟨g + 1, 0, none⟩ = some (.string ⟨#[]⟩) := by rw [Lib.cell_of_heap hz]; rfl
    have y1 : wr.cell? ⟨g + 1, 1, none⟩ = some (.slice none 0 0) := by rw [Lib.cell_of_heap hz]; rfl
    have y2 : wr.cell? ⟨g + 1, 2, none⟩ = some (.slice none 0 0) := by rw [Lib.cell_of_heap hz]; rfl
    have e0 := Lib.frozen_of_heap hz 0
    have e1 := Lib.frozen_of_heap hz 1
    have e2 := Lib.frozen_of_heap hz 2
    have f0 := Lib.frozen_of_heap hbk 0
    have f1 := Lib.frozen_of_heap hbk 1
    have f2 := Lib.frozen_of_heap hbk 2
    have hxin := (nodeZ_in _ HI.out hx).under hb
    by_cases hlt : k < n
    · obtain ⟨pb, po, rfl, _, hcell⟩ := (HP.out.below hb).2 (by omega)
      have ck := hcell k hlt
      have hkp : k < z.length := by rw [HPL.out]; exact hlt
      rw [List.getElem?_map, List.getElem?_eq_getElem hkp] at ck
      have hzt : z.take (k + 1) = z.take k ++ [z[k]] := by rw [List.take_add_one, List.getElem?_eq_getElem hkp]; rfl
      have hzs : nodeZ R z = nodeZ x (z[k] :: z.drop (k + 1)) := by
        have e : z = z.take k ++ (z[k] :: z.drop (k + 1)) := by rw [List.getElem_cons_drop, List.take_append_drop]
        conv => lhs; rw [e, nodeZ_append, hx]
      have hzn : nodeZ R (z.take (k + 1)) = nodeZ x [z[k]] := by rw [hzt, nodeZ_append, hx]
      replace ck : wr.cell? ⟨pb, po + k, none⟩ = some (.int .i64 z[k]) := ck
      generalize z[k] = q at *
      generalize z.drop (k + 1) = zr at *
      have HZS := Lib.hid hzs
      have HZN := Lib.hid hzn
      have hkm := hxin.klen
      have hkl := hxin.name_le.2.2
      have HKC := Lib.hid (fun i (hi : i < x.kids.length) => hxin.kcell hi)
      clear hzt hzs hzn hcell hkp hb hx hz hxin
      obtain ⟨xn, xpa, xpc, xps, xka, xkc, xks⟩ := x
      replace hkm : xks.length ≤ xkc ∧ xkc ≤ 9223372036854775807 := hkm
      replace hkl : xks.length * 64 ≤ 140737488351232 := hkl
      replace hbk : wr.heap[g + 1 + 1]? = some (.cells #[.string xn, .slice xpa xps.length xpc, .slice xka xks.length xkc] 27 (0, 0)) := hbk
      have c0 : wr.cell? ⟨g + 1 + 1, 0, none⟩ = some (.string xn) := by rw [Lib.cell_of_heap hbk]; rfl
      have c1 : wr.cell? ⟨g + 1 + 1, 1, none⟩ = some (.slice xpa xps.length xpc) := by rw [Lib.cell_of_heap hbk]; rfl
      have c2 : wr.cell? ⟨g + 1 + 1, 2, none⟩ = some (.slice xka xks.length xkc) := by rw [Lib.cell_of_heap hbk]; rfl
      clear hbk
      by_cases hq0 : q < 0
      · have q2 : decide (q < 0) = true := decide_eq_true hq0
        have HN : Hid (nodeZ R z = none) := Lib.hid (by rw [HZS.out, nodeZ, if_pos hq0])
        clear hq0
        go_wp2_with fail
        go_quiet (fail)
        go_wp2
        refine bodyPost_ret (v := getVal none) (by simp [results, Try.results20, go_sem, getVal, y0, y1, y2, e0, e1, e2]) rfl ?_
        exact ⟨by rw [HN.out], below_sets (HG.out ▸ HB.out) _ _ (by have := HG.out; omega) _ _ _⟩
      · have q1 : decide (q < 0) = false := decide_eq_false hq0
        by_cases hqk : q.toNat < xks.length
        · obtain ⟨kb, ko, ek, _, d0, d1, d2⟩ := HKC.out _ hqk
          obtain ⟨q, rfl⟩ : ∃ m : Nat, q = (m : Int) := ⟨q.toNat, by omega⟩
          simp only [Int.toNat_natCast] at hqk d0 d1 d2
          obtain rfl : xka = _ := ek
          have q2 : decide ((q : Int) ≥ (xks.length : Int)) = false := decide_eq_false (by omega)
          have q3 : ¬ ((q : Int) ≥ (xks.length : Int)) := by omega
          have HNX : Hid (nodeZ R (z.take (k + 1)) = some xks[q]) := Lib.hid (by
            rw [HZN.out, nodeZ, if_neg (by omega)]
            simp only [Int.toNat_natCast, Nd.kids, List.getElem?_eq_getElem hqk]
            rfl)
          replace d0 : wr.cell? ⟨kb, ko + q * 3, none⟩ = some (.string xks[q].name) := d0
          replace d1 : wr.cell? ⟨kb, ko + q * 3 + 1, none⟩ = some xks[q].pv := d1
          replace d2 : wr.cell? ⟨kb, ko + q * 3 + 2, none⟩ = some xks[q].kv := d2
          obtain ⟨y, hy⟩ : ∃ y, xks[q] = y := ⟨_, rfl⟩
          rw [hy] at HNX d0 d1 d2
          clear hy HKC HZS HZN HX
          obtain ⟨yn, ypa, ypc, yps, yka, ykc, yks⟩ := y
          replace d0 : wr.cell? ⟨kb, ko + q * 3, none⟩ = some (.string yn) := d0
          replace d1 : wr.cell? ⟨kb, ko + q * 3 + 1, none⟩ = some (.slice ypa yps.length ypc) := d1
          replace d2 : wr.cell? ⟨kb, ko + q * 3 + 2, none⟩ = some (.slice yka yks.length ykc) := d2
          generalize xks.length = xkl at *
          go_wp2_with fail
          go_quiet (fail)
          go_wp2_with fail
          go_region
          go_wp2
          go_roundw
          case rel => exact ⟨k + 1, Nd.mk yn ypa ypc yps yka ykc yks, by omega, by go_num, HNX.out, (heap_sets _ _ _ (by omega) _ _ _).trans HZC.out, heap_set3 _ _ HBK.out _ _ _, below_sets HB.out _ _ (by omega) _ _ _⟩
          case measure => simp [intOf]; omega
        · have q2 : decide (q ≥ (xks.length : Int)) = true := decide_eq_true (by omega)
          have HN : Hid (nodeZ R z = none) := Lib.hid (by
            rw [HZS.out, nodeZ, if_neg hq0]
            simp only [Nd.kids, List.getElem?_eq_none (Nat.le_of_not_lt hqk)])
          clear hq0 hqk
          generalize xks.length = xkl at *
          go_wp2_with fail
          go_quiet (fail)
          go_wp2
          refine bodyPost_ret (v := getVal none) (by simp [results, Try.results20, go_sem, getVal, y0, y1, y2, e0, e1, e2]) rfl ?_
          exact ⟨by rw [HN.out], below_sets (HG.out ▸ HB.out) _ _ (by have := HG.out; omega) _ _ _⟩
    · obtain rfl : k = n := by omega
      have HT : Hid (nodeZ R z = some x) := Lib.hid (by
        have e : z.take k = z := List.take_of_length_le (by rw [HPL.out]; exact Nat.le_refl _)
        rw [← hx, e])
      clear hxin hx hz hb
      obtain ⟨xn, xpa, xpc, xps, xka, xkc, xks⟩ := x
      replace hbk : wr.heap[g + 1 + 1]? = some (.cells #[.string xn, .slice xpa xps.length xpc, .slice xka xks.length xkc] 27 (0, 0)) := hbk
      have c0 : wr.cell? ⟨g + 1 + 1, 0, none⟩ = some (.string xn) := by rw [Lib.cell_of_heap hbk]; rfl
      have c1 : wr.cell? ⟨g + 1 + 1, 1, none⟩ = some (.slice xpa xps.length xpc) := by rw [Lib.cell_of_heap hbk]; rfl
      have c2 : wr.cell? ⟨g + 1 + 1, 2, none⟩ = some (.slice xka xks.length xkc) := by rw [Lib.cell_of_heap hbk]; rfl
      clear hbk
      go_wp2
      refine bodyPost_ret (v := getVal (some (Nd.mk xn xpa xpc xps xka xkc xks))) (by simp [results, Try.results20, go_sem, getVal, y0, y1, y2, e0, e1, e2, Nd.val, Nd.name, Nd.pv, Nd.kv, Nd.pa, Nd.pc, Nd.props, Nd.ka, Nd.kc, Nd.kids]) rfl ?_
      exact ⟨by rw [HT.out], below_sets (HG.out ▸ HB.out) 0 _ (by have := HG.out; omega) _ _ _⟩
end Go.Proofs.Ytijhjlpkbnajpaa

/-! Rows of two cells an element: what a call has made shows them; append of one literal. -/
namespace Go.Proofs.Ytijhjlpkbnajpaa
open Go.RowKit
set_option linter.unusedVariables false
set_option linter.unusedSimpArgs false

/-- A slice shows these pairs of values, two cells each, in a block below B. -/
def Cel2 (w : World) (B : Nat) (A : Option Addr) (n : Nat) (xs : List (Value × Value)) : Prop :=
  xs.length = n ∧ (0 < n → ∃ b o, A = some ⟨b, o, none⟩ ∧ b < B ∧ ∀ i (h : i < xs.length), w.cell? ⟨b, o + i * 2, none⟩ = some xs[i].1 ∧ w.cell? ⟨b, o + i * 2 + 1, none⟩ = some xs[i].2)
section
variable {w w' : World} {B B' n : Nat} {A : Option Addr} {xs : List (Value × Value)}
theorem Cel2.nil (w : World) (B : Nat) (A : Option Addr) : Cel2 w B A 0 [] := ⟨rfl, fun h => absurd h (Nat.lt_irrefl 0)⟩
theorem Cel2.keep (h : Cel2 w B A n xs) (hk : ∀ p : Addr, p.block < B → w'.cell? p = w.cell? p) : Cel2 w' B A n xs :=
  ⟨h.1, fun hn => by
    obtain ⟨b, o, e, hb, hc⟩ := h.2 hn
    exact ⟨b, o, e, hb, fun i hi => ⟨(hk _ hb).trans (hc i hi).1, (hk _ hb).trans (hc i hi).2⟩⟩⟩
theorem Cel2.below (h : Cel2 w B A n xs) (hb : Below B w w') : Cel2 w' B A n xs := h.keep fun _ hp => hb.cell hp
theorem Cel2.more (h : Cel2 w B A n xs) (hB : B ≤ B') : Cel2 w B' A n xs :=
  ⟨h.1, fun hn => by
    obtain ⟨b, o, e, hb, hc⟩ := h.2 hn
    exact ⟨b, o, e, by omega, hc⟩⟩
theorem Cel2.on (h : Cel2 w w.heap.size A n xs) (hb : Below w.heap.size w w') : Cel2 w' w'.heap.size A n xs := (h.below hb).more hb.size
end
/-- Pairs, cell by cell. -/
def flat2 (xs : List (Value × Value)) : List Value := xs.flatMap fun x => [x.1, x.2]
theorem flat2_length (xs : List (Value × Value)) : (flat2 xs).length = xs.length * 2 := by
  induction xs with
  | nil => rfl
  | cons x r ih =>
    have e : flat2 (x :: r) = [x.1, x.2] ++ flat2 r := by simp [flat2]
    rw [e, List.length_append, ih]; simp; omega
theorem flat2_app (xs : List (Value × Value)) (x : Value × Value) : flat2 (xs ++ [x]) = flat2 xs ++ [x.1, x.2] := by simp [flat2]
theorem flat2_at : ∀ (xs : List (Value × Value)) (i : Nat) (h : i < xs.length), (flat2 xs)[i * 2]? = some xs[i].1 ∧ (flat2 xs)[i * 2 + 1]? = some xs[i].2
  | x :: r, 0, _ => by simp [flat2]
  | x :: r, i + 1, h => by
    have e : flat2 (x :: r) = x.1 :: x.2 :: flat2 r := by simp [flat2]
    have ih := flat2_at r i (by simpa using h)
    rw [e, show (i + 1) * 2 = i * 2 + 1 + 1 by omega]
    simpa using ih
/-- What a call has made shows its pairs. -/
theorem owned_cel2 {w : World} {base n : Nat} {e : TypeId} {v : Value} {xs : List (Value × Value)} (h : w.ownsRow base e 2 v n (flat2 xs)) : ∃ A c, v = .slice A n c ∧ Cel2 w w.heap.size A n xs ∧ n ≤ c ∧ c ≤ 9223372036854775807 ∧ (∀ b, v.ownBlock = some b → base ≤ b ∧ b < w.heap.size) := by
  obtain ⟨hl, ⟨rfl, rfl⟩ | ⟨g, cap, cur, rfl, hb, hg, hnc, hcm, hsz, htk⟩⟩ := h
  · rw [flat2_length] at hl
    obtain rfl : xs = [] := List.eq_nil_of_length_eq_zero (by omega)
    exact ⟨none, 0, rfl, Cel2.nil _ _ _, Nat.le_refl _, by omega, fun b h => by simp [Value.ownBlock] at h⟩
  · rw [flat2_length] at hl
    have hlz : xs.length = n := by omega
    have hlt := (Array.getElem?_eq_some_iff.1 hg).1
    have hcell : ∀ k, k < n * 2 → w.cell? ⟨g, k, none⟩ = (flat2 xs)[k]? := fun k hk => by
      have h1 : (flat2 xs)[k]? = cur[k]? := by
        rw [← htk, List.getElem?_take_of_lt hk, Array.getElem?_toList]
      rw [h1]
      simp [World.cell?, hg]
    refine ⟨_, cap, rfl, ⟨hlz, fun hn => ⟨g, 0, rfl, hlt, fun i hi => ?_⟩⟩, hnc, hcm, fun b h => ?_⟩
    · obtain ⟨a1, a2⟩ := flat2_at xs i hi
      rw [Nat.zero_add, hcell _ (by omega), hcell _ (by omega)]
      exact ⟨a1, a2⟩
    · simp [Value.ownBlock] at h
      omega
/-- append of one pair, laid by the call itself. -/
theorem app_pair {t e : TypeId} {i0 : TypeInfo} {z : Value} {bytes : Nat} (ht : Try.prog.underlying t = some (.slice e)) (hi : Try.prog.info? e = some i0) (hz : i0.zero = some z) (hs1 : i0.size = 2) (hby : i0.bytes = bytes) (hzs : z.cells.size = 2)
    {w : World} {B n : Nat} {v : Value} {xs : List (Value × Value)} (h : w.ownsRow B e 2 v n (flat2 xs)) (x : Value × Value) (hx : x.1.oneCell' = true) (hx2 : x.2.oneCell' = true) (hbig : (n + 1) * bytes ≤ 140737488355328) (hlen : n + 1 ≤ 140737488355328) (hB : B ≤ w.heap.size) (ty : TypeId) :
    ∃ A' c' w', (Builtin.append_ #[t, t] ty #[v, .slice (some ⟨w.heap.size, 0, none⟩) 1 1]).run Try.prog (w.alloc (.cells #[x.1, x.2] e)) = .ok (.slice A' (n + 1) c') w' ∧ w'.ownsRow B e 2 (.slice A' (n + 1) c') (n + 1) (flat2 (xs ++ [x])) ∧ Below B w w' ∧ w.grownBy w' v.ownBlock ∧ ((Value.slice A' (n + 1) c').ownBlock = v.ownBlock ∨ (Value.slice A' (n + 1) c').ownBlock = some (w.heap.size + 1)) := by
  have h1 : (w.alloc (.cells #[x.1, x.2] e)).ownsRow B e 2 v n (flat2 xs) := h.alloc _
  have hb1 := (Below.refl B w).alloc hB (.cells #[x.1, x.2] e)
  obtain ⟨v', w', r1, r2, r3, _, r5⟩ := run_append_own_at (P := Try.prog) (w.alloc (.cells #[x.1, x.2] e)) B t ty e i0 z 2 bytes ht hi hz hs1 hby hzs (by omega) v _ (flat2 xs) h1 ⟨w.heap.size, 0, none⟩ 1 1 [x.1, x.2] rfl
    (fun j u hu => by
      rw [addr_add, Nat.zero_add, World.cell?_alloc_new]
      rcases j with _ | _ | j
      · simpa using hu
      · simpa using hu
      · simp at hu)
    (fun u hu => by
      rcases List.mem_cons.1 hu with rfl | hu
      · exact hx
      · rw [List.mem_singleton.1 hu]; exact hx2) (by unfold maxLen; omega) hbig (by simp; omega)
  have r2' : w'.ownsRow B e 2 v' (n + 1) (flat2 (xs ++ [x])) := by rw [flat2_app]; exact r2
  obtain ⟨A', c', rfl, _⟩ := owned_cel2 r2'
  refine ⟨A', c', w', r1, r2', hb1.grown r3 (by simp; omega) (fun q hq => (h1.lt q hq).1), ?_, by simpa using r5⟩
  have hg0 := World.grownBy_alloc w (.cells #[x.1, x.2] e) v.ownBlock
  exact ⟨r3.os.trans hg0.os, r3.tape.trans hg0.tape, r3.output.trans hg0.output, Nat.le_trans hg0.size r3.size, fun k hk hne => (r3.block k (Nat.lt_of_lt_of_le hk hg0.size) hne).trans (hg0.block k hk hne)⟩
end Go.Proofs.Ytijhjlpkbnajpaa

/-! All handles of a tree: the document's answer. -/
namespace Go.Proofs.Ytijhjlpkbnajpaa
open Go.RowKit
set_option linter.unusedVariables false
set_option linter.unusedSimpArgs false

/-- A pair of values shows a handle, and a place below block B. -/
def RefV (w : World) (B : Nat) (x : Value × Value) (r : Int × List Nat) : Prop :=
  x.1 = .int .u32 r.1 ∧ ∃ A c, x.2 = .slice A r.2.length c ∧ Cel w B A r.2.length (ints r.2) ∧ r.2.length ≤ c ∧ c ≤ 9223372036854775807
theorem RefV.below {w w' : World} {B : Nat} {x : Value × Value} {r : Int × List Nat} (h : RefV w B x r) (hb : Below B w w') : RefV w' B x r := by
  obtain ⟨e, A, c, e2, h1, h2⟩ := h
  exact ⟨e, A, c, e2, h1.below hb, h2⟩
theorem RefV.more {w : World} {B B' : Nat} {x : Value × Value} {r : Int × List Nat} (h : RefV w B x r) (hB : B ≤ B') : RefV w B' x r := by
  obtain ⟨e, A, c, e2, h1, h2⟩ := h
  exact ⟨e, A, c, e2, h1.more hB, h2⟩
/-- A slice shows these handles. -/
def RefShow (w : World) (B : Nat) (A : Option Addr) (n : Nat) (rs : List (Int × List Nat)) : Prop :=
  ∃ vs, Cel2 w B A n vs ∧ Two (RefV w B) vs rs
theorem RefShow.on {w w' : World} {A : Option Addr} {n : Nat} {rs : List (Int × List Nat)} (h : RefShow w w.heap.size A n rs) (hb : Below w.heap.size w w') : RefShow w' w'.heap.size A n rs := by
  obtain ⟨vs, h1, h2⟩ := h
  exact ⟨vs, h1.on hb, h2.mono fun v p hv => (hv.below hb).more hb.size⟩
theorem RefShow.len {w : World} {B : Nat} {A : Option Addr} {n : Nat} {rs : List (Int × List Nat)} (h : RefShow w B A n rs) : rs.length = n := by
  obtain ⟨vs, h1, h2⟩ := h
  rw [← h2.len, h1.1]
theorem RefShow.nil (w : World) (B : Nat) (A : Option Addr) : RefShow w B A 0 [] := ⟨[], Cel2.nil _ _ _, .nil⟩
/-- One of them. -/
theorem RefShow.at_ {w : World} {B : Nat} {A : Option Addr} {n : Nat} {rs : List (Int × List Nat)} (h : RefShow w B A n rs) {i : Nat} (hi : i < rs.length) : ∃ b o A2 c2, A = some ⟨b, o, none⟩ ∧ b < B ∧ w.cell? ⟨b, o + i * 2, none⟩ = some (.int .u32 rs[i].1) ∧ w.cell? ⟨b, o + i * 2 + 1, none⟩ = some (.slice A2 rs[i].2.length c2) ∧ Cel w B A2 rs[i].2.length (ints rs[i].2) ∧ rs[i].2.length ≤ c2 ∧ c2 ≤ 9223372036854775807 := by
  obtain ⟨vs, h1, h2⟩ := h
  have hl := h2.len
  obtain ⟨b, o, e, hb, hc⟩ := h1.2 (by rw [← h1.1]; omega)
  have hv : i < vs.length := by omega
  obtain ⟨d1, d2⟩ := hc i hv
  obtain ⟨e1, A2, c2, e2, h3, h4, h5⟩ := h2.get i hv hi
  exact ⟨b, o, A2, c2, e, hb, by rw [d1, e1], by rw [d2, e2], h3, h4, h5⟩

theorem nodeAt_heft : ∀ (p : List Nat) {n x : Nd}, nodeAt n p = some x → heftN x ≤ heftN n
  | [], n, x, h => by rw [nodeAt] at h; rw [Option.some.inj h]; exact Nat.le_refl _
  | i :: p, n, x, h => by
    obtain ⟨hi, e⟩ := nodeAt_some h
    have h1 := nodeAt_heft p e
    have h2 := heftL_next n.kids i hi
    have h3 := heftL_take n.kids (i + 1)
    have h4 : heftN n = 16 + n.name.size + (n.props.map heftP).sum + heftL n.kids := by cases n; rw [heftN]; rfl
    omega
theorem info_ref : (Try.prog.info? 45).map (fun i => (i.zero, i.size, i.bytes)) = some (some (.agg #[.int .u32 0, .slice none 0 0]), 2, 32) := by kernel_rfl
theorem oneV_range {w : World} {B : Nat} {n : Nd} (hin : n.In w B) (s : ByteArray) : 0 ≤ (oneV n s).1 ∧ (oneV n s).1 ≤ 4294967295 := by
  unfold oneV
  split
  · exact ⟨by decide, by decide⟩
  · rename_i p hp
    split
    · exact numTo_u32 (hin.prop (List.mem_of_find?_eq_some hp)).2.1 0
    · exact ⟨by decide, by decide⟩


theorem refsFrom_range {w : World} {B : Nat} {root : Nd} (hin : root.In w B) : ∀ (l : List (List Nat)) (acc : List (Int × List Nat)), (∀ x ∈ acc, 0 ≤ x.1 ∧ x.1 ≤ 4294967295) → ∀ x ∈ (refsFrom root acc l).1, 0 ≤ x.1 ∧ x.1 ≤ 4294967295
  | [], acc, h => h
  | p :: r, acc, h => by
    rw [refsFrom]
    by_cases h1 : (refStep root acc p).2 = 0
    · rw [if_pos h1]
      refine refsFrom_range hin r _ ?_
      unfold refStep at h1 ⊢
      split at h1
      · exact h
      · rename_i n hn
        have hr := oneV_range (nodeAt_in p hin hn) phName
        by_cases g1 : (oneV n phName).2.2 ≠ 0
        · rw [if_pos g1] at h1; exact absurd h1 g1
        rw [if_neg g1] at h1 ⊢
        by_cases g2 : (oneV n phName).2.1 = false
        · rw [if_pos g2]; exact h
        rw [if_neg g2] at h1 ⊢
        by_cases g3 : (oneV n phName).1 = 0 ∨ (oneV n phName).1 = 4294967295
        · rw [if_pos g3] at h1; exact absurd h1 (by decide)
        rw [if_neg g3] at h1 ⊢
        by_cases g4 : acc.any (fun x => decide (x.1 = (oneV n phName).1)) = true
        · rw [if_pos g4] at h1; exact absurd h1 (by decide)
        rw [if_neg g4]
        intro x hx
        rcases List.mem_append.1 hx with hx | hx
        · exact h x hx
        · rw [List.mem_singleton.1 hx]; exact hr
    · rw [if_neg h1]; intro x hx; cases hx
theorem refsOf_range {w : World} {B : Nat} {root : Nd} (hin : root.In w B) : ∀ x ∈ (refsOf root).1, 0 ≤ x.1 ∧ x.1 ≤ 4294967295 := refsFrom_range hin _ _ (fun x hx => by cases hx)

set_option maxRecDepth 20000 in
set_option maxHeartbeats 8000000 in
theorem refindex_any (t : Tr) (w : World) (hin : t.In w w.heap.size) (hh : heftN t.root ≤ 134217728) :
    Calls Try.prog 9 #[t.val] w fun e w' => (∃ A n c, e = .returned (.tuple #[.slice A n c, .int .i64 (refsOf t.root).2]) ∧ RefShow w' w'.heap.size A n (refsOf t.root).1 ∧ n ≤ c ∧ c ≤ 9223372036854775807) ∧ Below w.heap.size w w' := by
  have CG := Lib.hid (fun (p : List Nat) A n c W (hW : Below w.heap.size w W) (hp : Cel W W.heap.size A n (ints p)) h1 h2 => refget_any t (p.map Int.ofNat) A n c W (hin.on hW) (by rw [← ints_eq]; exact hp) h1 h2)
  have CA := Lib.hid (fun W (hW : Below w.heap.size w W) => refall_any t.root [] none 0 0 W (hin.on hW).root rfl (Cel.nil _ _ _) (Nat.le_refl _) (by omega) (by omega))
  have HI := Lib.hid hin.root
  have HH := Lib.hid hh
  have HSUM : Hid (refsFrom t.root [] (placesN t.root []) = refsOf t.root) := Lib.hid rfl
  have HIN : Hid (∀ p ∈ placesN t.root [], ∃ x, nodeAt t.root p = some x) := Lib.hid fun p hp => place_node hp
  have HPN : Hid ((placesN t.root []).length ≤ 134217728) := Lib.hid (Nat.le_trans (places_len t.root []).1 hh)
  obtain ⟨PS, hPS⟩ : ∃ PS, placesN t.root [] = PS := ⟨_, rfl⟩
  obtain ⟨RS, hRS⟩ : ∃ RS, refsOf t.root = RS := ⟨_, rfl⟩
  rw [hPS] at CA HSUM HIN HPN
  rw [hRS] at HSUM ⊢
  clear hin hh hPS hRS
  obtain ⟨boot, ra, rc, rs, ⟨nm, pa, pc, ps, ka, kc, ks⟩⟩ := t
  replace HI : Hid ((Nd.mk nm pa pc ps ka kc ks).In w w.heap.size) := HI
  replace HH : Hid (heftN (Nd.mk nm pa pc ps ka kc ks) ≤ 134217728) := HH
  replace HSUM : Hid (refsFrom (Nd.mk nm pa pc ps ka kc ks) [] PS = RS) := HSUM
  replace HIN : Hid (∀ p ∈ PS, ∃ x, nodeAt (Nd.mk nm pa pc ps ka kc ks) p = some x) := HIN
  replace CA : Hid (∀ W (hW : Below w.heap.size w W), Calls Try.prog 19 #[.agg #[.string nm, .slice pa ps.length pc, .slice ka ks.length kc], .slice none 0 0] W fun e w' => (∃ v, e = .returned v ∧ PlRow w' W.heap.size v PS) ∧ Below W.heap.size W w') := CA
  replace CG : Hid (∀ (p : List Nat) A n c W (hW : Below w.heap.size w W) (hp : Cel W W.heap.size A n (ints p)) (h1 : n ≤ c) (h2 : c ≤ 9223372036854775807), Calls Try.prog 20 #[.agg #[.int .u32 boot, .slice ra rs.length rc, .string nm, .slice pa ps.length pc, .slice ka ks.length kc], .slice A n c] W fun e w' => e = .returned (getVal (nodeZ (Nd.mk nm pa pc ps ka kc ks) (p.map Int.ofNat))) ∧ Below W.heap.size W w') := CG
  show Calls _ _ #[.agg #[.int .u32 boot, .slice ra rs.length rc, .string nm, .slice pa ps.length pc, .slice ka ks.length kc]] _ _
  obtain ⟨R, hR⟩ : ∃ R, Nd.mk nm pa pc ps ka kc ks = R := ⟨_, rfl⟩
  rw [hR] at HI HH HSUM HIN CG
  clear hR
  have HB := Lib.hid ((Below.refl w.heap.size w).alloc (Nat.le_refl _) (.cells #[.int .u32 boot, .slice ra rs.length rc, .string nm, .slice pa ps.length pc, .slice ka ks.length kc] 29))
  obtain ⟨b0, b1, b2, b3, b4⟩ := box6_cells w (.int .u32 boot) (.slice ra rs.length rc) (.string nm) (.slice pa ps.length pc) (.slice ka ks.length kc) _ (Below.refl _ _)
  have BX := Lib.hid (box6_cells w (.int .u32 boot) (.slice ra rs.length rc) (.string nm) (.slice pa ps.length pc) (.slice ka ks.length kc))
  go_enter Try.func9, Try.ntmps9
  go_wp2_with fail
  refine (CA.out _ HB.out).mono ?_
  rintro e w1 ⟨⟨v1, rfl, hr1⟩, hb⟩
  obtain ⟨A1, c1, rfl, s1, l1, m1⟩ := hr1.show
  have HB1 := Lib.hid (HB.out.trans (hb.mono HB.out.size))
  have HX1 := Lib.hid (hb.mono (B' := w.heap.size + 1) (by simp))
  have HS1 := Lib.hid s1
  obtain ⟨N, hN⟩ : ∃ N, PS.length = N := ⟨_, rfl⟩
  have HN := Lib.hid hN
  rw [hN] at l1 HS1
  rw [hN]
  have hN2 : N ≤ 134217728 := by rw [← hN]; exact HPN.out
  clear hb hr1 s1 b0 b1 b2 b3 b4 hN CA
  go_wp2_with fail
  go_loopw [4, 18] (fun out i wr => ∃ (k : Nat) (acc : List (Int × List Nat)) (vs : List (Value × Value)), k ≤ N ∧ i = .int .i64 k ∧ wr.ownsRow w1.heap.size 45 2 out acc.length (flat2 vs) ∧ Two (RefV wr w1.heap.size) vs acc ∧ refsFrom R acc (PS.drop k) = RS ∧ acc.length ≤ k ∧ Below w1.heap.size w1 wr) (fun _ i _ => N - (intOf i).toNat)
  case atStart => exact ⟨0, [], [], Nat.zero_le _, rfl, World.ownsRow_nil _ _ _ _, .nil, HSUM.out, Nat.le_refl _, Below.refl _ _⟩
  case round =>
    obtain ⟨k, acc, vs, hk, rfl, hown, htwo, hsum, hal, hb⟩ := hrel
    have HO := Lib.hid hown
    have HT := Lib.hid htwo
    have HQ := Lib.hid hsum
    have HBX := Lib.hid hb
    have HBS := Lib.hid hb.size
    have hvl := htwo.len
    obtain ⟨Ao, co, rfl, hcel, hco1, hco2, hob⟩ := owned_cel2 hown
    by_cases hlt : k < N
    · obtain ⟨ws, hw1, hw2⟩ := HS1.out
      have hkp : k < PS.length := by rw [HN.out]; exact hlt
      have hkw : k < ws.length := by rw [hw2.len]; exact hkp
      obtain ⟨b, o, e, hblt, hc⟩ := hw1.2 (by omega)
      obtain rfl : A1 = _ := e
      have ck := hc k hlt
      rw [List.getElem?_eq_getElem hkw] at ck
      obtain ⟨Bk, m, e1, hp1, hm1, hm1', hq7⟩ := hw2.get k hkw hkp
      clear hq7
      rw [e1] at ck
      have hdrop : PS.drop k = PS[k] :: PS.drop (k + 1) := (List.getElem_cons_drop (h := hkp)).symm
      have hmem := List.getElem_mem hkp
      obtain ⟨P, hPk⟩ : ∃ P, PS[k] = P := ⟨_, rfl⟩
      rw [hPk] at ck hp1 hm1 hmem hdrop
      obtain ⟨x, hx⟩ := HIN.out P hmem
      obtain ⟨pl, hpl⟩ : ∃ pl, P.length = pl := ⟨_, rfl⟩
      have HP1 := Lib.hid (show Cel wr w1.heap.size Bk pl (ints P) from by rw [← hpl]; exact hp1.below hb)
      have HPL := Lib.hid hpl
      rw [hpl] at ck hm1
      have HPM := Lib.hid (And.intro hm1 hm1')
      have HXI := Lib.hid (nodeAt_in _ HI.out hx)
      have HXH := Lib.hid (Nat.le_trans (nodeAt_heft _ hx) HH.out)
      have HDR := Lib.hid hdrop
      have HXR := Lib.hid (oneV_range HXI.out phName)
      have HST : Hid (refStep R acc P = if (oneV x phName).2.2 ≠ 0 then ([], (oneV x phName).2.2) else if (oneV x phName).2.1 = false then (acc, 0) else if (oneV x phName).1 = 0 ∨ (oneV x phName).1 = 4294967295 then ([], 11) else if acc.any (fun y => decide (y.1 = (oneV x phName).1)) = true then ([], 9) else (acc ++ [((oneV x phName).1, P)], 0)) := Lib.hid (by unfold refStep; rw [hx])
      have HSR : Hid (if (refStep R acc P).2 = 0 then refsFrom R (refStep R acc P).1 (PS.drop (k + 1)) = RS else RS = ([], (refStep R acc P).2)) := Lib.hid (by
        have h1 := hsum
        rw [hdrop, refsFrom] at h1
        by_cases h0 : (refStep R acc P).2 = 0
        · rw [if_pos h0] at h1 ⊢; exact h1
        · rw [if_neg h0] at h1 ⊢; exact h1.symm)
      have HBW := Lib.hid (HB1.out.trans (hb.mono HB1.out.size))
      have HS : Hid (∀ W, Below wr.heap.size wr W → (W.cell? ⟨w.heap.size, 0, none⟩ = some (.int .u32 boot) ∧ W.cell? ⟨w.heap.size, 1, none⟩ = some (.slice ra rs.length rc) ∧ W.cell? ⟨w.heap.size, 2, none⟩ = some (.string nm) ∧ W.cell? ⟨w.heap.size, 3, none⟩ = some (.slice pa ps.length pc) ∧ W.cell? ⟨w.heap.size, 4, none⟩ = some (.slice ka ks.length kc) ∧ W.cell? ⟨b, o + k, none⟩ = some (Value.slice Bk pl m))) := Lib.hid (fun W hW => by
        have hW1 := hb.trans (hW.mono hb.size)
        obtain ⟨b0, b1, b2, b3, b4⟩ := BX.out W (HX1.out.trans (hW1.mono (by have := HX1.out.size; simpa using this)))
        exact ⟨b0, b1, b2, b3, b4, (hW1.cell (p := ⟨b, o + k, none⟩) hblt).trans ck⟩)
      have CG1 := Lib.hid (fun W (hW : Below wr.heap.size wr W) => CG.out P Bk pl m W (HBW.out.trans (hW.mono HBW.out.size)) ((HP1.out.more HBS.out).on hW) HPM.out.1 HPM.out.2)
      rw [nodeZ_nat, hx] at CG1
      have HONE := Lib.hid (fun W (hW : Below w.heap.size w W) => refone_any x phName W ((HXI.out.under hW).more hW.size) (Nat.le_trans HXH.out (by omega)))
      obtain ⟨hv, fl, er, hov⟩ : ∃ hv fl er, oneV x phName = (hv, fl, er) := ⟨_, _, _, rfl⟩
      rw [hov] at HONE HST HXR
      simp only [oneVal] at HONE HST HXR
      clear hw1 hw2 hkw hc hp1 hpl hmem hPk hkp e1 hdrop hown htwo hsum hb hx hov HXH CG
      obtain ⟨xn, xpa, xpc, xps, xka, xkc, xks⟩ := x
      replace CG1 : Hid (∀ W (hW : Below wr.heap.size wr W), Calls Try.prog 20 #[.agg #[.int .u32 boot, .slice ra rs.length rc, .string nm, .slice pa ps.length pc, .slice ka ks.length kc], .slice Bk pl m] W fun e w' => e = .returned (.tuple #[.agg #[.string xn, .slice xpa xps.length xpc, .slice xka xks.length xkc], .bool true]) ∧ Below W.heap.size W w') := CG1
      replace HONE : Hid (∀ W (hW : Below w.heap.size w W), Calls Try.prog 21 #[.agg #[.string xn, .slice xpa xps.length xpc, .slice xka xks.length xkc], .string ⟨#[112, 104, 97, 110, 100, 108, 101]⟩] W fun e w' => e = .returned (.tuple #[.int .u32 hv, .bool fl, .int .i64 er]) ∧ Below W.heap.size W w') := HONE
      generalize xks.length = xkl at *
      generalize xps.length = xpl at *
      have HD := Lib.hid (Below.refl wr.heap.size wr).drew
      go_wp2_with fail
      refine wp_region_held_drew (S := fun W => W.cell? ⟨w.heap.size, 0, none⟩ = some (.int .u32 boot) ∧ W.cell? ⟨w.heap.size, 1, none⟩ = some (.slice ra rs.length rc) ∧ W.cell? ⟨w.heap.size, 2, none⟩ = some (.string nm) ∧ W.cell? ⟨w.heap.size, 3, none⟩ = some (.slice pa ps.length pc) ∧ W.cell? ⟨w.heap.size, 4, none⟩ = some (.slice ka ks.length kc) ∧ W.cell? ⟨b, o + k, none⟩ = some (Value.slice Bk pl m)) (by kernel_rfl) (HS.out _ HD.out) (fun hHeld => ?_)
      refine held_take 0 rfl (by kernel_rfl) (by kernel_rfl) (by kernel_rfl) (fun _ _ _ h => h) (by rfl) hHeld (v := ?_) (fun w hSw => ?_) (fun _ => ?_)
      rotate_left
      · ((try dsimp only at hSw); go_simp; (try with_reducible rfl))
      simp only [Act.put, List.setIfInBounds_toArray, List.set_cons_zero, List.set_cons_succ]
      refine held_take 1 rfl (by kernel_rfl) (by kernel_rfl) (by kernel_rfl) (fun _ _ _ h => h) (by rfl) hHeld (v := ?_) (fun w hSw => ?_) (fun _ => ?_)
      rotate_left
      · ((try dsimp only at hSw); go_simp; (try with_reducible rfl))
      simp only [Act.put, List.setIfInBounds_toArray, List.set_cons_zero, List.set_cons_succ]
      refine held_take 2 rfl (by kernel_rfl) (by kernel_rfl) (by kernel_rfl) (fun _ _ _ h => h) (by rfl) hHeld (v := ?_) (fun w hSw => ?_) (fun _ => ?_)
      rotate_left
      · ((try dsimp only at hSw); go_simp; (try with_reducible rfl))
      simp only [Act.put, List.setIfInBounds_toArray, List.set_cons_zero, List.set_cons_succ]
      refine held_take 3 rfl (by kernel_rfl) (by kernel_rfl) (by kernel_rfl) (fun _ _ _ h => h) (by rfl) hHeld (v := ?_) (fun w hSw => ?_) (fun _ => ?_)
      rotate_left
      · ((try dsimp only at hSw); go_simp; (try with_reducible rfl))
      simp only [Act.put, List.setIfInBounds_toArray, List.set_cons_zero, List.set_cons_succ]
      refine held_take 4 rfl (by kernel_rfl) (by kernel_rfl) (by kernel_rfl) (fun _ _ _ h => h) (by rfl) hHeld (v := ?_) (fun w hSw => ?_) (fun _ => ?_)
      rotate_left
      · ((try dsimp only at hSw); go_simp; (try with_reducible rfl))
      simp only [Act.put, List.setIfInBounds_toArray, List.set_cons_zero, List.set_cons_succ]
      refine held_two 5 9 (by kernel_rfl) rfl rfl (by rfl) (by rfl) (fun K hK => ?_) (fun K hK => ?_)
      · go_simp
        refine (CG1.out _ HD.out).mono ?_
        rintro e w2 ⟨rfl, hb2⟩
        have HD2 := Lib.hid (HD.out.trans hb2)
        clear hb2
        dsimp only
        refine hK.out _ _ (HS.out _ HD2.out) (fun hHeld => ?_)
        clear hK K
        refine held_take 6 rfl (by kernel_rfl) (by kernel_rfl) (by kernel_rfl) (fun _ _ _ h => h) (by rfl) hHeld (v := ?_) (fun w hSw => ?_) (fun _ => ?_)
        rotate_left
        · ((try dsimp only at hSw); go_simp; (try with_reducible rfl))
        simp only [Act.put, List.setIfInBounds_toArray, List.set_cons_zero, List.set_cons_succ]
        refine held_take 7 rfl (by kernel_rfl) (by kernel_rfl) (by kernel_rfl) (fun _ _ _ h => h) (by rfl) hHeld (v := ?_) (fun w hSw => ?_) (fun _ => ?_)
        rotate_left
        · ((try dsimp only at hSw); go_simp; (try with_reducible rfl))
        simp only [Act.put, List.setIfInBounds_toArray, List.set_cons_zero, List.set_cons_succ]
        refine held_take 8 rfl (by kernel_rfl) (by kernel_rfl) (by kernel_rfl) (fun _ _ _ h => h) (by rfl) hHeld (v := ?_) (fun w hSw => ?_) (fun _ => ?_)
        rotate_left
        · ((try dsimp only at hSw); go_simp; (try with_reducible rfl))
        simp only [Act.put, List.setIfInBounds_toArray, List.set_cons_zero, List.set_cons_succ]
        refine held_call 9 (by kernel_rfl) rfl (by rfl) (fun K hK => ?_)
        go_simp
        refine hK.out _ _ (HS.out _ (HD2.out.alloc HD2.out.size _)) (fun hHeld => ?_)
        clear hK K
        refine held_call 10 (by kernel_rfl) rfl (by rfl) (fun K hK => ?_)
        go_simp
        have H10 := Lib.hid (HD2.out.alloc HD2.out.size (.cells #[.string xn, .slice xpa xpl xpc, .slice xka xkl xkc] 27))
        refine hK.out _ _ (HS.out _ H10.out) (fun hHeld => ?_)
        clear hK K
        refine held_take 11 rfl (by kernel_rfl) (by kernel_rfl) (by kernel_rfl) (fun _ _ _ h => h) (by rfl) hHeld (v := ?_) (fun w hSw => ?_) (fun _ => ?_)
        rotate_left
        · ((try dsimp only at hSw); go_simp; (try with_reducible rfl))
        simp only [Act.put, List.setIfInBounds_toArray, List.set_cons_zero, List.set_cons_succ]
        refine wpAnyH_done (by kernel_rfl) ?_ _
        clear hHeld
        obtain ⟨W, hWe⟩ : ∃ W, W = w2.alloc (.cells #[.string xn, .slice xpa xpl xpc, .slice xka xkl xkc] 27) := ⟨_, rfl⟩
        obtain ⟨gb, hgb⟩ : ∃ gb, gb = w2.heap.size := ⟨_, rfl⟩
        have hkW : W.heap[gb]? = some (.cells #[.string xn, .slice xpa xpl xpc, .slice xka xkl xkc] 27 (0, 0)) := by rw [hWe, hgb]; exact heap_alloc_new w2 _
        have hbW : Below wr.heap.size wr W := by rw [hWe]; exact H10.out
        rw [← hWe, ← hgb]
        clear hWe hgb H10 HD2
        have c0 : W.cell? ⟨gb, 0, none⟩ = some (.string xn) := by rw [Lib.cell_of_heap hkW]; rfl
        have c1 : W.cell? ⟨gb, 1, none⟩ = some (.slice xpa xpl xpc) := by rw [Lib.cell_of_heap hkW]; rfl
        have c2 : W.cell? ⟨gb, 2, none⟩ = some (.slice xka xkl xkc) := by rw [Lib.cell_of_heap hkW]; rfl
        have HC3 := Lib.hid (HONE.out W (HBW.out.trans (hbW.mono HBW.out.size)))
        have HBW2 := Lib.hid hbW
        clear hkW hbW
        go_wp2_with fail
        refine HC3.out.mono ?_
        rintro e w3 ⟨rfl, hb3⟩
        have HB3 := Lib.hid (HBW2.out.trans (hb3.mono HBW2.out.size))
        have HB4 := Lib.hid (HBX.out.trans (HB3.out.mono HBS.out))
        have HBZ := Lib.hid (HBW.out.trans (HB3.out.mono HBW.out.size))
        obtain ⟨d0, d1, d2, d3, d4, dk⟩ := HS.out _ HB3.out
        have HO3 := Lib.hid (own_on HO.out HB3.out)
        have HT3 := Lib.hid (HT.out.mono fun v r hv => hv.below (HB3.out.mono HBS.out))
        clear hb3 c0 c1 c2
        by_cases her : er = 0
        · subst her
          cases fl
          · have HN3 : Hid (refsFrom R acc (PS.drop (k + 1)) = RS) := Lib.hid (by
              have h1 := HSR.out
              rw [HST.out] at h1
              simpa using h1)
            clear d0 d1 d2 d3 d4 dk
            go_wp2
            go_roundw
            case rel => exact ⟨k + 1, acc, vs, by omega, by go_num, HO3.out, HT3.out, HN3.out, by omega, HB4.out⟩
            case measure => simp [intOf]; omega
          · by_cases h00 : hv = 0
            · have HN3 : Hid (RS = ([], 11)) := Lib.hid (by
                have h1 := HSR.out
                rw [HST.out] at h1
                simpa [h00] using h1)
              have k1 : (hv == 0) = true := by rw [beq_iff_eq]; exact h00
              clear d0 d1 d2 d3 d4 dk h00
              go_wp2
              go_ret2
              exact ⟨⟨none, 0, 0, by (rw [HN3.out] <;> rfl), by rw [HN3.out]; exact RefShow.nil _ _ _, Nat.le_refl _, by omega⟩, HBZ.out⟩
            · have k1 : (hv == 0) = false := by rw [beq_eq_false_iff_ne]; exact h00
              by_cases h01 : hv = 4294967295
              · have HN3 : Hid (RS = ([], 11)) := Lib.hid (by
                  have h1 := HSR.out
                  rw [HST.out] at h1
                  simpa [h01] using h1)
                have k2 : (hv == 4294967295) = true := by rw [beq_iff_eq]; exact h01
                clear d0 d1 d2 d3 d4 dk h00 h01
                go_wp2
                go_ret2
                exact ⟨⟨none, 0, 0, by (rw [HN3.out] <;> rfl), by rw [HN3.out]; exact RefShow.nil _ _ _, Nat.le_refl _, by omega⟩, HBZ.out⟩
              · have k2 : (hv == 4294967295) = false := by rw [beq_eq_false_iff_ne]; exact h01
                have HSH : Hid (RefShow w3 w3.heap.size Ao acc.length acc) := Lib.hid (by
                  obtain ⟨A', c', e, h2, _⟩ := owned_cel2 HO3.out
                  simp only [Value.slice.injEq, true_and] at e
                  obtain ⟨rfl, rfl⟩ := e
                  exact ⟨vs, h2, HT3.out.mono fun v r hv => hv.more HB4.out.size⟩)
                have HST2 : Hid (refStep R acc P = if acc.any (fun y => decide (y.1 = hv)) = true then ([], 9) else (acc ++ [(hv, P)], 0)) := Lib.hid (by
                  rw [HST.out]
                  simp [h00, h01])
                obtain ⟨M, hM⟩ : ∃ M, acc.length = M := ⟨_, rfl⟩
                have HM := Lib.hid hM
                rw [hM] at HO3 HSH hco1 hal
                rw [hM]
                clear h00 h01 hM hcel hob hvl
                go_wp2_with fail
                go_loop [49] (fun i => ∃ j : Nat, j ≤ M ∧ i = .int .i64 j ∧ ∀ y ∈ acc.take j, y.1 ≠ hv) (fun i => M - (intOf i).toNat)
                case atStart => exact ⟨0, Nat.zero_le _, rfl, by simp⟩
                case round =>
                  obtain ⟨j, hj, rfl, hall⟩ := hrel
                  have HALL := Lib.hid hall
                  clear hall
                  by_cases hjl : j < M
                  · have hja : j < acc.length := by rw [HM.out]; exact hjl
                    obtain ⟨b', o', A2, c2, e, _, q1, q2⟩ := HSH.out.at_ hja
                    clear q2
                    obtain rfl : Ao = _ := e
                    obtain ⟨hy, hhy⟩ : ∃ hy, acc[j].1 = hy := ⟨_, rfl⟩
                    rw [hhy] at q1
                    by_cases heq : hy = hv
                    · have HN3 : Hid (RS = ([], 9)) := Lib.hid (by
                        have h1 := HSR.out
                        rw [HST2.out, if_pos (List.any_eq_true.2 ⟨acc[j], List.getElem_mem hja, decide_eq_true (hhy.trans heq)⟩)] at h1
                        simpa using h1)
                      have k3 : (hy == hv) = true := by rw [beq_iff_eq]; exact heq
                      clear d0 d1 d2 d3 d4 dk heq hhy hja
                      go_wp2
                      go_ret2
                      exact ⟨⟨none, 0, 0, by (rw [HN3.out] <;> rfl), by rw [HN3.out]; exact RefShow.nil _ _ _, Nat.le_refl _, by omega⟩, HBZ.out⟩
                    · have k3 : (hy == hv) = false := by rw [beq_eq_false_iff_ne]; exact heq
                      have HAL2 : Hid (∀ y ∈ acc.take (j + 1), y.1 ≠ hv) := Lib.hid (fun y hy2 => by
                        rw [List.take_add_one, List.getElem?_eq_getElem hja] at hy2
                        rcases List.mem_append.1 hy2 with h | h
                        · exact HALL.out y h
                        · simp only [Option.toList_some, List.mem_singleton] at h
                          rw [h, hhy]; exact heq)
                      clear heq hhy hja
                      go_wp2
                      go_round
                      case rel => exact ⟨j + 1, by omega, by go_num, HAL2.out⟩
                      case measure => simp [intOf]; omega
                  · obtain rfl : j = M := by omega
                    have HN3 : Hid (refsFrom R (acc ++ [(hv, P)]) (PS.drop (k + 1)) = RS) := Lib.hid (by
                      have h1 := HSR.out
                      have hany : acc.any (fun y => decide (y.1 = hv)) = false := by
                        rw [List.any_eq_false]
                        intro y hy
                        have h2 := HALL.out y (by rw [List.take_of_length_le (by rw [HM.out]; exact Nat.le_refl _)]; exact hy)
                        simpa using h2
                      rw [HST2.out, hany] at h1
                      simpa using h1)
                    obtain ⟨i0, hi, hz, hs1, hby⟩ := info_any info_ref
                    obtain ⟨A', c', w5, r5, o5, b5, _, _⟩ := app_pair Try.underlying36 hi hz hs1 hby rfl HO3.out (.int .u32 hv, .slice Bk pl m) rfl rfl (by omega) (by omega) HB4.out.size 36
                    have HO5 : Hid (w5.ownsRow w1.heap.size 45 2 (.slice A' (j + 1) c') (acc ++ [(hv, P)]).length (flat2 (vs ++ [(Value.int .u32 hv, Value.slice Bk pl m)]))) := Lib.hid (by rw [List.length_append, HM.out]; exact o5)
                    have HT5 : Hid (Two (RefV w5 w1.heap.size) (vs ++ [(Value.int .u32 hv, Value.slice Bk pl m)]) (acc ++ [(hv, P)])) := Lib.hid ((HT3.out.mono fun v r hv => hv.below b5).app (.cons ⟨rfl, Bk, m, by rw [HPL.out], by rw [HPL.out]; exact (HP1.out.below (HB3.out.mono HBS.out)).below b5, by rw [HPL.out]; exact HPM.out.1, HPM.out.2⟩ .nil))
                    have HB5 := Lib.hid (HB4.out.trans b5)
                    clear o5 b5 hi hz hs1 hby
                    go_wp2_with (at_builtin; refine Lib.wpList_append_run_sl _ rfl _ _ _ rfl _ _ rfl rfl r5 ?_)
                    go_roundw
                    case rel => exact ⟨k + 1, acc ++ [(hv, P)], vs ++ [(Value.int .u32 hv, Value.slice Bk pl m)], by omega, by go_num, HO5.out, HT5.out, HN3.out, by rw [List.length_append, HM.out]; simp; omega, HB5.out⟩
                    case measure => simp [intOf]; omega
        · have k1 : (er != 0) = true := by rw [bne_iff_ne]; exact her
          have HN3 : Hid (RS = ([], er)) := Lib.hid (by
            have h1 := HSR.out
            rw [HST.out] at h1
            simpa [her] using h1)
          clear d0 d1 d2 d3 d4 dk her
          go_wp2
          go_ret2
          exact ⟨⟨none, 0, 0, by (rw [HN3.out] <;> rfl), by rw [HN3.out]; exact RefShow.nil _ _ _, Nat.le_refl _, by omega⟩, HBZ.out⟩
      · go_simp
        have HZ1 := Lib.hid ((Below.refl wr.heap.size wr).alloc (Nat.le_refl _) (.cells #[.string ⟨#[]⟩, .slice none 0 0, .slice none 0 0] 27)).drew
        refine hK.out _ _ (HS.out _ HZ1.out) (fun hHeld => ?_)
        clear hK K
        refine held_call 5 (by kernel_rfl) rfl (by rfl) (fun K hK => ?_)
        go_simp
        refine (CG1.out _ HZ1.out).mono ?_
        rintro e w2 ⟨rfl, hb2⟩
        have HD2 := Lib.hid (HZ1.out.trans (hb2.mono (by simp)))
        have hz2 : w2.heap[wr.heap.size]? = some (.cells #[.string ⟨#[]⟩, .slice none 0 0, .slice none 0 0] 27 (0, 0)) := (hb2.block wr.heap.size (by simp)).trans (heap_alloc_new wr _)
        clear hb2
        dsimp only
        refine hK.out _ _ (HS.out _ HD2.out) (fun hHeld => ?_)
        clear hK K
        refine held_take 6 rfl (by kernel_rfl) (by kernel_rfl) (by kernel_rfl) (fun _ _ _ h => h) (by rfl) hHeld (v := ?_) (fun w hSw => ?_) (fun _ => ?_)
        rotate_left
        · ((try dsimp only at hSw); go_simp; (try with_reducible rfl))
        simp only [Act.put, List.setIfInBounds_toArray, List.set_cons_zero, List.set_cons_succ]
        refine held_take 7 rfl (by kernel_rfl) (by kernel_rfl) (by kernel_rfl) (fun _ _ _ h => h) (by rfl) hHeld (v := ?_) (fun w hSw => ?_) (fun _ => ?_)
        rotate_left
        · ((try dsimp only at hSw); go_simp; (try with_reducible rfl))
        simp only [Act.put, List.setIfInBounds_toArray, List.set_cons_zero, List.set_cons_succ]
        refine held_take 8 rfl (by kernel_rfl) (by kernel_rfl) (by kernel_rfl) (fun _ _ _ h => h) (by rfl) hHeld (v := ?_) (fun w hSw => ?_) (fun _ => ?_)
        rotate_left
        · ((try dsimp only at hSw); go_simp; (try with_reducible rfl))
        simp only [Act.put, List.setIfInBounds_toArray, List.set_cons_zero, List.set_cons_succ]
        have y0 : w2.cell? ⟨wr.heap.size, 0, none⟩ = some (.string ⟨#[]⟩) := by rw [Lib.cell_of_heap hz2]; rfl
        have y1 : w2.cell? ⟨wr.heap.size, 1, none⟩ = some (.slice none 0 0) := by rw [Lib.cell_of_heap hz2]; rfl
        have y2 : w2.cell? ⟨wr.heap.size, 2, none⟩ = some (.slice none 0 0) := by rw [Lib.cell_of_heap hz2]; rfl
        have e0 := Lib.frozen_of_heap hz2 0
        have e1 := Lib.frozen_of_heap hz2 1
        have e2 := Lib.frozen_of_heap hz2 2
        refine held_call 10 (by kernel_rfl) rfl (by rfl) (fun K hK => ?_)
        go_simp
        have H10 : Hid (Below wr.heap.size wr (((w2.setCell ⟨wr.heap.size, 0, none⟩ (.string xn)).setCell ⟨wr.heap.size, 1, none⟩ (.slice xpa xpl xpc)).setCell ⟨wr.heap.size, 2, none⟩ (.slice xka xkl xkc))) := Lib.hid (below_sets HD2.out 0 _ (Nat.le_refl _) _ _ _)
        refine hK.out _ _ (HS.out _ H10.out) (fun hHeld => ?_)
        clear hK K
        refine held_take 11 rfl (by kernel_rfl) (by kernel_rfl) (by kernel_rfl) (fun _ _ _ h => h) (by rfl) hHeld (v := ?_) (fun w hSw => ?_) (fun _ => ?_)
        rotate_left
        · ((try dsimp only at hSw); go_simp; (try with_reducible rfl))
        simp only [Act.put, List.setIfInBounds_toArray, List.set_cons_zero, List.set_cons_succ]
        refine wpAnyH_done (by kernel_rfl) ?_ _
        clear hHeld
        obtain ⟨W, hWe⟩ : ∃ W, W = (((w2.setCell ⟨wr.heap.size, 0, none⟩ (.string xn)).setCell ⟨wr.heap.size, 1, none⟩ (.slice xpa xpl xpc)).setCell ⟨wr.heap.size, 2, none⟩ (.slice xka xkl xkc)) := ⟨_, rfl⟩
        obtain ⟨gb, hgb⟩ : ∃ gb, gb = wr.heap.size := ⟨_, rfl⟩
        have hkW : W.heap[gb]? = some (.cells #[.string xn, .slice xpa xpl xpc, .slice xka xkl xkc] 27 (0, 0)) := by rw [hWe, hgb]; exact heap_set3 0 _ hz2 _ _ _
        have hbW : Below wr.heap.size wr W := by rw [hWe]; exact H10.out
        rw [← hWe, ← hgb]
        clear hWe hgb H10 HD2 hz2 y0 y1 y2 e0 e1 e2
        have c0 : W.cell? ⟨gb, 0, none⟩ = some (.string xn) := by rw [Lib.cell_of_heap hkW]; rfl
        have c1 : W.cell? ⟨gb, 1, none⟩ = some (.slice xpa xpl xpc) := by rw [Lib.cell_of_heap hkW]; rfl
        have c2 : W.cell? ⟨gb, 2, none⟩ = some (.slice xka xkl xkc) := by rw [Lib.cell_of_heap hkW]; rfl
        have HC3 := Lib.hid (HONE.out W (HBW.out.trans (hbW.mono HBW.out.size)))
        have HBW2 := Lib.hid hbW
        clear hkW hbW
        go_wp2_with fail
        refine HC3.out.mono ?_
        rintro e w3 ⟨rfl, hb3⟩
        have HB3 := Lib.hid (HBW2.out.trans (hb3.mono HBW2.out.size))
        have HB4 := Lib.hid (HBX.out.trans (HB3.out.mono HBS.out))
        have HBZ := Lib.hid (HBW.out.trans (HB3.out.mono HBW.out.size))
        obtain ⟨d0, d1, d2, d3, d4, dk⟩ := HS.out _ HB3.out
        have HO3 := Lib.hid (own_on HO.out HB3.out)
        have HT3 := Lib.hid (HT.out.mono fun v r hv => hv.below (HB3.out.mono HBS.out))
        clear hb3 c0 c1 c2
        by_cases her : er = 0
        · subst her
          cases fl
          · have HN3 : Hid (refsFrom R acc (PS.drop (k + 1)) = RS) := Lib.hid (by
              have h1 := HSR.out
              rw [HST.out] at h1
              simpa using h1)
            clear d0 d1 d2 d3 d4 dk
            go_wp2
            go_roundw
            case rel => exact ⟨k + 1, acc, vs, by omega, by go_num, HO3.out, HT3.out, HN3.out, by omega, HB4.out⟩
            case measure => simp [intOf]; omega
          · by_cases h00 : hv = 0
            · have HN3 : Hid (RS = ([], 11)) := Lib.hid (by
                have h1 := HSR.out
                rw [HST.out] at h1
                simpa [h00] using h1)
              have k1 : (hv == 0) = true := by rw [beq_iff_eq]; exact h00
              clear d0 d1 d2 d3 d4 dk h00
              go_wp2
              go_ret2
              exact ⟨⟨none, 0, 0, by (rw [HN3.out] <;> rfl), by rw [HN3.out]; exact RefShow.nil _ _ _, Nat.le_refl _, by omega⟩, HBZ.out⟩
            · have k1 : (hv == 0) = false := by rw [beq_eq_false_iff_ne]; exact h00
              by_cases h01 : hv = 4294967295
              · have HN3 : Hid (RS = ([], 11)) := Lib.hid (by
                  have h1 := HSR.out
                  rw [HST.out] at h1
                  simpa [h01] using h1)
                have k2 : (hv == 4294967295) = true := by rw [beq_iff_eq]; exact h01
                clear d0 d1 d2 d3 d4 dk h00 h01
                go_wp2
                go_ret2
                exact ⟨⟨none, 0, 0, by (rw [HN3.out] <;> rfl), by rw [HN3.out]; exact RefShow.nil _ _ _, Nat.le_refl _, by omega⟩, HBZ.out⟩
              · have k2 : (hv == 4294967295) = false := by rw [beq_eq_false_iff_ne]; exact h01
                have HSH : Hid (RefShow w3 w3.heap.size Ao acc.length acc) := Lib.hid (by
                  obtain ⟨A', c', e, h2, _⟩ := owned_cel2 HO3.out
                  simp only [Value.slice.injEq, true_and] at e
                  obtain ⟨rfl, rfl⟩ := e
                  exact ⟨vs, h2, HT3.out.mono fun v r hv => hv.more HB4.out.size⟩)
                have HST2 : Hid (refStep R acc P = if acc.any (fun y => decide (y.1 = hv)) = true then ([], 9) else (acc ++ [(hv, P)], 0)) := Lib.hid (by
                  rw [HST.out]
                  simp [h00, h01])
                obtain ⟨M, hM⟩ : ∃ M, acc.length = M := ⟨_, rfl⟩
                have HM := Lib.hid hM
                rw [hM] at HO3 HSH hco1 hal
                rw [hM]
                clear h00 h01 hM hcel hob hvl
                go_wp2_with fail
                go_loop [49] (fun i => ∃ j : Nat, j ≤ M ∧ i = .int .i64 j ∧ ∀ y ∈ acc.take j, y.1 ≠ hv) (fun i => M - (intOf i).toNat)
                case atStart => exact ⟨0, Nat.zero_le _, rfl, by simp⟩
                case round =>
                  obtain ⟨j, hj, rfl, hall⟩ := hrel
                  have HALL := Lib.hid hall
                  clear hall
                  by_cases hjl : j < M
                  · have hja : j < acc.length := by rw [HM.out]; exact hjl
                    obtain ⟨b', o', A2, c2, e, _, q1, q2⟩ := HSH.out.at_ hja
                    clear q2
                    obtain rfl : Ao = _ := e
                    obtain ⟨hy, hhy⟩ : ∃ hy, acc[j].1 = hy := ⟨_, rfl⟩
                    rw [hhy] at q1
                    by_cases heq : hy = hv
                    · have HN3 : Hid (RS = ([], 9)) := Lib.hid (by
                        have h1 := HSR.out
                        rw [HST2.out, if_pos (List.any_eq_true.2 ⟨acc[j], List.getElem_mem hja, decide_eq_true (hhy.trans heq)⟩)] at h1
                        simpa using h1)
                      have k3 : (hy == hv) = true := by rw [beq_iff_eq]; exact heq
                      clear d0 d1 d2 d3 d4 dk heq hhy hja
                      go_wp2
                      go_ret2
                      exact ⟨⟨none, 0, 0, by (rw [HN3.out] <;> rfl), by rw [HN3.out]; exact RefShow.nil _ _ _, Nat.le_refl _, by omega⟩, HBZ.out⟩
                    · have k3 : (hy == hv) = false := by rw [beq_eq_false_iff_ne]; exact heq
                      have HAL2 : Hid (∀ y ∈ acc.take (j + 1), y.1 ≠ hv) := Lib.hid (fun y hy2 => by
                        rw [List.take_add_one, List.getElem?_eq_getElem hja] at hy2
                        rcases List.mem_append.1 hy2 with h | h
                        · exact HALL.out y h
                        · simp only [Option.toList_some, List.mem_singleton] at h
                          rw [h, hhy]; exact heq)
                      clear heq hhy hja
                      go_wp2
                      go_round
                      case rel => exact ⟨j + 1, by omega, by go_num, HAL2.out⟩
                      case measure => simp [intOf]; omega
                  · obtain rfl : j = M := by omega
                    have HN3 : Hid (refsFrom R (acc ++ [(hv, P)]) (PS.drop (k + 1)) = RS) := Lib.hid (by
                      have h1 := HSR.out
                      have hany : acc.any (fun y => decide (y.1 = hv)) = false := by
                        rw [List.any_eq_false]
                        intro y hy
                        have h2 := HALL.out y (by rw [List.take_of_length_le (by rw [HM.out]; exact Nat.le_refl _)]; exact hy)
                        simpa using h2
                      rw [HST2.out, hany] at h1
                      simpa using h1)
                    obtain ⟨i0, hi, hz, hs1, hby⟩ := info_any info_ref
                    obtain ⟨A', c', w5, r5, o5, b5, _, _⟩ := app_pair Try.underlying36 hi hz hs1 hby rfl HO3.out (.int .u32 hv, .slice Bk pl m) rfl rfl (by omega) (by omega) HB4.out.size 36
                    have HO5 : Hid (w5.ownsRow w1.heap.size 45 2 (.slice A' (j + 1) c') (acc ++ [(hv, P)]).length (flat2 (vs ++ [(Value.int .u32 hv, Value.slice Bk pl m)]))) := Lib.hid (by rw [List.length_append, HM.out]; exact o5)
                    have HT5 : Hid (Two (RefV w5 w1.heap.size) (vs ++ [(Value.int .u32 hv, Value.slice Bk pl m)]) (acc ++ [(hv, P)])) := Lib.hid ((HT3.out.mono fun v r hv => hv.below b5).app (.cons ⟨rfl, Bk, m, by rw [HPL.out], by rw [HPL.out]; exact (HP1.out.below (HB3.out.mono HBS.out)).below b5, by rw [HPL.out]; exact HPM.out.1, HPM.out.2⟩ .nil))
                    have HB5 := Lib.hid (HB4.out.trans b5)
                    clear o5 b5 hi hz hs1 hby
                    go_wp2_with (at_builtin; refine Lib.wpList_append_run_sl _ rfl _ _ _ rfl _ _ rfl rfl r5 ?_)
                    go_roundw
                    case rel => exact ⟨k + 1, acc ++ [(hv, P)], vs ++ [(Value.int .u32 hv, Value.slice Bk pl m)], by omega, by go_num, HO5.out, HT5.out, HN3.out, by rw [List.length_append, HM.out]; simp; omega, HB5.out⟩
                    case measure => simp [intOf]; omega
        · have k1 : (er != 0) = true := by rw [bne_iff_ne]; exact her
          have HN3 : Hid (RS = ([], er)) := Lib.hid (by
            have h1 := HSR.out
            rw [HST.out] at h1
            simpa [her] using h1)
          clear d0 d1 d2 d3 d4 dk her
          go_wp2
          go_ret2
          exact ⟨⟨none, 0, 0, by (rw [HN3.out] <;> rfl), by rw [HN3.out]; exact RefShow.nil _ _ _, Nat.le_refl _, by omega⟩, HBZ.out⟩
    · obtain rfl : k = N := by omega
      have HE : Hid (RS = (acc, 0)) := Lib.hid (by
        rw [List.drop_of_length_le (by rw [HN.out]; exact Nat.le_refl _), refsFrom] at hsum
        exact hsum.symm)
      have HF : Hid (RefShow wr wr.heap.size Ao acc.length acc) := Lib.hid (by
        exact ⟨vs, hcel, htwo.mono fun v r hv => hv.more HBS.out⟩)
      have HBZ := Lib.hid (HB1.out.trans (hb.mono HB1.out.size))
      clear hown htwo hsum hb hcel hob hvl
      go_wp2
      go_ret2
      exact ⟨⟨Ao, acc.length, co, by (rw [HE.out] <;> rfl), by rw [HE.out]; exact HF.out, by omega, hco2⟩, HBZ.out⟩
end Go.Proofs.Ytijhjlpkbnajpaa

/-! Whom a handle means, and the greatest one: the document's answer. -/
namespace Go.Proofs.Ytijhjlpkbnajpaa
open Go.RowKit
set_option linter.unusedVariables false
set_option linter.unusedSimpArgs false

theorem find_first : ∀ (l : List (Int × List Nat)) (h : Int) (j : Nat) (hj : j < l.length), (∀ y ∈ l.take j, y.1 ≠ h) → l[j].1 = h → l.find? (fun x => decide (x.1 = h)) = some l[j]
  | x :: l, h, 0, _, _, e => by rw [List.find?_cons_of_pos (by simpa using e)]; rfl
  | x :: l, h, j + 1, hj, ha, e => by
    rw [List.find?_cons_of_neg (by simpa using ha x (by simp))]
    exact find_first l h j (by simpa using hj) (fun y hy => ha y (by simp [hy])) (by simpa using e)
theorem find_never {l : List (Int × List Nat)} {h : Int} (ha : ∀ y ∈ l, y.1 ≠ h) : l.find? (fun x => decide (x.1 = h)) = none := by
  rw [List.find?_eq_none]
  intro x hx
  simpa using ha x hx
/-- What Handle answers. -/
def HandleV (w : World) (e : Ending) : Option (List Nat) → Prop
  | none => e = .returned (.tuple #[.slice none 0 0, .bool false])
  | some p => ∃ A c, e = .returned (.tuple #[.slice A p.length c, .bool true]) ∧ Cel w w.heap.size A p.length (ints p) ∧ p.length ≤ c ∧ c ≤ 9223372036854775807

set_option maxRecDepth 20000 in
set_option maxHeartbeats 4000000 in
theorem refhandle_any (t : Tr) (h : Int) (w : World) (hin : t.In w w.heap.size) (hh : heftN t.root ≤ 134217728) :
    Calls Try.prog 14 #[t.val, .int .u32 h] w fun e w' => HandleV w' e (handleOf t.root h) ∧ Below w.heap.size w w' := by
  have CI := Lib.hid (fun W (hW : Below w.heap.size w W) => refindex_any t W (hin.on hW) hh)
  have HERR : Hid ((refsOf t.root).2 ≠ 0 → (refsOf t.root).1 = []) := Lib.hid refsOf_err
  obtain ⟨RS, hRS⟩ : ∃ RS, refsOf t.root = RS := ⟨_, rfl⟩
  unfold handleOf
  rw [hRS] at CI HERR ⊢
  clear hin hh hRS
  obtain ⟨rl, er⟩ := RS
  obtain ⟨boot, ra, rc, rs, ⟨nm, pa, pc, ps, ka, kc, ks⟩⟩ := t
  replace CI : Hid (∀ W (hW : Below w.heap.size w W), Calls Try.prog 9 #[.agg #[.int .u32 boot, .slice ra rs.length rc, .string nm, .slice pa ps.length pc, .slice ka ks.length kc]] W fun e w' => (∃ A n c, e = .returned (.tuple #[.slice A n c, .int .i64 er]) ∧ RefShow w' w'.heap.size A n rl ∧ n ≤ c ∧ c ≤ 9223372036854775807) ∧ Below W.heap.size W w') := CI
  show Calls _ _ #[.agg #[.int .u32 boot, .slice ra rs.length rc, .string nm, .slice pa ps.length pc, .slice ka ks.length kc], .int .u32 h] _ _
  have HB := Lib.hid ((Below.refl w.heap.size w).alloc (Nat.le_refl _) (.cells #[.int .u32 boot, .slice ra rs.length rc, .string nm, .slice pa ps.length pc, .slice ka ks.length kc] 29))
  obtain ⟨b0, b1, b2, b3, b4⟩ := box6_cells w (.int .u32 boot) (.slice ra rs.length rc) (.string nm) (.slice pa ps.length pc) (.slice ka ks.length kc) _ (Below.refl _ _)
  go_enter Try.func14, Try.ntmps14
  go_wp2_with fail
  refine (CI.out _ HB.out).mono ?_
  rintro e w1 ⟨⟨A, n, c, rfl, hs, hc1, hc2⟩, hb⟩
  have HB1 := Lib.hid (HB.out.trans (hb.mono HB.out.size))
  have HS := Lib.hid hs
  have HL := Lib.hid hs.len
  clear hb b0 b1 b2 b3 b4 hs
  go_wp2_with fail
  go_loop [16] (fun i => ∃ j : Nat, j ≤ n ∧ i = .int .i64 j ∧ ∀ y ∈ rl.take j, y.1 ≠ h) (fun i => n - (intOf i).toNat)
  case atStart => exact ⟨0, Nat.zero_le _, rfl, by simp⟩
  case round =>
    obtain ⟨j, hj, rfl, hall⟩ := hrel
    have HALL := Lib.hid hall
    clear hall
    by_cases hlt : j < n
    · have hja : j < rl.length := by rw [HL.out]; exact hlt
      have he0 : er = 0 := by
        by_cases h0 : er = 0
        · exact h0
        · have this : rl = [] := HERR.out h0
          rw [this] at hja
          exact absurd hja (Nat.not_lt_zero _)
      subst he0
      obtain ⟨b', o', A2, c2, e, hbb, q1, q2, q3, q4, q5⟩ := HS.out.at_ hja
      obtain rfl : A = _ := e
      have hff := find_first rl h j hja HALL.out
      have htk : rl.take (j + 1) = rl.take j ++ [rl[j]] := by rw [List.take_add_one, List.getElem?_eq_getElem hja]; rfl
      generalize rl[j] = Y at *
      obtain ⟨hy, p⟩ := Y
      simp only at q1 q2 q3 q4 hff
      by_cases heq : hy = h
      · have HF := Lib.hid (hff heq)
        have k3 : (hy == h) = true := by rw [beq_iff_eq]; exact heq
        have HQ := Lib.hid (And.intro q3 (And.intro q4 q5))
        obtain ⟨pl, hpl⟩ : ∃ pl, p.length = pl := ⟨_, rfl⟩
        have HPL := Lib.hid hpl
        rw [hpl] at q2
        clear q3 q4 q5 heq hpl hja hbb hff htk
        go_wp2
        go_ret2
        refine ⟨?_, HB1.out⟩
        rw [show ((rl, (0 : Int)).1.find? fun x => decide (x.1 = h)) = some (hy, p) from HF.out]
        exact ⟨A2, c2, by (rw [HPL.out] <;> rfl), HQ.out.1, HQ.out.2⟩
      · have k3 : (hy == h) = false := by rw [beq_eq_false_iff_ne]; exact heq
        have HAL2 : Hid (∀ y ∈ rl.take (j + 1), y.1 ≠ h) := Lib.hid (fun y hy2 => by
          rw [htk] at hy2
          rcases List.mem_append.1 hy2 with h | h
          · exact HALL.out y h
          · rw [List.mem_singleton.1 h]; exact heq)
        clear heq hja q2 q3 q4 q5 hbb hff htk
        go_wp2
        go_round
        case rel => exact ⟨j + 1, by omega, by go_num, HAL2.out⟩
        case measure => simp [intOf]; omega
    · obtain rfl : j = n := by omega
      have HF : Hid (rl.find? (fun x => decide (x.1 = h)) = none) := Lib.hid (find_never (fun y hy => HALL.out y (by rw [List.take_of_length_le (by rw [HL.out]; exact Nat.le_refl _)]; exact hy)))
      go_wp2
      go_ret2
      refine ⟨?_, HB1.out⟩
      rw [show ((rl, er).1.find? fun x => decide (x.1 = h)) = none from HF.out]
      rfl

set_option maxRecDepth 20000 in
set_option maxHeartbeats 4000000 in
theorem refmost_any (t : Tr) (w : World) (hin : t.In w w.heap.size) (hh : heftN t.root ≤ 134217728) :
    Calls Try.prog 11 #[t.val] w fun e w' => e = .returned (.int .u32 (mostOf t.root)) ∧ Below w.heap.size w w' := by
  have CI := Lib.hid (fun W (hW : Below w.heap.size w W) => refindex_any t W (hin.on hW) hh)
  obtain ⟨RS, hRS⟩ : ∃ RS, refsOf t.root = RS := ⟨_, rfl⟩
  unfold mostOf
  rw [hRS] at CI ⊢
  clear hin hh hRS
  obtain ⟨rl, er⟩ := RS
  obtain ⟨boot, ra, rc, rs, ⟨nm, pa, pc, ps, ka, kc, ks⟩⟩ := t
  replace CI : Hid (∀ W (hW : Below w.heap.size w W), Calls Try.prog 9 #[.agg #[.int .u32 boot, .slice ra rs.length rc, .string nm, .slice pa ps.length pc, .slice ka ks.length kc]] W fun e w' => (∃ A n c, e = .returned (.tuple #[.slice A n c, .int .i64 er]) ∧ RefShow w' w'.heap.size A n rl ∧ n ≤ c ∧ c ≤ 9223372036854775807) ∧ Below W.heap.size W w') := CI
  show Calls _ _ #[.agg #[.int .u32 boot, .slice ra rs.length rc, .string nm, .slice pa ps.length pc, .slice ka ks.length kc]] _ _
  have HB := Lib.hid ((Below.refl w.heap.size w).alloc (Nat.le_refl _) (.cells #[.int .u32 boot, .slice ra rs.length rc, .string nm, .slice pa ps.length pc, .slice ka ks.length kc] 29))
  obtain ⟨b0, b1, b2, b3, b4⟩ := box6_cells w (.int .u32 boot) (.slice ra rs.length rc) (.string nm) (.slice pa ps.length pc) (.slice ka ks.length kc) _ (Below.refl _ _)
  go_enter Try.func11, Try.ntmps11
  go_wp2_with fail
  refine (CI.out _ HB.out).mono ?_
  rintro e w1 ⟨⟨A, n, c, rfl, hs, hc1, hc2⟩, hb⟩
  have HB1 := Lib.hid (HB.out.trans (hb.mono HB.out.size))
  have HS := Lib.hid hs
  have HL := Lib.hid hs.len
  clear hb b0 b1 b2 b3 b4 hs
  go_wp2_with fail
  go_loop [5, 14] (fun m i => ∃ j : Nat, j ≤ n ∧ i = .int .i64 j ∧ m = .int .u32 ((rl.take j).foldl (fun m x => max m x.1) 0)) (fun _ i => n - (intOf i).toNat)
  case atStart => exact ⟨0, Nat.zero_le _, rfl, rfl⟩
  case round =>
    obtain ⟨j, hj, rfl, rfl⟩ := hrel
    by_cases hlt : j < n
    · have hja : j < rl.length := by rw [HL.out]; exact hlt
      obtain ⟨b', o', A2, c2, e, hbb, q1, q2⟩ := HS.out.at_ hja
      clear q2 hbb
      obtain rfl : A = _ := e
      have HN : Hid ((rl.take (j + 1)).foldl (fun m x => max m x.1) 0 = max ((rl.take j).foldl (fun m x => max m x.1) 0) rl[j].1) := Lib.hid (by rw [List.take_add_one, List.getElem?_eq_getElem hja, List.foldl_append]; rfl)
      obtain ⟨hy, hhy⟩ : ∃ hy, rl[j].1 = hy := ⟨_, rfl⟩
      obtain ⟨mm, hmm⟩ : ∃ mm, (rl.take j).foldl (fun m x => max m x.1) 0 = mm := ⟨_, rfl⟩
      rw [hhy, hmm] at HN
      rw [hhy] at q1
      rw [hmm]
      clear hhy hmm hja
      go_wp2
      go_round
      case rel => exact ⟨j + 1, by omega, by go_num, by rw [HN.out]⟩
      case measure => simp [intOf]; omega
    · obtain rfl : j = n := by omega
      have HT : Hid (rl.take j = rl) := Lib.hid (List.take_of_length_le (by rw [HL.out]; exact Nat.le_refl _))
      rw [HT.out]
      go_wp2
      go_ret
      exact ⟨rfl, HB1.out⟩
end Go.Proofs.Ytijhjlpkbnajpaa
