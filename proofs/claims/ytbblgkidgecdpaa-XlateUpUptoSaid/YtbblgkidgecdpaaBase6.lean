/-
  Base, part 6: what the proofs of this claim lean on.
-/
import Derived.Test.YtbblgkidgecdpaaBase5
import Derived.BigQuiet
import Derived.Test.YtbblgkidgecdpaaBase3

/-! The node at a place: the document's answer, for any numbers. -/
namespace Go.Proofs.Ytbblgkidgecdpaa
open Go.RowKit
set_option linter.unusedVariables false
set_option linter.unusedSimpArgs false

/-- The node at a place below n, of any numbers. -/
def nodeZ : Nd → List Int → Option Nd
  | n, [] => some n
  | n, i :: r => if i < 0 then none else match n.kids[i.toNat]? with
    | none => none
    | some k => nodeZ k r
abbrev intsZ (z : List Int) : List Value := z.map fun k => Value.int .i64 k
theorem ints_eq (p : List Nat) : ints p = intsZ (p.map Int.ofNat) := by simp [ints, intsZ]
theorem nodeZ_nat : ∀ (p : List Nat) (n : Nd), nodeZ n (p.map Int.ofNat) = nodeAt n p
  | [], n => rfl
  | i :: p, n => by
    rw [List.map_cons, nodeZ, nodeAt, if_neg (by simp)]
    simp only [Int.ofNat_eq_natCast, Int.toNat_natCast]
    cases n.kids[i]? with
    | none => rfl
    | some k => exact nodeZ_nat p k
theorem nodeZ_append : ∀ (p q : List Int) (n : Nd), nodeZ n (p ++ q) = match nodeZ n p with | none => none | some x => nodeZ x q
  | [], q, n => by simp [nodeZ]
  | i :: p, q, n => by
    rw [List.cons_append, nodeZ, nodeZ]
    by_cases hi : i < 0
    · rw [if_pos hi, if_pos hi]
    · rw [if_neg hi, if_neg hi]
      cases n.kids[i.toNat]? with
      | none => rfl
      | some k => exact nodeZ_append p q k
theorem nodeZ_in {w : World} {B : Nat} : ∀ (p : List Int) {n x : Nd}, n.In w B → nodeZ n p = some x → x.In w B
  | [], n, x, h, e => by rw [nodeZ] at e; rw [← Option.some.inj e]; exact h
  | i :: p, n, x, h, e => by
    rw [nodeZ] at e
    by_cases hi : i < 0
    · rw [if_pos hi] at e; cases e
    rw [if_neg hi] at e
    cases hk : n.kids[i.toNat]? with
    | none => rw [hk] at e; cases e
    | some k => rw [hk] at e; exact nodeZ_in p (h.kid (List.mem_of_getElem? hk)) e
/-- The answer. -/
def getVal : Option Nd → Value
  | none => .tuple #[.agg #[.string ⟨#[]⟩, .slice none 0 0, .slice none 0 0], .bool false]
  | some x => .tuple #[x.val, .bool true]

theorem below_sets {g : Nat} {w wr : World} (h : Below g w wr) (m b : Nat) (hb : g ≤ b) (u0 u1 u2 : Value) : Below g w ((((wr.drewN m).setCell ⟨b, 0, none⟩ u0).setCell ⟨b, 1, none⟩ u1).setCell ⟨b, 2, none⟩ u2) :=
  ((Below.setCell (Below.setCell (Below.setCell (h.trans (c := wr.drewN m) ⟨rfl, rfl, rfl, Nat.le_refl _, fun _ _ => rfl⟩) (p := ⟨b, 0, none⟩) hb u0) (p := ⟨b, 1, none⟩) hb u1) (p := ⟨b, 2, none⟩) hb u2))
theorem heap_sets {wr : World} (m b k : Nat) (hk : k ≠ b) (u0 u1 u2 : Value) : ((((wr.drewN m).setCell ⟨b, 0, none⟩ u0).setCell ⟨b, 1, none⟩ u1).setCell ⟨b, 2, none⟩ u2).heap[k]? = wr.heap[k]? := by
  rw [Below.heap_setCell _ _ _ _ hk, Below.heap_setCell _ _ _ _ hk, Below.heap_setCell _ _ _ _ hk]
  rfl
theorem heap_set3 {wr : World} (m b : Nat) {v0 v1 v2 : Value} {t : TypeId} {fz : Nat × Nat} (h : wr.heap[b]? = some (.cells #[v0, v1, v2] t fz)) (u0 u1 u2 : Value) : ((((wr.drewN m).setCell ⟨b, 0, none⟩ u0).setCell ⟨b, 1, none⟩ u1).setCell ⟨b, 2, none⟩ u2).heap[b]? = some (.cells #[u0, u1, u2] t fz) := by
  simp [World.setCell, Array.getElem?_modify, h]

set_option maxRecDepth 20000 in
set_option maxHeartbeats 8000000 in
theorem refget_any (t : Tr) (z : List Int) (A : Option Addr) (n c : Nat) (w : World) (hin : t.In w w.heap.size) (hp : Cel w w.heap.size A n (intsZ z)) (hnc : n ≤ c) (hc : c ≤ 9223372036854775807) :
    Calls Try.prog 13 #[t.val, .slice A n c] w fun e w' => e = .returned (getVal (nodeZ t.root z)) ∧ Below w.heap.size w w' := by
  have HI := Lib.hid hin.root
  have HP := Lib.hid hp
  have HPL : Hid (z.length = n) := Lib.hid (by have := hp.1; rwa [List.length_map] at this)
  clear hin hp
  obtain ⟨boot, ra, rc, rs, ⟨nm, pa, pc, ps, ka, kc, ks⟩⟩ := t
  replace HI : Hid ((Nd.mk nm pa pc ps ka kc ks).In w w.heap.size) := HI
  show Calls _ _ #[.agg #[.int .u32 boot, .slice ra rs.length rc, .string nm, .slice pa ps.length pc, .slice ka ks.length kc], .slice A n c] w (fun e w' => e = .returned (getVal (nodeZ (Nd.mk nm pa pc ps ka kc ks) z)) ∧ Below w.heap.size w w')
  obtain ⟨R, hR⟩ : ∃ R, Nd.mk nm pa pc ps ka kc ks = R := ⟨_, rfl⟩
  have HRE := Lib.hid hR
  rw [hR] at HI ⊢
  clear hR
  obtain ⟨b0, b1, b2, b3, b4⟩ := box6_cells w (.int .u32 boot) (.slice ra rs.length rc) (.string nm) (.slice pa ps.length pc) (.slice ka ks.length kc) _ (Below.refl _ _)
  go_enter Try.func13, Try.ntmps13
  go_wp2_with fail
  clear b0 b1 b2 b3 b4
  obtain ⟨g, hg⟩ : ∃ g, g = w.heap.size := ⟨_, rfl⟩
  have HG := Lib.hid hg
  have h1 : (w.alloc (.cells #[.int .u32 boot, .slice ra rs.length rc, .string nm, .slice pa ps.length pc, .slice ka ks.length kc] 31)).heap.size = g + 1 := by simp [hg]
  have h2 : ((w.alloc (.cells #[.int .u32 boot, .slice ra rs.length rc, .string nm, .slice pa ps.length pc, .slice ka ks.length kc] 31)).alloc (.cells #[.string ⟨#[]⟩, .slice none 0 0, .slice none 0 0] 25)).heap.size = g + 1 + 1 := by simp [hg]
  have W0 : Hid ((((w.alloc (.cells #[.int .u32 boot, .slice ra rs.length rc, .string nm, .slice pa ps.length pc, .slice ka ks.length kc] 31)).alloc (.cells #[.string ⟨#[]⟩, .slice none 0 0, .slice none 0 0] 25)).alloc (.cells #[.string nm, .slice pa ps.length pc, .slice ka ks.length kc] 25)).heap[g + 1]? = some (.cells #[.string ⟨#[]⟩, .slice none 0 0, .slice none 0 0] 25 (0, 0)) ∧ (((w.alloc (.cells #[.int .u32 boot, .slice ra rs.length rc, .string nm, .slice pa ps.length pc, .slice ka ks.length kc] 31)).alloc (.cells #[.string ⟨#[]⟩, .slice none 0 0, .slice none 0 0] 25)).alloc (.cells #[.string nm, .slice pa ps.length pc, .slice ka ks.length kc] 25)).heap[g + 1 + 1]? = some (.cells #[.string nm, .slice pa ps.length pc, .slice ka ks.length kc] 25 (0, 0)) ∧ Below g w (((w.alloc (.cells #[.int .u32 boot, .slice ra rs.length rc, .string nm, .slice pa ps.length pc, .slice ka ks.length kc] 31)).alloc (.cells #[.string ⟨#[]⟩, .slice none 0 0, .slice none 0 0] 25)).alloc (.cells #[.string nm, .slice pa ps.length pc, .slice ka ks.length kc] 25))) := Lib.hid ⟨by
      rw [Below.heap_alloc _ _ _ (by rw [h2]; omega), ← h1]
      exact heap_alloc_new _ _, by
      rw [← h2]
      exact heap_alloc_new _ _, by
      have hl : g ≤ w.heap.size := by rw [hg]; exact Nat.le_refl _
      exact (((Below.refl g w).alloc hl (.cells #[.int .u32 boot, .slice ra rs.length rc, .string nm, .slice pa ps.length pc, .slice ka ks.length kc] 31)).alloc (by rw [h1]; omega) (.cells #[.string ⟨#[]⟩, .slice none 0 0, .slice none 0 0] 25)).alloc (by rw [h2]; omega) (.cells #[.string nm, .slice pa ps.length pc, .slice ka ks.length kc] 25)⟩
  rw [← hg] at HI HP ⊢
  clear h1 h2 hg
  go_loopw [12] (fun i wr => ∃ (k : Nat) (x : Nd), k ≤ n ∧ i = .int .i64 k ∧ nodeZ R (z.take k) = some x ∧ wr.heap[g + 1]? = some (.cells #[.string ⟨#[]⟩, .slice none 0 0, .slice none 0 0] 25 (0, 0)) ∧ wr.heap[g + 1 + 1]? = some (.cells #[.string x.name, x.pv, x.kv] 25 (0, 0)) ∧ Below g w wr) (fun i _ => n - (intOf i).toNat)
  case atStart =>
    obtain ⟨a1, a2, a3⟩ := W0.out
    exact ⟨0, R, Nat.zero_le _, rfl, rfl, a1, by rw [← HRE.out]; exact a2, a3⟩
  case round =>
    obtain ⟨k, x, hk, rfl, hx, hz, hbk, hb⟩ := hrel
    have HX := Lib.hid hx
    have HBK := Lib.hid hbk
    have HZC := Lib.hid hz
    have HB := Lib.hid hb
    have y0 : wr.cell? ⟨g + 1, 0, none⟩ = some (.string ⟨#[]⟩) := by rw [Lib.cell_of_heap hz]; rfl
    have y1 : wr.cell? ⟨g + 1, 1, none⟩ = some (.slice none 0 0) := by rw [Lib.cell_of_heap hz]; rfl
    have y2 : wr.cell? ⟨g + 1, 2, none⟩ = some (.slice none 0 0) := by rw [Lib.cell_of_heap hz]; rfl
    have e0 := Lib.frozen_of_heap hz 0
    have e1 := Lib.frozen_of_heap hz 1
    have e2 := Lib.frozen_of_heap hz 2
    have f0 := Lib.frozen_of_heap hbk 0
    have f1 := Lib.frozen_of_heap hbk 1
    have f2 := Lib.frozen_of_heap hbk 2
    have hxin := (nodeZ_in _ HI.out hx).under hb
    by_cases hlt : k < n
    · obtain ⟨pb, po, rfl, _, hcell⟩ := (HP.out.below hb).2 (by omega)
      have ck := hcell k hlt
      have hkp : k < z.length := by rw [HPL.out]; exact hlt
      rw [List.getElem?_map, List.getElem?_eq_getElem hkp] at ck
      have hzt : z.take (k + 1) = z.take k ++ [z[k]] := by rw [List.take_add_one, List.getElem?_eq_getElem hkp]; rfl
      have hzs : nodeZ R z = nodeZ x (z[k] :: z.drop (k + 1)) := by
        have e : z = z.take k ++ (z[k] :: z.drop (k + 1)) := by rw [List.getElem_cons_drop, List.take_append_drop]
        conv => lhs; rw [e, nodeZ_append, hx]
      have hzn : nodeZ R (z.take (k + 1)) = nodeZ x [z[k]] := by rw [hzt, nodeZ_append, hx]
      replace ck : wr.cell? ⟨pb, po + k, none⟩ = some (.int .i64 z[k]) := ck
      generalize z[k] = q at *
      generalize z.drop (k + 1) = zr at *
      have HZS := Lib.hid hzs
      have HZN := Lib.hid hzn
      have hkm := hxin.klen
      have hkl := hxin.name_le.2.2
      have HKC := Lib.hid (fun i (hi : i < x.kids.length) => hxin.kcell hi)
      clear hzt hzs hzn hcell hkp hb hx hz hxin
      obtain ⟨xn, xpa, xpc, xps, xka, xkc, xks⟩ := x
      replace hkm : xks.length ≤ xkc ∧ xkc ≤ 9223372036854775807 := hkm
      replace hkl : xks.length * 64 ≤ 140737488351232 := hkl
      replace hbk : wr.heap[g + 1 + 1]? = some (.cells #[.string xn, .slice xpa xps.length xpc, .slice xka xks.length xkc] 25 (0, 0)) := hbk
      have c0 : wr.cell? ⟨g + 1 + 1, 0, none⟩ = some (.string xn) := by rw [Lib.cell_of_heap hbk]; rfl
      have c1 : wr.cell? ⟨g + 1 + 1, 1, none⟩ = some (.slice xpa xps.length xpc) := by rw [Lib.cell_of_heap hbk]; rfl
      have c2 : wr.cell? ⟨g + 1 + 1, 2, none⟩ = some (.slice xka xks.length xkc) := by rw [Lib.cell_of_heap hbk]; rfl
      clear hbk
      by_cases hq0 : q < 0
      · have q2 : decide (q < 0) = true := decide_eq_true hq0
        have HN : Hid (nodeZ R z = none) := Lib.hid (by rw [HZS.out, nodeZ, if_pos hq0])
        clear hq0
        go_wp2_with fail
        go_quiet (fail)
        go_wp2
        refine bodyPost_ret (v := getVal none) (by simp [results, Try.results13, go_sem, getVal, y0, y1, y2, e0, e1, e2]) rfl ?_
        exact ⟨by rw [HN.out], below_sets (HG.out ▸ HB.out) _ _ (by have := HG.out; omega) _ _ _⟩
      · have q1 : decide (q < 0) = false := decide_eq_false hq0
        by_cases hqk : q.toNat < xks.length
        · obtain ⟨kb, ko, ek, _, d0, d1, d2⟩ := HKC.out _ hqk
          obtain ⟨q, rfl⟩ : ∃ m : Nat, q = (m : Int) := ⟨q.toNat, by omega⟩
          simp only [Int.toNat_natCast] at hqk d0 d1 d2
          obtain rfl : xka = _ := ek
          have q2 : decide ((q : Int) ≥ (xks.length : Int)) = false := decide_eq_false (by omega)
          have q3 : ¬ ((q : Int) ≥ (xks.length : Int)) := by omega
          have HNX : Hid (nodeZ R (z.take (k + 1)) = some xks[q]) := Lib.hid (by
            rw [HZN.out, nodeZ, if_neg (by omega)]
            simp only [Int.toNat_natCast, Nd.kids, List.getElem?_eq_getElem hqk]
            rfl)
          replace d0 : wr.cell? ⟨kb, ko + q * 3, none⟩ = some (.string xks[q].name) := d0
          replace d1 : wr.cell? ⟨kb, ko + q * 3 + 1, none⟩ = some xks[q].pv := d1
          replace d2 : wr.cell? ⟨kb, ko + q * 3 + 2, none⟩ = some xks[q].kv := d2
          obtain ⟨y, hy⟩ : ∃ y, xks[q] = y := ⟨_, rfl⟩
          rw [hy] at HNX d0 d1 d2
          clear hy HKC HZS HZN HX
          obtain ⟨yn, ypa, ypc, yps, yka, ykc, yks⟩ := y
          replace d0 : wr.cell? ⟨kb, ko + q * 3, none⟩ = some (.string yn) := d0
          replace d1 : wr.cell? ⟨kb, ko + q * 3 + 1, none⟩ = some (.slice ypa yps.length ypc) := d1
          replace d2 : wr.cell? ⟨kb, ko + q * 3 + 2, none⟩ = some (.slice yka yks.length ykc) := d2
          generalize xks.length = xkl at *
          go_wp2_with fail
          go_quiet (fail)
          go_wp2_with fail
          go_region
          go_wp2
          go_roundw
          case rel => exact ⟨k + 1, Nd.mk yn ypa ypc yps yka ykc yks, by omega, by go_num, HNX.out, (heap_sets _ _ _ (by omega) _ _ _).trans HZC.out, heap_set3 _ _ HBK.out _ _ _, below_sets HB.out _ _ (by omega) _ _ _⟩
          case measure => simp [intOf]; omega
        · have q2 : decide (q ≥ (xks.length : Int)) = true := decide_eq_true (by omega)
          have HN : Hid (nodeZ R z = none) := Lib.hid (by
            rw [HZS.out, nodeZ, if_neg hq0]
            simp only [Nd.kids, List.getElem?_eq_none (Nat.le_of_not_lt hqk)])
          clear hq0 hqk
          generalize xks.length = xkl at *
          go_wp2_with fail
          go_quiet (fail)
          go_wp2
          refine bodyPost_ret (v := getVal none) (by simp [results, Try.results13, go_sem, getVal, y0, y1, y2, e0, e1, e2]) rfl ?_
          exact ⟨by rw [HN.out], below_sets (HG.out ▸ HB.out) _ _ (by have := HG.out; omega) _ _ _⟩
    · obtain rfl : k = n := by omega
      have HT : Hid (nodeZ R z = some x) := Lib.hid (by
        have e : z.take k = z := List.take_of_length_le (by rw [HPL.out]; exact Nat.le_refl _)
        rw [← hx, e])
      clear hxin hx hz hb
      obtain ⟨xn, xpa, xpc, xps, xka, xkc, xks⟩ := x
      replace hbk : wr.heap[g + 1 + 1]? = some (.cells #[.string xn, .slice xpa xps.length xpc, .slice xka xks.length xkc] 25 (0, 0)) := hbk
      have c0 : wr.cell? ⟨g + 1 + 1, 0, none⟩ = some (.string xn) := by rw [Lib.cell_of_heap hbk]; rfl
      have c1 : wr.cell? ⟨g + 1 + 1, 1, none⟩ = some (.slice xpa xps.length xpc) := by rw [Lib.cell_of_heap hbk]; rfl
      have c2 : wr.cell? ⟨g + 1 + 1, 2, none⟩ = some (.slice xka xks.length xkc) := by rw [Lib.cell_of_heap hbk]; rfl
      clear hbk
      go_wp2
      refine bodyPost_ret (v := getVal (some (Nd.mk xn xpa xpc xps xka xkc xks))) (by simp [results, Try.results13, go_sem, getVal, y0, y1, y2, e0, e1, e2, Nd.val, Nd.name, Nd.pv, Nd.kv, Nd.pa, Nd.pc, Nd.props, Nd.ka, Nd.kc, Nd.kids]) rfl ?_
      exact ⟨by rw [HT.out], below_sets (HG.out ▸ HB.out) 0 _ (by have := HG.out; omega) _ _ _⟩
end Go.Proofs.Ytbblgkidgecdpaa

/-! An address below a node, seen from the root: the document's answer. -/
namespace Go.Proofs.Ytbblgkidgecdpaa
open Go.RowKit
set_option linter.unusedVariables false
set_option linter.unusedSimpArgs false

theorem bytes_at {xs : List Int} (h : ∀ z ∈ xs, 0 ≤ z ∧ z < 256) (i : Nat) : 0 ≤ xs.getD i 0 ∧ xs.getD i 0 < 256 := by
  rcases Nat.lt_or_ge i xs.length with hi | hi
  · have e : xs.getD i 0 = xs[i] := by simp [List.getD, List.getElem?_eq_getElem hi]
    rw [e]; exact h _ (List.getElem_mem hi)
  · have e : xs.getD i 0 = 0 := by simp [List.getD, List.getElem?_eq_none hi]
    rw [e]; omega
def R64 (r : Int × Int × Int) : Prop := U64 r.1 ∧ U64 r.2.1 ∧ U64 r.2.2
theorem rng_64 {xs : List Int} (h : ∀ z ∈ xs, 0 ≤ z ∧ z < 256) {c p : Nat} (hc : c ≤ 8) (hp : p ≤ 8) (hs : xs.length - (c + p) ≤ 8) : R64 (rng xs c p) :=
  ⟨numTo_lt64 _ 0 _ (bytes_at fun z hz => h z (List.mem_of_mem_take hz)) hc, numTo_lt64 _ 0 _ (bytes_at fun z hz => h z (List.mem_of_mem_drop (List.mem_of_mem_take hz))) hp, numTo_lt64 _ 0 _ (bytes_at fun z hz => h z (List.mem_of_mem_drop hz)) hs⟩
/-- The numbers of ranges are of 64 bits. -/
theorem rangesV_64 {w : World} {B : Nat} {parent n : Nd} (hpn : parent.In w B) (hin : n.In w B) : ∀ r ∈ (rangesV parent n).2.2, R64 r := by
  have hc := cntV_le hin nmAddr 2 (by omega)
  have hs := cntV_le hin nmSize 1 (by omega)
  have hp := cntV_le hpn nmAddr 2 (by omega)
  unfold rangesV
  split
  · intro r hr; cases hr
  · rename_i x hx
    have hb := (hin.prop (List.mem_of_find?_eq_some hx)).2.1.2.1
    generalize cntV parent nmAddr 2 = vp at *
    generalize cntV parent nmSize 1 = vq at *
    generalize cntV n nmAddr 2 = vc at *
    generalize cntV n nmSize 1 = vs at *
    split
    · intro r hr; cases hr
    · split
      · intro r hr
        rw [List.mem_singleton.1 hr]
        exact ⟨⟨by decide, by decide⟩, ⟨by decide, by decide⟩, by decide, by decide⟩
      · intro r hr
        obtain ⟨j, _, rfl⟩ := List.mem_map.1 hr
        refine rng_64 (fun z hz => hb z (List.mem_of_mem_drop (List.mem_of_mem_take hz))) (by omega) (by omega) ?_
        have := List.length_take_le (4 * (vc.toNat + vp.toNat + vs.toNat)) (x.zs.drop (j * (4 * (vc.toNat + vp.toNat + vs.toNat))))
        omega

/-- One step up: through the first range that has all the bytes. -/
def upOne (L : List (Int × Int × Int)) (a s : Int) : Option Int :=
  match L.find? fun r => insideB r.1 r.2.2 a s with
  | none => none
  | some r => if 18446744073709551615 - r.2.1 < a - r.1 ∨ wholeB (r.2.1 + (a - r.1)) s = false then none else some (r.2.1 + (a - r.1))
def ndZ : Nd := .mk ⟨#[]⟩ none 0 [] none 0 []
/-- The ranges between the node at a place and its parent. -/
def wayR (root : Nd) (z : List Int) (k : Nat) : Bool × Bool × List (Int × Int × Int) := rangesV ((nodeZ root (z.take k)).getD ndZ) ((nodeZ root (z.take (k + 1))).getD ndZ)
/-- k steps up. -/
def upV (root : Nd) (z : List Int) (s : Int) : Nat → Int → Option Int
  | 0, a => some a
  | k + 1, a => if (wayR root z k).2.1 = false then none else match upOne (wayR root z k).2.2 a s with
    | none => none
    | some b => upV root z s k b
/-- What Up answers. -/
def upVal : Option Int → Value
  | none => .tuple #[.int .u64 0, .bool false]
  | some a => .tuple #[.int .u64 a, .bool true]
theorem inside_le {wa ws a s : Int} (h : insideB wa ws a s = true) : wa ≤ a ∧ s ≠ 0 := by
  unfold insideB at h
  simp only [Bool.and_eq_true, decide_eq_true_eq] at h
  exact ⟨h.2.1, h.1.1.1.1⟩
theorem upOne_64 {L : List (Int × Int × Int)} (hL : ∀ r ∈ L, R64 r) {a s b : Int} (ha : U64 a) (h : upOne L a s = some b) : U64 b := by
  unfold upOne at h
  split at h
  · cases h
  · rename_i r hr
    have h64 := hL r (List.mem_of_find?_eq_some hr)
    have hi := inside_le (List.find?_some (p := fun r : Int × Int × Int => insideB r.1 r.2.2 a s) hr)
    split at h
    · cases h
    · rename_i hn
      have e := Option.some.inj h
      have h1 : ¬ (18446744073709551615 - r.2.1 < a - r.1) := fun h => hn (.inl h)
      obtain ⟨⟨r1, r2⟩, ⟨r3, r4⟩, _⟩ := h64
      exact ⟨by omega, by omega⟩
theorem nodeZ_take {root y : Nd} {z : List Int} (h : nodeZ root z = some y) (k : Nat) : ∃ x, nodeZ root (z.take k) = some x := by
  have e : z = z.take k ++ z.drop k := (List.take_append_drop k z).symm
  rw [e, nodeZ_append] at h
  cases hx : nodeZ root (z.take k) with
  | none => rw [hx] at h; cases h
  | some x => exact ⟨x, rfl⟩
theorem nodeZ_heft : ∀ (p : List Int) {n x : Nd}, nodeZ n p = some x → heftN x ≤ heftN n
  | [], n, x, h => by rw [nodeZ] at h; rw [Option.some.inj h]; exact Nat.le_refl _
  | i :: p, n, x, h => by
    rw [nodeZ] at h
    by_cases hi : i < 0
    · rw [if_pos hi] at h; cases h
    rw [if_neg hi] at h
    cases hk : n.kids[i.toNat]? with
    | none => rw [hk] at h; cases h
    | some k =>
      rw [hk] at h
      obtain ⟨hlt, rfl⟩ := List.getElem?_eq_some_iff.1 hk
      have h1 := nodeZ_heft p h
      have h2 := heftL_next n.kids _ hlt
      have h3 := heftL_take n.kids (i.toNat + 1)
      have h4 : heftN n = 16 + n.name.size + (n.props.map heftP).sum + heftL n.kids := by cases n; rw [heftN]; rfl
      omega
theorem size_intx (w : World) : (Go.sizeOf 3).run Try.prog w = .ok 1 w := by kernel_rfl

/-- The first range that has all the bytes. -/
theorem find_range : ∀ (L : List (Int × Int × Int)) (a s : Int) (j : Nat) (hj : j < L.length), (∀ r ∈ L.take j, insideB r.1 r.2.2 a s = false) → insideB L[j].1 L[j].2.2 a s = true → L.find? (fun r => insideB r.1 r.2.2 a s) = some L[j]
  | x :: l, a, s, 0, _, _, e => by rw [List.find?_cons_of_pos (by simpa using e)]; rfl
  | x :: l, a, s, j + 1, hj, ha, e => by
    rw [List.find?_cons_of_neg (by simpa using ha x (by simp))]
    exact find_range l a s j (by simpa using hj) (fun y hy => ha y (by simp [hy])) (by simpa using e)
theorem find_no_range {L : List (Int × Int × Int)} {a s : Int} (ha : ∀ r ∈ L, insideB r.1 r.2.2 a s = false) : L.find? (fun r => insideB r.1 r.2.2 a s) = none := by
  rw [List.find?_eq_none]
  intro x hx
  simpa using ha x hx



theorem cutw {P Q : Prop} (h : P → Q) (p : P) : Q := h p
set_option maxRecDepth 20000 in
set_option maxHeartbeats 8000000 in
theorem refup_any (t : Tr) (z : List Int) (A : Option Addr) (n c : Nat) (at_ s : Int) (w : World) (hin : t.In w w.heap.size) (hp : Cel w w.heap.size A n (intsZ z)) (hnc : n ≤ c) (hc : c ≤ 9223372036854775807) (hroot : ∃ y, nodeZ t.root z = some y) (hh : heftN t.root ≤ 134217728) (ha : U64 at_) (hs : U64 s) :
    Calls Try.prog 14 #[t.val, .slice A n c, .int .u64 at_, .int .u64 s] w fun e w' => e = .returned (upVal (upV t.root z s n at_)) ∧ Below w.heap.size w w' := by
  have HI := Lib.hid hin.root
  have HS64 := Lib.hid hs
  have HA64 := Lib.hid ha
  have HH := Lib.hid hh
  have HPL : Hid (z.length = n) := Lib.hid (by have := hp.1; rwa [List.length_map] at this)
  have CG := Lib.hid (fun k (hk : k ≤ n) W (hW : Below w.heap.size w W) => refget_any t (z.take k) A k c W (hin.on hW) (by have h := (hp.on hW).upto hk; rwa [intsZ, ← List.map_take] at h) (by omega) hc)
  obtain ⟨yy, hyy⟩ := hroot
  have HX := Lib.hid (fun k => nodeZ_take hyy k)
  obtain ⟨UV, hUV⟩ : ∃ UV, upV t.root z s n at_ = UV := ⟨_, rfl⟩
  have HUV0 := Lib.hid hUV
  rw [hUV]
  clear hin hp hs ha hh hyy hUV
  obtain ⟨boot, ra, rc, rs, ⟨nm, pa, pc, ps, ka, kc, ks⟩⟩ := t
  replace CG : Hid (∀ k (hk : k ≤ n) W (hW : Below w.heap.size w W), Calls Try.prog 13 #[.agg #[.int .u32 boot, .slice ra rs.length rc, .string nm, .slice pa ps.length pc, .slice ka ks.length kc], .slice A k c] W fun e w' => e = .returned (getVal (nodeZ (Nd.mk nm pa pc ps ka kc ks) (z.take k))) ∧ Below W.heap.size W w') := CG
  replace HI : Hid ((Nd.mk nm pa pc ps ka kc ks).In w w.heap.size) := HI
  replace HH : Hid (heftN (Nd.mk nm pa pc ps ka kc ks) ≤ 134217728) := HH
  replace HX : Hid (∀ k, ∃ x, nodeZ (Nd.mk nm pa pc ps ka kc ks) (z.take k) = some x) := HX
  replace HUV0 : Hid (upV (Nd.mk nm pa pc ps ka kc ks) z s n at_ = UV) := HUV0
  show Calls _ _ #[.agg #[.int .u32 boot, .slice ra rs.length rc, .string nm, .slice pa ps.length pc, .slice ka ks.length kc], _, _, _] _ _
  obtain ⟨R, hR⟩ : ∃ R, Nd.mk nm pa pc ps ka kc ks = R := ⟨_, rfl⟩
  rw [hR] at HI HH HX CG HUV0
  clear hR
  have HB := Lib.hid ((Below.refl w.heap.size w).alloc (Nat.le_refl _) (.cells #[.int .u32 boot, .slice ra rs.length rc, .string nm, .slice pa ps.length pc, .slice ka ks.length kc] 31))
  obtain ⟨b0, b1, b2, b3, b4⟩ := box6_cells w (.int .u32 boot) (.slice ra rs.length rc) (.string nm) (.slice pa ps.length pc) (.slice ka ks.length kc) _ (Below.refl _ _)
  have BX := Lib.hid (box6_cells w (.int .u32 boot) (.slice ra rs.length rc) (.string nm) (.slice pa ps.length pc) (.slice ka ks.length kc))
  go_enter Try.func14, Try.ntmps14
  go_wp2_with fail
  obtain ⟨w0, hw0⟩ : ∃ w0, w0 = w.alloc (.cells #[.int .u32 boot, .slice ra rs.length rc, .string nm, .slice pa ps.length pc, .slice ka ks.length kc] 31) := ⟨_, rfl⟩
  rw [← hw0] at HB BX ⊢
  have HW0 : Hid (w0.heap.size = w.heap.size + 1) := Lib.hid (by rw [hw0]; simp)
  clear b0 b1 b2 b3 b4 hw0
  go_loopw [2, 10] (fun at_ i wr => ∃ (k : Nat) (a : Int), k ≤ n ∧ i = .int .i64 k ∧ at_ = .int .u64 a ∧ U64 a ∧ upV R z s k a = UV ∧ Below w0.heap.size w0 wr) (fun _ i _ => (intOf i).toNat)
  case atStart => exact ⟨n, at_, Nat.le_refl _, rfl, rfl, HA64.out, HUV0.out, Below.refl _ _⟩
  case round =>
    rename World => wo
    obtain ⟨q, a, hq, rfl, rfl, ha64, huv, hb⟩ := hrel
    have HBR := Lib.hid (HB.out.trans (hb.mono HB.out.size))
    have HBR0 := Lib.hid hb
    by_cases hq0 : q = 0
    · subst hq0
      have HO : Hid (UV = some a) := Lib.hid huv.symm
      clear ha64 huv hb
      go_wp2
      go_ret2
      exact ⟨by (rw [HO.out] <;> rfl), HBR.out⟩
    · obtain ⟨k, hk⟩ : ∃ k, k + 1 = q := ⟨q - 1, by omega⟩
      have hk1 : k ≤ n := by omega
      obtain ⟨ha0, ha1⟩ := ha64
      have K1 : IntKind.i64.wrap ((q : Int) - 1) = (k : Int) := by
        have e : (q : Int) - 1 = (k : Int) := by omega
        rw [e]; exact IntWalk.i64_in _ (by omega)
      have K2 : decide ((q : Int) > 0) = true := decide_eq_true (by omega)
      have K3 : (0 : Int) < (q : Int) := by omega
      have R1 : ∀ W : World, (Instr.slice 44 (.slice A n c) none (some (.int .i64 (q : Int))) none).run Try.prog W = .ok (.slice A q c) W := fun W => run_upto Try.underlying44 size_intx A n c _ q rfl (by omega) W
      have R2 : ∀ W : World, (Instr.slice 44 (.slice A n c) none (some (.int .i64 (k : Int))) none).run Try.prog W = .ok (.slice A k c) W := fun W => run_upto Try.underlying44 size_intx A n c _ k rfl (by omega) W
      obtain ⟨x, hx⟩ := HX.out q
      obtain ⟨y, hy⟩ := HX.out k
      have HXI := Lib.hid (nodeZ_in _ HI.out hx)
      have HYI := Lib.hid (nodeZ_in _ HI.out hy)
      have HXH := Lib.hid (Nat.le_trans (nodeZ_heft _ hx) HH.out)
      have HYH := Lib.hid (Nat.le_trans (nodeZ_heft _ hy) HH.out)
      have hway : wayR R z k = rangesV y x := by unfold wayR; rw [hk, hx, hy]; rfl
      have hrel0 : (if (rangesV y x).2.1 = false then none else match upOne (rangesV y x).2.2 a s with | none => none | some b => upV R z s k b) = UV := by
        rw [← huv, ← hk, upV, hway]
      have hr64 := rangesV_64 HYI.out HXI.out
      have CN := Lib.hid (fun W (hW : Below wo.heap.size wo W) => CG.out q hq W (HBR.out.trans (hW.mono HBR.out.size)))
      have CP := Lib.hid (fun W (hW : Below wo.heap.size wo W) => CG.out k hk1 W (HBR.out.trans (hW.mono HBR.out.size)))
      have CR := Lib.hid (fun W (hW : Below w.heap.size w W) => refranges_any y x W ((HYI.out.under hW).more hW.size) ((HXI.out.under hW).more hW.size) (Nat.le_trans HYH.out (by omega)) (Nat.le_trans HXH.out (by omega)))
      rw [hx] at CN
      rw [hy] at CP
      obtain ⟨o1, okr, L, hL⟩ : ∃ o1 okr L, rangesV y x = (o1, okr, L) := ⟨_, _, _, rfl⟩
      rw [hL] at CR hrel0 hr64
      have HREL : Hid ((if okr = false then none else match upOne L a s with | none => none | some b => upV R z s k b) = UV) := Lib.hid hrel0
      have H64 : Hid (∀ r ∈ L, R64 r) := Lib.hid hr64
      have HSS : Hid (∀ W, Below wo.heap.size wo W → (W.cell? ⟨w.heap.size, 0, none⟩ = some (.int .u32 boot) ∧ W.cell? ⟨w.heap.size, 1, none⟩ = some (.slice ra rs.length rc) ∧ W.cell? ⟨w.heap.size, 2, none⟩ = some (.string nm) ∧ W.cell? ⟨w.heap.size, 3, none⟩ = some (.slice pa ps.length pc) ∧ W.cell? ⟨w.heap.size, 4, none⟩ = some (.slice ka ks.length kc))) := Lib.hid (fun W hW => BX.out W ((hb.trans (hW.mono hb.size)).mono (by have := HW0.out; simp; omega)))
      clear hx hy hway hrel0 hr64 huv hb hL HXI HYI HXH HYH
      obtain ⟨xn, xpa, xpc, xps, xka, xkc, xks⟩ := x
      obtain ⟨yn, ypa, ypc, yps, yka, ykc, yks⟩ := y
      replace CN : Hid (∀ W (hW : Below wo.heap.size wo W), Calls Try.prog 13 #[.agg #[.int .u32 boot, .slice ra rs.length rc, .string nm, .slice pa ps.length pc, .slice ka ks.length kc], .slice A q c] W fun e w' => e = .returned (.tuple #[.agg #[.string xn, .slice xpa xps.length xpc, .slice xka xks.length xkc], .bool true]) ∧ Below W.heap.size W w') := CN
      replace CP : Hid (∀ W (hW : Below wo.heap.size wo W), Calls Try.prog 13 #[.agg #[.int .u32 boot, .slice ra rs.length rc, .string nm, .slice pa ps.length pc, .slice ka ks.length kc], .slice A k c] W fun e w' => e = .returned (.tuple #[.agg #[.string yn, .slice ypa yps.length ypc, .slice yka yks.length ykc], .bool true]) ∧ Below W.heap.size W w') := CP
      replace CR : Hid (∀ W (hW : Below w.heap.size w W), Calls Try.prog 10 #[.agg #[.string yn, .slice ypa yps.length ypc, .slice yka yks.length ykc], .agg #[.string xn, .slice xpa xps.length xpc, .slice xka xks.length xkc]] W fun e w' => (∃ A m c, e = .returned (.tuple #[.slice A m c, .bool o1, .bool okr]) ∧ Cel3 w' w'.heap.size A m (L.map rngV) ∧ m ≤ c ∧ c ≤ 9223372036854775807) ∧ Below W.heap.size W w') := CR
      generalize xks.length = xkl at *
      generalize xps.length = xpl at *
      generalize yks.length = ykl at *
      generalize yps.length = ypl at *
      have HD := Lib.hid (Below.refl wo.heap.size wo).drew
      go_wp2_with fail
      apply cutw
      case h =>
        intro key1
        refine wp_region_held_drew (S := fun W => W.cell? ⟨w.heap.size, 0, none⟩ = some (.int .u32 boot) ∧ W.cell? ⟨w.heap.size, 1, none⟩ = some (.slice ra rs.length rc) ∧ W.cell? ⟨w.heap.size, 2, none⟩ = some (.string nm) ∧ W.cell? ⟨w.heap.size, 3, none⟩ = some (.slice pa ps.length pc) ∧ W.cell? ⟨w.heap.size, 4, none⟩ = some (.slice ka ks.length kc)) (by kernel_rfl) (HSS.out _ HD.out) (fun hHeld => ?_)
        refine held_take 0 rfl (by kernel_rfl) (by kernel_rfl) (by kernel_rfl) (fun _ _ _ h => h) (by rfl) hHeld (v := ?_) (fun w hSw => ?_) (fun _ => ?_)
        rotate_left
        · ((try dsimp only at hSw); go_simp; (try with_reducible rfl))
        simp only [Act.put, List.setIfInBounds_toArray, List.set_cons_zero, List.set_cons_succ]
        refine held_take 1 rfl (by kernel_rfl) (by kernel_rfl) (by kernel_rfl) (fun _ _ _ h => h) (by rfl) hHeld (v := ?_) (fun w hSw => ?_) (fun _ => ?_)
        rotate_left
        · ((try dsimp only at hSw); go_simp; (try with_reducible rfl))
        simp only [Act.put, List.setIfInBounds_toArray, List.set_cons_zero, List.set_cons_succ]
        refine held_take 2 rfl (by kernel_rfl) (by kernel_rfl) (by kernel_rfl) (fun _ _ _ h => h) (by rfl) hHeld (v := ?_) (fun w hSw => ?_) (fun _ => ?_)
        rotate_left
        · ((try dsimp only at hSw); go_simp; (try with_reducible rfl))
        simp only [Act.put, List.setIfInBounds_toArray, List.set_cons_zero, List.set_cons_succ]
        refine held_take 3 rfl (by kernel_rfl) (by kernel_rfl) (by kernel_rfl) (fun _ _ _ h => h) (by rfl) hHeld (v := ?_) (fun w hSw => ?_) (fun _ => ?_)
        rotate_left
        · ((try dsimp only at hSw); go_simp; (try with_reducible rfl))
        simp only [Act.put, List.setIfInBounds_toArray, List.set_cons_zero, List.set_cons_succ]
        refine held_two 4 8 (by kernel_rfl) rfl rfl (by rfl) (by rfl) (fun K hK => ?_) (fun K hK => ?_)
        · go_simp
          refine (CN.out _ HD.out).mono ?_
          rintro e w2 ⟨rfl, hb2⟩
          have HD2 := Lib.hid (HD.out.trans hb2)
          clear hb2
          dsimp only
          refine hK.out _ _ (HSS.out _ HD2.out) (fun hHeld => ?_)
          clear hK K
          refine held_take 5 rfl (by kernel_rfl) (by kernel_rfl) (by kernel_rfl) (fun _ _ _ h => h) (by rfl) hHeld (v := ?_) (fun w hSw => ?_) (fun _ => ?_)
          rotate_left
          · ((try dsimp only at hSw); go_simp; (try with_reducible rfl))
          simp only [Act.put, List.setIfInBounds_toArray, List.set_cons_zero, List.set_cons_succ]
          refine held_take 6 rfl (by kernel_rfl) (by kernel_rfl) (by kernel_rfl) (fun _ _ _ h => h) (by rfl) hHeld (v := ?_) (fun w hSw => ?_) (fun _ => ?_)
          rotate_left
          · ((try dsimp only at hSw); go_simp; (try with_reducible rfl))
          simp only [Act.put, List.setIfInBounds_toArray, List.set_cons_zero, List.set_cons_succ]
          refine held_take 7 rfl (by kernel_rfl) (by kernel_rfl) (by kernel_rfl) (fun _ _ _ h => h) (by rfl) hHeld (v := ?_) (fun w hSw => ?_) (fun _ => ?_)
          rotate_left
          · ((try dsimp only at hSw); go_simp; (try with_reducible rfl))
          simp only [Act.put, List.setIfInBounds_toArray, List.set_cons_zero, List.set_cons_succ]
          refine held_call 8 (by kernel_rfl) rfl (by rfl) (fun K hK => ?_)
          go_simp
          refine hK.out _ _ (HSS.out _ (HD2.out.alloc HD2.out.size _)) (fun hHeld => ?_)
          clear hK K
          refine held_call 9 (by kernel_rfl) rfl (by rfl) (fun K hK => ?_)
          go_simp
          have H10 := Lib.hid (HD2.out.alloc HD2.out.size (.cells #[.string xn, .slice xpa xpl xpc, .slice xka xkl xkc] 25))
          refine hK.out _ _ (HSS.out _ H10.out) (fun hHeld => ?_)
          clear hK K
          refine held_take 10 rfl (by kernel_rfl) (by kernel_rfl) (by kernel_rfl) (fun _ _ _ h => h) (by rfl) hHeld (v := ?_) (fun w hSw => ?_) (fun _ => ?_)
          rotate_left
          · ((try dsimp only at hSw); go_simp; (try with_reducible rfl))
          simp only [Act.put, List.setIfInBounds_toArray, List.set_cons_zero, List.set_cons_succ]
          refine wpAnyH_done (by kernel_rfl) ?_ _
          clear hHeld
          obtain ⟨V, hWe⟩ : ∃ V, V = w2.alloc (.cells #[.string xn, .slice xpa xpl xpc, .slice xka xkl xkc] 25) := ⟨_, rfl⟩
          obtain ⟨gb, hgb⟩ : ∃ gb, gb = w2.heap.size := ⟨_, rfl⟩
          have hkW : V.heap[gb]? = some (.cells #[.string xn, .slice xpa xpl xpc, .slice xka xkl xkc] 25 (0, 0)) := by rw [hWe, hgb]; exact heap_alloc_new w2 _
          have hbW : Below wo.heap.size wo V := by rw [hWe]; exact H10.out
          rw [← hWe, ← hgb]
          clear hWe hgb H10 HD2
          revert V gb
          exact key1
        · go_simp
          have HZ1 := Lib.hid ((Below.refl wo.heap.size wo).alloc (Nat.le_refl _) (.cells #[.string ⟨#[]⟩, .slice none 0 0, .slice none 0 0] 25)).drew
          refine hK.out _ _ (HSS.out _ HZ1.out) (fun hHeld => ?_)
          clear hK K
          refine held_call 4 (by kernel_rfl) rfl (by rfl) (fun K hK => ?_)
          go_simp
          refine (CN.out _ HZ1.out).mono ?_
          rintro e w2 ⟨rfl, hb2⟩
          have HD2 := Lib.hid (HZ1.out.trans (hb2.mono (by simp)))
          have hz2 : w2.heap[wo.heap.size]? = some (.cells #[.string ⟨#[]⟩, .slice none 0 0, .slice none 0 0] 25 (0, 0)) := (hb2.block wo.heap.size (by simp)).trans (heap_alloc_new wo _)
          clear hb2
          dsimp only
          refine hK.out _ _ (HSS.out _ HD2.out) (fun hHeld => ?_)
          clear hK K
          refine held_take 5 rfl (by kernel_rfl) (by kernel_rfl) (by kernel_rfl) (fun _ _ _ h => h) (by rfl) hHeld (v := ?_) (fun w hSw => ?_) (fun _ => ?_)
          rotate_left
          · ((try dsimp only at hSw); go_simp; (try with_reducible rfl))
          simp only [Act.put, List.setIfInBounds_toArray, List.set_cons_zero, List.set_cons_succ]
          refine held_take 6 rfl (by kernel_rfl) (by kernel_rfl) (by kernel_rfl) (fun _ _ _ h => h) (by rfl) hHeld (v := ?_) (fun w hSw => ?_) (fun _ => ?_)
          rotate_left
          · ((try dsimp only at hSw); go_simp; (try with_reducible rfl))
          simp only [Act.put, List.setIfInBounds_toArray, List.set_cons_zero, List.set_cons_succ]
          refine held_take 7 rfl (by kernel_rfl) (by kernel_rfl) (by kernel_rfl) (fun _ _ _ h => h) (by rfl) hHeld (v := ?_) (fun w hSw => ?_) (fun _ => ?_)
          rotate_left
          · ((try dsimp only at hSw); go_simp; (try with_reducible rfl))
          simp only [Act.put, List.setIfInBounds_toArray, List.set_cons_zero, List.set_cons_succ]
          have y0 : w2.cell? ⟨wo.heap.size, 0, none⟩ = some (.string ⟨#[]⟩) := by rw [Lib.cell_of_heap hz2]; rfl
          have y1 : w2.cell? ⟨wo.heap.size, 1, none⟩ = some (.slice none 0 0) := by rw [Lib.cell_of_heap hz2]; rfl
          have y2 : w2.cell? ⟨wo.heap.size, 2, none⟩ = some (.slice none 0 0) := by rw [Lib.cell_of_heap hz2]; rfl
          have e0 := Lib.frozen_of_heap hz2 0
          have e1 := Lib.frozen_of_heap hz2 1
          have e2 := Lib.frozen_of_heap hz2 2
          refine held_call 9 (by kernel_rfl) rfl (by rfl) (fun K hK => ?_)
          go_simp
          have H10 : Hid (Below wo.heap.size wo (((w2.setCell ⟨wo.heap.size, 0, none⟩ (.string xn)).setCell ⟨wo.heap.size, 1, none⟩ (.slice xpa xpl xpc)).setCell ⟨wo.heap.size, 2, none⟩ (.slice xka xkl xkc))) := Lib.hid (below_sets HD2.out 0 _ (Nat.le_refl _) _ _ _)
          refine hK.out _ _ (HSS.out _ H10.out) (fun hHeld => ?_)
          clear hK K
          refine held_take 10 rfl (by kernel_rfl) (by kernel_rfl) (by kernel_rfl) (fun _ _ _ h => h) (by rfl) hHeld (v := ?_) (fun w hSw => ?_) (fun _ => ?_)
          rotate_left
          · ((try dsimp only at hSw); go_simp; (try with_reducible rfl))
          simp only [Act.put, List.setIfInBounds_toArray, List.set_cons_zero, List.set_cons_succ]
          refine wpAnyH_done (by kernel_rfl) ?_ _
          clear hHeld
          obtain ⟨V, hWe⟩ : ∃ V, V = (((w2.setCell ⟨wo.heap.size, 0, none⟩ (.string xn)).setCell ⟨wo.heap.size, 1, none⟩ (.slice xpa xpl xpc)).setCell ⟨wo.heap.size, 2, none⟩ (.slice xka xkl xkc)) := ⟨_, rfl⟩
          obtain ⟨gb, hgb⟩ : ∃ gb, gb = wo.heap.size := ⟨_, rfl⟩
          have hkW : V.heap[gb]? = some (.cells #[.string xn, .slice xpa xpl xpc, .slice xka xkl xkc] 25 (0, 0)) := by rw [hWe, hgb]; exact heap_set3 0 _ hz2 _ _ _
          have hbW : Below wo.heap.size wo V := by rw [hWe]; exact H10.out
          rw [← hWe, ← hgb]
          clear hWe hgb H10 HD2 hz2 y0 y1 y2 e0 e1 e2
          revert V gb
          exact key1
      intro W1 g1 hk1 hbW1
      have HD1 := Lib.hid (Below.refl W1.heap.size W1).drew
      have HBW1 := Lib.hid hbW1
      have HSS1 := Lib.hid (fun V (hV : Below W1.heap.size W1 V) => HSS.out V (HBW1.out.trans (hV.mono HBW1.out.size)))
      have CP1 := Lib.hid (fun V (hV : Below W1.heap.size W1 V) => CP.out V (HBW1.out.trans (hV.mono HBW1.out.size)))
      have HK1 := Lib.hid hk1
      clear hk1 hbW1 CN CP HD
      go_wp2_with fail
      apply cutw
      case h =>
        intro key2
        refine wp_region_held_drew (S := fun W => W.cell? ⟨w.heap.size, 0, none⟩ = some (.int .u32 boot) ∧ W.cell? ⟨w.heap.size, 1, none⟩ = some (.slice ra rs.length rc) ∧ W.cell? ⟨w.heap.size, 2, none⟩ = some (.string nm) ∧ W.cell? ⟨w.heap.size, 3, none⟩ = some (.slice pa ps.length pc) ∧ W.cell? ⟨w.heap.size, 4, none⟩ = some (.slice ka ks.length kc)) (by kernel_rfl) (HSS1.out _ HD1.out) (fun hHeld => ?_)
        refine held_take 0 rfl (by kernel_rfl) (by kernel_rfl) (by kernel_rfl) (fun _ _ _ h => h) (by rfl) hHeld (v := ?_) (fun w hSw => ?_) (fun _ => ?_)
        rotate_left
        · ((try dsimp only at hSw); go_simp; (try with_reducible rfl))
        simp only [Act.put, List.setIfInBounds_toArray, List.set_cons_zero, List.set_cons_succ]
        refine held_take 1 rfl (by kernel_rfl) (by kernel_rfl) (by kernel_rfl) (fun _ _ _ h => h) (by rfl) hHeld (v := ?_) (fun w hSw => ?_) (fun _ => ?_)
        rotate_left
        · ((try dsimp only at hSw); go_simp; (try with_reducible rfl))
        simp only [Act.put, List.setIfInBounds_toArray, List.set_cons_zero, List.set_cons_succ]
        refine held_take 2 rfl (by kernel_rfl) (by kernel_rfl) (by kernel_rfl) (fun _ _ _ h => h) (by rfl) hHeld (v := ?_) (fun w hSw => ?_) (fun _ => ?_)
        rotate_left
        · ((try dsimp only at hSw); go_simp; (try with_reducible rfl))
        simp only [Act.put, List.setIfInBounds_toArray, List.set_cons_zero, List.set_cons_succ]
        refine held_take 3 rfl (by kernel_rfl) (by kernel_rfl) (by kernel_rfl) (fun _ _ _ h => h) (by rfl) hHeld (v := ?_) (fun w hSw => ?_) (fun _ => ?_)
        rotate_left
        · ((try dsimp only at hSw); go_simp; (try with_reducible rfl))
        simp only [Act.put, List.setIfInBounds_toArray, List.set_cons_zero, List.set_cons_succ]
        refine held_take 4 rfl (by kernel_rfl) (by kernel_rfl) (by kernel_rfl) (fun _ _ _ h => h) (by rfl) hHeld (v := ?_) (fun w hSw => ?_) (fun _ => ?_)
        rotate_left
        · ((try dsimp only at hSw); go_simp; (try with_reducible rfl))
        simp only [Act.put, List.setIfInBounds_toArray, List.set_cons_zero, List.set_cons_succ]
        refine held_two 5 9 (by kernel_rfl) rfl rfl (by rfl) (by rfl) (fun K hK => ?_) (fun K hK => ?_)
        · go_simp
          refine (CP1.out _ HD1.out).mono ?_
          rintro e w2 ⟨rfl, hb2⟩
          have HD2 := Lib.hid (HD1.out.trans hb2)
          clear hb2
          dsimp only
          refine hK.out _ _ (HSS1.out _ HD2.out) (fun hHeld => ?_)
          clear hK K
          refine held_take 6 rfl (by kernel_rfl) (by kernel_rfl) (by kernel_rfl) (fun _ _ _ h => h) (by rfl) hHeld (v := ?_) (fun w hSw => ?_) (fun _ => ?_)
          rotate_left
          · ((try dsimp only at hSw); go_simp; (try with_reducible rfl))
          simp only [Act.put, List.setIfInBounds_toArray, List.set_cons_zero, List.set_cons_succ]
          refine held_take 7 rfl (by kernel_rfl) (by kernel_rfl) (by kernel_rfl) (fun _ _ _ h => h) (by rfl) hHeld (v := ?_) (fun w hSw => ?_) (fun _ => ?_)
          rotate_left
          · ((try dsimp only at hSw); go_simp; (try with_reducible rfl))
          simp only [Act.put, List.setIfInBounds_toArray, List.set_cons_zero, List.set_cons_succ]
          refine held_take 8 rfl (by kernel_rfl) (by kernel_rfl) (by kernel_rfl) (fun _ _ _ h => h) (by rfl) hHeld (v := ?_) (fun w hSw => ?_) (fun _ => ?_)
          rotate_left
          · ((try dsimp only at hSw); go_simp; (try with_reducible rfl))
          simp only [Act.put, List.setIfInBounds_toArray, List.set_cons_zero, List.set_cons_succ]
          refine held_call 9 (by kernel_rfl) rfl (by rfl) (fun K hK => ?_)
          go_simp
          refine hK.out _ _ (HSS1.out _ (HD2.out.alloc HD2.out.size _)) (fun hHeld => ?_)
          clear hK K
          refine held_call 10 (by kernel_rfl) rfl (by rfl) (fun K hK => ?_)
          go_simp
          have H10 := Lib.hid (HD2.out.alloc HD2.out.size (.cells #[.string yn, .slice ypa ypl ypc, .slice yka ykl ykc] 25))
          refine hK.out _ _ (HSS1.out _ H10.out) (fun hHeld => ?_)
          clear hK K
          refine held_take 11 rfl (by kernel_rfl) (by kernel_rfl) (by kernel_rfl) (fun _ _ _ h => h) (by rfl) hHeld (v := ?_) (fun w hSw => ?_) (fun _ => ?_)
          rotate_left
          · ((try dsimp only at hSw); go_simp; (try with_reducible rfl))
          simp only [Act.put, List.setIfInBounds_toArray, List.set_cons_zero, List.set_cons_succ]
          refine wpAnyH_done (by kernel_rfl) ?_ _
          clear hHeld
          obtain ⟨V, hWe⟩ : ∃ V, V = w2.alloc (.cells #[.string yn, .slice ypa ypl ypc, .slice yka ykl ykc] 25) := ⟨_, rfl⟩
          obtain ⟨gb, hgb⟩ : ∃ gb, gb = w2.heap.size := ⟨_, rfl⟩
          have hkW : V.heap[gb]? = some (.cells #[.string yn, .slice ypa ypl ypc, .slice yka ykl ykc] 25 (0, 0)) := by rw [hWe, hgb]; exact heap_alloc_new w2 _
          have hbW : Below W1.heap.size W1 V := by rw [hWe]; exact H10.out
          rw [← hWe, ← hgb]
          clear hWe hgb H10 HD2
          revert V gb
          exact key2
        · go_simp
          have HZ1 := Lib.hid ((Below.refl W1.heap.size W1).alloc (Nat.le_refl _) (.cells #[.string ⟨#[]⟩, .slice none 0 0, .slice none 0 0] 25)).drew
          refine hK.out _ _ (HSS1.out _ HZ1.out) (fun hHeld => ?_)
          clear hK K
          refine held_call 5 (by kernel_rfl) rfl (by rfl) (fun K hK => ?_)
          go_simp
          refine (CP1.out _ HZ1.out).mono ?_
          rintro e w2 ⟨rfl, hb2⟩
          have HD2 := Lib.hid (HZ1.out.trans (hb2.mono (by simp)))
          have hz2 : w2.heap[W1.heap.size]? = some (.cells #[.string ⟨#[]⟩, .slice none 0 0, .slice none 0 0] 25 (0, 0)) := (hb2.block W1.heap.size (by simp)).trans (heap_alloc_new W1 _)
          clear hb2
          dsimp only
          refine hK.out _ _ (HSS1.out _ HD2.out) (fun hHeld => ?_)
          clear hK K
          refine held_take 6 rfl (by kernel_rfl) (by kernel_rfl) (by kernel_rfl) (fun _ _ _ h => h) (by rfl) hHeld (v := ?_) (fun w hSw => ?_) (fun _ => ?_)
          rotate_left
          · ((try dsimp only at hSw); go_simp; (try with_reducible rfl))
          simp only [Act.put, List.setIfInBounds_toArray, List.set_cons_zero, List.set_cons_succ]
          refine held_take 7 rfl (by kernel_rfl) (by kernel_rfl) (by kernel_rfl) (fun _ _ _ h => h) (by rfl) hHeld (v := ?_) (fun w hSw => ?_) (fun _ => ?_)
          rotate_left
          · ((try dsimp only at hSw); go_simp; (try with_reducible rfl))
          simp only [Act.put, List.setIfInBounds_toArray, List.set_cons_zero, List.set_cons_succ]
          refine held_take 8 rfl (by kernel_rfl) (by kernel_rfl) (by kernel_rfl) (fun _ _ _ h => h) (by rfl) hHeld (v := ?_) (fun w hSw => ?_) (fun _ => ?_)
          rotate_left
          · ((try dsimp only at hSw); go_simp; (try with_reducible rfl))
          simp only [Act.put, List.setIfInBounds_toArray, List.set_cons_zero, List.set_cons_succ]
          have y0 : w2.cell? ⟨W1.heap.size, 0, none⟩ = some (.string ⟨#[]⟩) := by rw [Lib.cell_of_heap hz2]; rfl
          have y1 : w2.cell? ⟨W1.heap.size, 1, none⟩ = some (.slice none 0 0) := by rw [Lib.cell_of_heap hz2]; rfl
          have y2 : w2.cell? ⟨W1.heap.size, 2, none⟩ = some (.slice none 0 0) := by rw [Lib.cell_of_heap hz2]; rfl
          have e0 := Lib.frozen_of_heap hz2 0
          have e1 := Lib.frozen_of_heap hz2 1
          have e2 := Lib.frozen_of_heap hz2 2
          refine held_call 10 (by kernel_rfl) rfl (by rfl) (fun K hK => ?_)
          go_simp
          have H10 : Hid (Below W1.heap.size W1 (((w2.setCell ⟨W1.heap.size, 0, none⟩ (.string yn)).setCell ⟨W1.heap.size, 1, none⟩ (.slice ypa ypl ypc)).setCell ⟨W1.heap.size, 2, none⟩ (.slice yka ykl ykc))) := Lib.hid (below_sets HD2.out 0 _ (Nat.le_refl _) _ _ _)
          refine hK.out _ _ (HSS1.out _ H10.out) (fun hHeld => ?_)
          clear hK K
          refine held_take 11 rfl (by kernel_rfl) (by kernel_rfl) (by kernel_rfl) (fun _ _ _ h => h) (by rfl) hHeld (v := ?_) (fun w hSw => ?_) (fun _ => ?_)
          rotate_left
          · ((try dsimp only at hSw); go_simp; (try with_reducible rfl))
          simp only [Act.put, List.setIfInBounds_toArray, List.set_cons_zero, List.set_cons_succ]
          refine wpAnyH_done (by kernel_rfl) ?_ _
          clear hHeld
          obtain ⟨V, hWe⟩ : ∃ V, V = (((w2.setCell ⟨W1.heap.size, 0, none⟩ (.string yn)).setCell ⟨W1.heap.size, 1, none⟩ (.slice ypa ypl ypc)).setCell ⟨W1.heap.size, 2, none⟩ (.slice yka ykl ykc)) := ⟨_, rfl⟩
          obtain ⟨gb, hgb⟩ : ∃ gb, gb = W1.heap.size := ⟨_, rfl⟩
          have hkW : V.heap[gb]? = some (.cells #[.string yn, .slice ypa ypl ypc, .slice yka ykl ykc] 25 (0, 0)) := by rw [hWe, hgb]; exact heap_set3 0 _ hz2 _ _ _
          have hbW : Below W1.heap.size W1 V := by rw [hWe]; exact H10.out
          rw [← hWe, ← hgb]
          clear hWe hgb H10 HD2 hz2 y0 y1 y2 e0 e1 e2
          revert V gb
          exact key2
      intro W g2 hk2 hbW2
      have hk1 := (hbW2.block g1 (by have h := HK1.out; exact (Array.getElem?_eq_some_iff.1 h).1)).trans HK1.out
      have hbW := HBW1.out.trans (hbW2.mono HBW1.out.size)
      clear hbW2 HK1 HBW1 HSS1 CP1 HD1
      have c0 : W.cell? ⟨g1, 0, none⟩ = some (.string xn) := by rw [Lib.cell_of_heap hk1]; rfl
      have c1 : W.cell? ⟨g1, 1, none⟩ = some (.slice xpa xpl xpc) := by rw [Lib.cell_of_heap hk1]; rfl
      have c2 : W.cell? ⟨g1, 2, none⟩ = some (.slice xka xkl xkc) := by rw [Lib.cell_of_heap hk1]; rfl
      have e0 : W.cell? ⟨g2, 0, none⟩ = some (.string yn) := by rw [Lib.cell_of_heap hk2]; rfl
      have e1 : W.cell? ⟨g2, 1, none⟩ = some (.slice ypa ypl ypc) := by rw [Lib.cell_of_heap hk2]; rfl
      have e2 : W.cell? ⟨g2, 2, none⟩ = some (.slice yka ykl ykc) := by rw [Lib.cell_of_heap hk2]; rfl
      have HBW := Lib.hid hbW
      have HC := Lib.hid (CR.out W (HBR.out.trans (hbW.mono HBR.out.size)))
      clear hk1 hk2 hbW
      go_wp2_with fail
      refine HC.out.mono ?_
      rintro e w3 ⟨⟨A3, m3, c3, rfl, s3, l3, l3'⟩, hb3⟩
      have HB3 := Lib.hid (HBW.out.trans (hb3.mono HBW.out.size))
      have HBZ := Lib.hid (HBR.out.trans (HB3.out.mono HBR.out.size))
      have HS3 := Lib.hid s3
      have HL3 : Hid (L.length = m3) := Lib.hid (by have := s3.1; rwa [List.length_map] at this)
      clear hb3 s3 c0 c1 c2 e0 e1 e2
      cases okr
      · have HO : Hid (UV = none) := Lib.hid (by rw [← HREL.out, if_pos rfl])
        go_wp2
        go_ret2
        exact ⟨by (rw [HO.out] <;> rfl), HBZ.out⟩
      · have HREL2 : Hid ((match upOne L a s with | none => none | some b => upV R z s k b) = UV) := Lib.hid (by have h := HREL.out; rwa [if_neg (by simp)] at h)
        go_wp2_with fail
        go_loopw [2, 18, 55] (fun at_ fd i wr => ∃ (j : Nat) (f : Bool) (x : Int), j ≤ m3 ∧ i = .int .i64 j ∧ fd = .bool f ∧ at_ = .int .u64 x ∧ (f = false → x = a ∧ ∀ r ∈ L.take j, insideB r.1 r.2.2 a s = false) ∧ (f = true → upOne L a s = some x) ∧ Below w3.heap.size w3 wr) (fun _ _ i _ => m3 - (intOf i).toNat)
        case atStart => exact ⟨0, false, a, Nat.zero_le _, rfl, rfl, rfl, fun _ => ⟨rfl, by simp⟩, fun h => by (cases h), Below.refl _ _⟩
        case round =>
          obtain ⟨j, f, x, hj, rfl, rfl, rfl, hf0, hf1, hb⟩ := hrel
          have HBX := Lib.hid hb
          have HBY := Lib.hid (HB3.out.trans (hb.mono HB3.out.size))
          have HBQ := Lib.hid (HBR.out.trans (HBY.out.mono HBR.out.size))
          have HBQ0 := Lib.hid (HBR0.out.trans (HBY.out.mono HBR0.out.size))
          by_cases hlt : j < m3
          · have hjl : j < L.length := by rw [HL3.out]; exact hlt
            have hjm : j < (L.map rngV).length := by rw [List.length_map]; exact hjl
            obtain ⟨b, o, e, _, hc⟩ := (HS3.out.below hb).2 (by omega)
            obtain rfl : A3 = _ := e
            obtain ⟨p0, p1, p2⟩ := hc j hjm
            rw [List.getElem_map] at p0 p1 p2
            have hff := find_range L a s j hjl
            have h64 := H64.out _ (List.getElem_mem hjl)
            have htk : L.take (j + 1) = L.take j ++ [L[j]] := by rw [List.take_add_one, List.getElem?_eq_getElem hjl]; rfl
            generalize L[j] = Y at *
            obtain ⟨rb, rab, rsz⟩ := Y
            replace p0 : wr.cell? ⟨b, o + j * 3, none⟩ = some (.int .u64 rb) := p0
            replace p1 : wr.cell? ⟨b, o + j * 3 + 1, none⟩ = some (.int .u64 rab) := p1
            replace p2 : wr.cell? ⟨b, o + j * 3 + 2, none⟩ = some (.int .u64 rsz) := p2
            obtain ⟨⟨u1, u2⟩, ⟨u3, u4⟩, ⟨u5, u6⟩⟩ := h64
            simp only at u1 u2 u3 u4 u5 u6
            have HP : Hid (∀ V, Below wr.heap.size wr V → (V.cell? ⟨b, o + j * 3, none⟩ = some (.int .u64 rb) ∧ V.cell? ⟨b, o + j * 3 + 1, none⟩ = some (.int .u64 rab) ∧ V.cell? ⟨b, o + j * 3 + 2, none⟩ = some (.int .u64 rsz))) := Lib.hid (fun V hV => by
              have ko : ∀ {q : Addr} {v : Value}, wr.cell? q = some v → V.cell? q = some v := fun {q v} h => (hV.cell (p := q) (World.block_lt_of_cell? wr _ h)).trans h
              exact ⟨ko p0, ko p1, ko p2⟩)
            have HD2 := Lib.hid (Below.refl wr.heap.size wr).drew
            clear hc hb hjl hjm p0 p1 p2
            cases f
            · obtain ⟨rfl, hall⟩ := hf0 rfl
              have HALL := Lib.hid hall
              have HFF := Lib.hid (hff hall)
              have HTK := Lib.hid htk
              obtain ⟨ins, hins⟩ : ∃ ins, insideB rb rsz x s = ins := ⟨_, rfl⟩
              have CI := Lib.hid (fun V => refinside_any rb rsz x s V ⟨u1, u2⟩ ⟨u5, u6⟩ ⟨ha0, ha1⟩ HS64.out ins hins)
              have HINS := Lib.hid hins
              clear hf0 hf1 hff htk hall hins
              go_wp2_with fail
              refine wp_region_held_drew (S := fun V => V.cell? ⟨b, o + j * 3, none⟩ = some (.int .u64 rb) ∧ V.cell? ⟨b, o + j * 3 + 1, none⟩ = some (.int .u64 rab) ∧ V.cell? ⟨b, o + j * 3 + 2, none⟩ = some (.int .u64 rsz)) (by kernel_rfl) (HP.out _ HD2.out) (fun hHeld => ?_)
              refine held_take 0 rfl (by kernel_rfl) (by kernel_rfl) (by kernel_rfl) (fun _ _ _ h => h) (by rfl) hHeld (v := ?_) (fun w hSw => ?_) (fun _ => ?_)
              rotate_left
              · ((try dsimp only at hSw); go_simp; (try with_reducible rfl))
              simp only [Act.put, List.setIfInBounds_toArray, List.set_cons_zero, List.set_cons_succ]
              refine held_take 1 rfl (by kernel_rfl) (by kernel_rfl) (by kernel_rfl) (fun _ _ _ h => h) (by rfl) hHeld (v := ?_) (fun w hSw => ?_) (fun _ => ?_)
              rotate_left
              · ((try dsimp only at hSw); go_simp; (try with_reducible rfl))
              simp only [Act.put, List.setIfInBounds_toArray, List.set_cons_zero, List.set_cons_succ]
              refine held_take 2 rfl (by kernel_rfl) (by kernel_rfl) (by kernel_rfl) (fun _ _ _ h => h) (by rfl) hHeld (v := ?_) (fun w hSw => ?_) (fun _ => ?_)
              rotate_left
              · ((try dsimp only at hSw); go_simp; (try with_reducible rfl))
              simp only [Act.put, List.setIfInBounds_toArray, List.set_cons_zero, List.set_cons_succ]
              refine held_take 3 rfl (by kernel_rfl) (by kernel_rfl) (by kernel_rfl) (fun _ _ _ h => h) (by rfl) hHeld (v := ?_) (fun w hSw => ?_) (fun _ => ?_)
              rotate_left
              · ((try dsimp only at hSw); go_simp; (try with_reducible rfl))
              simp only [Act.put, List.setIfInBounds_toArray, List.set_cons_zero, List.set_cons_succ]
              refine held_take 4 rfl (by kernel_rfl) (by kernel_rfl) (by kernel_rfl) (fun _ _ _ h => h) (by rfl) hHeld (v := ?_) (fun w hSw => ?_) (fun _ => ?_)
              rotate_left
              · ((try dsimp only at hSw); go_simp; (try with_reducible rfl))
              simp only [Act.put, List.setIfInBounds_toArray, List.set_cons_zero, List.set_cons_succ]
              refine held_take 5 rfl (by kernel_rfl) (by kernel_rfl) (by kernel_rfl) (fun _ _ _ h => h) (by rfl) hHeld (v := ?_) (fun w hSw => ?_) (fun _ => ?_)
              rotate_left
              · ((try dsimp only at hSw); go_simp; (try with_reducible rfl))
              simp only [Act.put, List.setIfInBounds_toArray, List.set_cons_zero, List.set_cons_succ]
              refine held_take 6 rfl (by kernel_rfl) (by kernel_rfl) (by kernel_rfl) (fun _ _ _ h => h) (by rfl) hHeld (v := ?_) (fun w hSw => ?_) (fun _ => ?_)
              rotate_left
              · ((try dsimp only at hSw); go_simp; (try with_reducible rfl))
              simp only [Act.put, List.setIfInBounds_toArray, List.set_cons_zero, List.set_cons_succ]
              refine held_take 7 rfl (by kernel_rfl) (by kernel_rfl) (by kernel_rfl) (fun _ _ _ h => h) (by rfl) hHeld (v := ?_) (fun w hSw => ?_) (fun _ => ?_)
              rotate_left
              · ((try dsimp only at hSw); go_simp; (try with_reducible rfl))
              simp only [Act.put, List.setIfInBounds_toArray, List.set_cons_zero, List.set_cons_succ]
              refine held_take 8 rfl (by kernel_rfl) (by kernel_rfl) (by kernel_rfl) (fun _ _ _ h => h) (by rfl) hHeld (v := ?_) (fun w hSw => ?_) (fun _ => ?_)
              rotate_left
              · ((try dsimp only at hSw); go_simp; (try with_reducible rfl))
              simp only [Act.put, List.setIfInBounds_toArray, List.set_cons_zero, List.set_cons_succ]
              refine held_take 9 rfl (by kernel_rfl) (by kernel_rfl) (by kernel_rfl) (fun _ _ _ h => h) (by rfl) hHeld (v := ?_) (fun w hSw => ?_) (fun _ => ?_)
              rotate_left
              · ((try dsimp only at hSw); go_simp; (try with_reducible rfl))
              simp only [Act.put, List.setIfInBounds_toArray, List.set_cons_zero, List.set_cons_succ]
              refine held_take 10 rfl (by kernel_rfl) (by kernel_rfl) (by kernel_rfl) (fun _ _ _ h => h) (by rfl) hHeld (v := ?_) (fun w hSw => ?_) (fun _ => ?_)
              rotate_left
              · ((try dsimp only at hSw); go_simp; (try with_reducible rfl))
              simp only [Act.put, List.setIfInBounds_toArray, List.set_cons_zero, List.set_cons_succ]
              refine held_take 11 rfl (by kernel_rfl) (by kernel_rfl) (by kernel_rfl) (fun _ _ _ h => h) (by rfl) hHeld (v := ?_) (fun w hSw => ?_) (fun _ => ?_)
              rotate_left
              · ((try dsimp only at hSw); go_simp; (try with_reducible rfl))
              simp only [Act.put, List.setIfInBounds_toArray, List.set_cons_zero, List.set_cons_succ]
              refine held_take 12 rfl (by kernel_rfl) (by kernel_rfl) (by kernel_rfl) (fun _ _ _ h => h) (by rfl) hHeld (v := ?_) (fun w hSw => ?_) (fun _ => ?_)
              rotate_left
              · ((try dsimp only at hSw); go_simp; (try with_reducible rfl))
              simp only [Act.put, List.setIfInBounds_toArray, List.set_cons_zero, List.set_cons_succ]
              refine held_take 13 rfl (by kernel_rfl) (by kernel_rfl) (by kernel_rfl) (fun _ _ _ h => h) (by rfl) hHeld (v := ?_) (fun w hSw => ?_) (fun _ => ?_)
              rotate_left
              · ((try dsimp only at hSw); go_simp; (try with_reducible rfl))
              simp only [Act.put, List.setIfInBounds_toArray, List.set_cons_zero, List.set_cons_succ]
              refine held_take 14 rfl (by kernel_rfl) (by kernel_rfl) (by kernel_rfl) (fun _ _ _ h => h) (by rfl) hHeld (v := ?_) (fun w hSw => ?_) (fun _ => ?_)
              rotate_left
              · ((try dsimp only at hSw); go_simp; (try with_reducible rfl))
              simp only [Act.put, List.setIfInBounds_toArray, List.set_cons_zero, List.set_cons_succ]
              refine held_take 15 rfl (by kernel_rfl) (by kernel_rfl) (by kernel_rfl) (fun _ _ _ h => h) (by rfl) hHeld (v := ?_) (fun w hSw => ?_) (fun _ => ?_)
              rotate_left
              · ((try dsimp only at hSw); go_simp; (try with_reducible rfl))
              simp only [Act.put, List.setIfInBounds_toArray, List.set_cons_zero, List.set_cons_succ]
              refine held_call 16 (by kernel_rfl) rfl (by rfl) (fun K hK => ?_)
              go_simp
              refine (CI.out _).mono ?_
              rintro e w4 ⟨rfl, hb4⟩
              have HD4 := Lib.hid (HD2.out.trans hb4)
              clear hb4
              dsimp only
              refine hK.out _ _ (HP.out _ HD4.out) (fun hHeld => ?_)
              clear hK K
              refine held_take 17 rfl (by kernel_rfl) (by kernel_rfl) (by kernel_rfl) (fun _ _ _ h => h) (by rfl) hHeld (v := ?_) (fun w hSw => ?_) (fun _ => ?_)
              rotate_left
              · ((try dsimp only at hSw); go_simp; (try with_reducible rfl))
              simp only [Act.put, List.setIfInBounds_toArray, List.set_cons_zero, List.set_cons_succ]
              refine wpAnyH_done (by kernel_rfl) ?_ _
              clear hHeld
              obtain ⟨p0, p1, p2⟩ := HP.out _ HD4.out
              have HB4 := Lib.hid (HBX.out.trans (HD4.out.mono HBX.out.size))
              have HBZ4 := Lib.hid (HBQ.out.trans (HD4.out.mono HBQ.out.size))
              cases ins
              · have HAL2 : Hid (∀ r ∈ L.take (j + 1), insideB r.1 r.2.2 x s = false) := Lib.hid (fun r hr => by
                  rw [HTK.out] at hr
                  rcases List.mem_append.1 hr with h | h
                  · exact HALL.out r h
                  · rw [List.mem_singleton.1 h]; exact HINS.out)
                clear p0 p1 p2
                go_wp2
                go_roundw
                case rel => exact ⟨j + 1, false, x, by omega, by go_num, rfl, rfl, fun _ => ⟨rfl, HAL2.out⟩, fun h => by (cases h), HB4.out⟩
                case measure => simp [intOf]; omega
              · have hle := (inside_le HINS.out).1
                have HUP : Hid (upOne L x s = if 18446744073709551615 - rab < x - rb ∨ wholeB (rab + (x - rb)) s = false then none else some (rab + (x - rb))) := Lib.hid (by
                  have h := HFF.out HINS.out
                  unfold upOne
                  rw [h])
                have W1 : IntKind.u64.wrap (x - rb) = x - rb := IntWalk.u64_in _ (by omega)
                have W2 : IntKind.u64.wrap (18446744073709551615 - rab) = 18446744073709551615 - rab := IntWalk.u64_in _ (by omega)
                obtain ⟨off, hoff⟩ : ∃ off, x - rb = off := ⟨_, rfl⟩
                rw [hoff] at HUP W1
                have of0 : 0 ≤ off := by omega
                have of1 : off ≤ 18446744073709551615 := by omega
                by_cases hov : 18446744073709551615 - rab < off
                · have HO : Hid (UV = none) := Lib.hid (by have h := HREL2.out; rw [HUP.out, if_pos (.inl hov)] at h; exact h.symm)
                  have d1 : decide (off > 18446744073709551615 - rab) = true := decide_eq_true hov
                  have d2 : (off > 18446744073709551615 - rab) := hov
                  clear hov
                  go_wp2
                  go_ret2
                  exact ⟨by (rw [HO.out] <;> rfl), HBZ4.out⟩
                · have d1 : decide (off > 18446744073709551615 - rab) = false := decide_eq_false hov
                  have W3 : IntKind.u64.wrap (rab + off) = rab + off := IntWalk.u64_in _ (by omega)
                  obtain ⟨wh, hwh⟩ : ∃ wh, wholeB (rab + off) s = wh := ⟨_, rfl⟩
                  have CWH := Lib.hid (fun V => refwhole_any (rab + off) s V ⟨by omega, by omega⟩ HS64.out wh hwh)
                  have HOV := Lib.hid hov
                  have HWH := Lib.hid hwh
                  clear hov hwh
                  go_wp2_with fail
                  refine (CWH.out _).mono ?_
                  rintro e w' ⟨rfl, rfl⟩
                  cases wh
                  · have HO : Hid (UV = none) := Lib.hid (by have h := HREL2.out; rw [HUP.out, if_pos (.inr HWH.out)] at h; exact h.symm)
                    clear p0 p1 p2
                    go_wp2
                    go_ret2
                    exact ⟨by (rw [HO.out] <;> rfl), HBZ4.out⟩
                  · have HUP2 : Hid (upOne L x s = some (rab + off)) := Lib.hid (by rw [HUP.out, if_neg (by rintro (h | h); (have := HOV.out; omega); rw [HWH.out] at h; cases h)])
                    go_wp2
                    go_roundw
                    case rel => exact ⟨j + 1, true, rab + off, by omega, by go_num, rfl, rfl, fun h => by (cases h), fun _ => HUP2.out, HB4.out⟩
                    case measure => simp [intOf]; omega
            · have HF1 := Lib.hid (hf1 rfl)
              clear hf0 hf1 hff htk
              go_wp2_with fail
              refine wp_region_held_drew (S := fun V => V.cell? ⟨b, o + j * 3, none⟩ = some (.int .u64 rb) ∧ V.cell? ⟨b, o + j * 3 + 1, none⟩ = some (.int .u64 rab) ∧ V.cell? ⟨b, o + j * 3 + 2, none⟩ = some (.int .u64 rsz)) (by kernel_rfl) (HP.out _ HD2.out) (fun hHeld => ?_)
              refine held_take 0 rfl (by kernel_rfl) (by kernel_rfl) (by kernel_rfl) (fun _ _ _ h => h) (by rfl) hHeld (v := ?_) (fun w hSw => ?_) (fun _ => ?_)
              rotate_left
              · ((try dsimp only at hSw); go_simp; (try with_reducible rfl))
              simp only [Act.put, List.setIfInBounds_toArray, List.set_cons_zero, List.set_cons_succ]
              refine held_take 1 rfl (by kernel_rfl) (by kernel_rfl) (by kernel_rfl) (fun _ _ _ h => h) (by rfl) hHeld (v := ?_) (fun w hSw => ?_) (fun _ => ?_)
              rotate_left
              · ((try dsimp only at hSw); go_simp; (try with_reducible rfl))
              simp only [Act.put, List.setIfInBounds_toArray, List.set_cons_zero, List.set_cons_succ]
              refine held_take 2 rfl (by kernel_rfl) (by kernel_rfl) (by kernel_rfl) (fun _ _ _ h => h) (by rfl) hHeld (v := ?_) (fun w hSw => ?_) (fun _ => ?_)
              rotate_left
              · ((try dsimp only at hSw); go_simp; (try with_reducible rfl))
              simp only [Act.put, List.setIfInBounds_toArray, List.set_cons_zero, List.set_cons_succ]
              refine held_skip 3 rfl (by kernel_rfl) (by kernel_rfl) (by kernel_rfl) (fun _ _ _ h => h) (by rfl) hHeld (fun _ => ?_)
              simp only [Act.put, List.setIfInBounds_toArray, List.set_cons_zero, List.set_cons_succ]
              refine held_skip 4 rfl (by kernel_rfl) (by kernel_rfl) (by kernel_rfl) (fun _ _ _ h => h) (by rfl) hHeld (fun _ => ?_)
              simp only [Act.put, List.setIfInBounds_toArray, List.set_cons_zero, List.set_cons_succ]
              refine held_skip 5 rfl (by kernel_rfl) (by kernel_rfl) (by kernel_rfl) (fun _ _ _ h => h) (by rfl) hHeld (fun _ => ?_)
              simp only [Act.put, List.setIfInBounds_toArray, List.set_cons_zero, List.set_cons_succ]
              refine held_skip 6 rfl (by kernel_rfl) (by kernel_rfl) (by kernel_rfl) (fun _ _ _ h => h) (by rfl) hHeld (fun _ => ?_)
              simp only [Act.put, List.setIfInBounds_toArray, List.set_cons_zero, List.set_cons_succ]
              refine held_skip 7 rfl (by kernel_rfl) (by kernel_rfl) (by kernel_rfl) (fun _ _ _ h => h) (by rfl) hHeld (fun _ => ?_)
              simp only [Act.put, List.setIfInBounds_toArray, List.set_cons_zero, List.set_cons_succ]
              refine held_skip 8 rfl (by kernel_rfl) (by kernel_rfl) (by kernel_rfl) (fun _ _ _ h => h) (by rfl) hHeld (fun _ => ?_)
              simp only [Act.put, List.setIfInBounds_toArray, List.set_cons_zero, List.set_cons_succ]
              refine held_skip 9 rfl (by kernel_rfl) (by kernel_rfl) (by kernel_rfl) (fun _ _ _ h => h) (by rfl) hHeld (fun _ => ?_)
              simp only [Act.put, List.setIfInBounds_toArray, List.set_cons_zero, List.set_cons_succ]
              refine held_skip 10 rfl (by kernel_rfl) (by kernel_rfl) (by kernel_rfl) (fun _ _ _ h => h) (by rfl) hHeld (fun _ => ?_)
              simp only [Act.put, List.setIfInBounds_toArray, List.set_cons_zero, List.set_cons_succ]
              refine held_skip 11 rfl (by kernel_rfl) (by kernel_rfl) (by kernel_rfl) (fun _ _ _ h => h) (by rfl) hHeld (fun _ => ?_)
              simp only [Act.put, List.setIfInBounds_toArray, List.set_cons_zero, List.set_cons_succ]
              refine held_skip 12 rfl (by kernel_rfl) (by kernel_rfl) (by kernel_rfl) (fun _ _ _ h => h) (by rfl) hHeld (fun _ => ?_)
              simp only [Act.put, List.setIfInBounds_toArray, List.set_cons_zero, List.set_cons_succ]
              refine held_skip 13 rfl (by kernel_rfl) (by kernel_rfl) (by kernel_rfl) (fun _ _ _ h => h) (by rfl) hHeld (fun _ => ?_)
              simp only [Act.put, List.setIfInBounds_toArray, List.set_cons_zero, List.set_cons_succ]
              refine held_skip 14 rfl (by kernel_rfl) (by kernel_rfl) (by kernel_rfl) (fun _ _ _ h => h) (by rfl) hHeld (fun _ => ?_)
              simp only [Act.put, List.setIfInBounds_toArray, List.set_cons_zero, List.set_cons_succ]
              refine held_skip 15 rfl (by kernel_rfl) (by kernel_rfl) (by kernel_rfl) (fun _ _ _ h => h) (by rfl) hHeld (fun _ => ?_)
              simp only [Act.put, List.setIfInBounds_toArray, List.set_cons_zero, List.set_cons_succ]
              refine held_skip 16 rfl (by kernel_rfl) (by kernel_rfl) (by kernel_rfl) (fun _ _ _ h => h) (by rfl) hHeld (fun _ => ?_)
              simp only [Act.put, List.setIfInBounds_toArray, List.set_cons_zero, List.set_cons_succ]
              refine held_take 17 rfl (by kernel_rfl) (by kernel_rfl) (by kernel_rfl) (fun _ _ _ h => h) (by rfl) hHeld (v := ?_) (fun w hSw => ?_) (fun _ => ?_)
              rotate_left
              · ((try dsimp only at hSw); go_simp; (try with_reducible rfl))
              simp only [Act.put, List.setIfInBounds_toArray, List.set_cons_zero, List.set_cons_succ]
              refine wpAnyH_done (by kernel_rfl) ?_ _
              clear hHeld
              have HB4 := Lib.hid (HBX.out.trans (HD2.out.mono HBX.out.size))
              go_wp2
              go_roundw
              case rel => exact ⟨j + 1, true, x, by omega, by go_num, rfl, rfl, fun h => by (cases h), fun _ => HF1.out, HB4.out⟩
              case measure => simp [intOf]; omega
          · obtain rfl : j = m3 := by omega
            clear hb
            cases f
            · obtain ⟨rfl, hall⟩ := hf0 rfl
              have HO : Hid (UV = none) := Lib.hid (by
                have h := HREL2.out
                have h2 : upOne L x s = none := by
                  unfold upOne
                  rw [find_no_range (fun r hr => hall r (by rw [List.take_of_length_le (by rw [HL3.out]; exact Nat.le_refl _)]; exact hr))]
                rw [h2] at h
                exact h.symm)
              clear hf0 hf1 hall
              go_wp2
              go_ret2
              exact ⟨by (rw [HO.out] <;> rfl), HBQ.out⟩
            · have HX64 := Lib.hid (upOne_64 H64.out ⟨ha0, ha1⟩ (hf1 rfl))
              have HNR : Hid (upV R z s k x = UV) := Lib.hid (by have h := HREL2.out; rw [hf1 rfl] at h; exact h)
              clear hf0 hf1
              go_wp2
              go_roundw
              case rel => exact ⟨k, x, by omega, by go_num, rfl, HX64.out, HNR.out, HBQ0.out⟩
              case measure => simp [intOf]; omega
end Go.Proofs.Ytbblgkidgecdpaa
