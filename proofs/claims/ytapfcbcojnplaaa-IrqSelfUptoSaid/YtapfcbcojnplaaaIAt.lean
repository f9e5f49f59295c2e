/-
  Layer 14: the program's at.
-/
import Derived.Test.YtapfcbcojnplaaaISpotW
namespace Go.Proofs.Ytapfcbcojnplaaa
open Go.RowKit
set_option linter.unusedVariables false
set_option linter.unusedSimpArgs false

/-- What at answers. -/
def AtOut (w' : World) (R : Nd) (D : Nat → Prop) (z : List Int) (e : Ending) : Prop := (∃ b x zn, e = .returned (.tuple #[.pointer (some ⟨b, 0, none⟩), .bool true]) ∧ nodeZ R z = some x ∧ z = zn.map Int.ofNat ∧ Spot w' R D b zn x) ∨ (e = .returned (.tuple #[.pointer none, .bool false]) ∧ nodeZ R z = none)
theorem rbox_cells {w : World} {r : Nat} {t : Tr} {own : Option Nat} {er : Int} (h : w.heap[r]? = some (rbox t own er)) : (w.cell? ⟨r, 0, none⟩ = some (.int .u32 t.boot) ∧ w.cell? ⟨r, 1, none⟩ = some t.rv ∧ w.cell? ⟨r, 2, none⟩ = some (.string t.root.name) ∧ w.cell? ⟨r, 3, none⟩ = some t.root.pv ∧ w.cell? ⟨r, 4, none⟩ = some t.root.kv) ∧ w.cell? ⟨r, 5, none⟩ = some (.map own) ∧ w.cell? ⟨r, 6, none⟩ = some (.int .i64 er) := by
  refine ⟨⟨?_, ?_, ?_, ?_, ?_⟩, ?_, ?_⟩ <;> rw [Lib.cell_of_heap h] <;> rfl

set_option maxRecDepth 20000 in
set_option maxHeartbeats 4000000 in
theorem at_any (t : Tr) (r : Nat) (own : Option Nat) (er : Int) (z : List Int) (A : Option Addr) (n c : Nat) (w : World) (hr : w.heap[r]? = some (rbox t own er)) (hin : t.In w w.heap.size) (hp : Cel w w.heap.size A n (intsZ z)) (hnc : n ≤ c) (hc : c ≤ 9223372036854775807) :
    Calls Try.prog 13 #[.pointer (some ⟨r, 0, none⟩), .slice A n c] w fun e w' => AtOut w' t.root (fun k => w.heap.size ≤ k) z e ∧ Below w.heap.size w w' := by
  have HI := Lib.hid hin.root
  have HP := Lib.hid hp
  have HPL : Hid (z.length = n) := Lib.hid (by have := hp.1; rwa [List.length_map] at this)
  obtain ⟨⟨_, _, b2, b3, b4⟩, _, _⟩ := rbox_cells hr
  clear hin hp hr
  obtain ⟨R, hR⟩ : ∃ R, t.root = R := ⟨_, rfl⟩
  rw [hR] at HI b2 b3 b4 ⊢
  clear hR
  have HW0 : Hid (Spot (w.alloc (.cells #[.string R.name, R.pv, R.kv, .pointer none, .int .i64 0] 74)) R (fun k => w.heap.size ≤ k) w.heap.size [] R ∧ Below w.heap.size w (w.alloc (.cells #[.string R.name, R.pv, R.kv, .pointer none, .int .i64 0] 74))) := Lib.hid ⟨.root (Nat.le_refl _) (heap_alloc_new _ _), (Below.refl _ _).alloc (Nat.le_refl _) _⟩
  obtain ⟨RN, hRN⟩ : ∃ RN, R.name = RN := ⟨_, rfl⟩
  obtain ⟨RA, hRA⟩ : ∃ RA, R.pa = RA := ⟨_, rfl⟩
  obtain ⟨RL, hRL⟩ : ∃ RL, R.props.length = RL := ⟨_, rfl⟩
  obtain ⟨RC, hRC⟩ : ∃ RC, R.pc = RC := ⟨_, rfl⟩
  obtain ⟨SA, hSA⟩ : ∃ SA, R.ka = SA := ⟨_, rfl⟩
  obtain ⟨SL, hSL⟩ : ∃ SL, R.kids.length = SL := ⟨_, rfl⟩
  obtain ⟨SC, hSC⟩ : ∃ SC, R.kc = SC := ⟨_, rfl⟩
  simp only [Nd.pv, Nd.kv, hRN, hRA, hRL, hRC, hSA, hSL, hSC] at b2 b3 b4 HW0
  clear hRN hRA hRL hRC hSA hSL hSC
  go_enter Try.func13, Try.ntmps13
  go_wp2_with fail
  clear b2 b3 b4
  generalize w.alloc (.cells #[.string RN, .slice RA RL RC, .slice SA SL SC, .pointer none, .int .i64 0] 74) = W0 at *
  go_loopw [6, 18] (fun s i wr => ∃ (k b : Nat) (x : Nd) (zn : List Nat), k ≤ n ∧ i = .int .i64 k ∧ s = .pointer (some ⟨b, 0, none⟩) ∧ z.take k = zn.map Int.ofNat ∧ Spot wr R (fun k => w.heap.size ≤ k) b zn x ∧ Below w.heap.size w wr) (fun _ i _ => n - (intOf i).toNat)
  case atStart => exact ⟨0, w.heap.size, R, [], Nat.zero_le _, rfl, rfl, rfl, HW0.out.1, HW0.out.2⟩
  case round =>
    obtain ⟨k, b, x, zn, hk, rfl, rfl, hz, hs, hb⟩ := hrel
    have HB := Lib.hid hb
    have HS := Lib.hid hs
    have hnode := hs.node
    by_cases hlt : k < n
    · obtain ⟨pb, po, rfl, _, hcell⟩ := (HP.out.below hb).2 (by omega)
      have ck := hcell k hlt
      have hkp : k < z.length := by rw [HPL.out]; exact hlt
      rw [List.getElem?_map, List.getElem?_eq_getElem hkp] at ck
      have hzt : z.take (k + 1) = z.take k ++ [z[k]] := by rw [List.take_add_one, List.getElem?_eq_getElem hkp]; rfl
      have hzs : nodeZ R z = nodeZ x (z[k] :: z.drop (k + 1)) := by
        have e : z = z.take k ++ (z[k] :: z.drop (k + 1)) := by rw [List.getElem_cons_drop, List.take_append_drop]
        conv => lhs; rw [e, nodeZ_append, hz, hnode]
      replace ck : wr.cell? ⟨pb, po + k, none⟩ = some (.int .i64 z[k]) := ck
      generalize z[k] = q at *
      generalize z.drop (k + 1) = zr at *
      have HZS := Lib.hid hzs
      have HZT := Lib.hid (hzt.trans (by rw [hz]))
      have hxin := hs.inn HI.out
      have hkl := hxin.name_le.2.2
      have HIN := Lib.hid (HI.out.under hb |>.more hb.size)
      obtain ⟨pa, pi, hbk⟩ := hs.heap
      obtain ⟨s0, s1, s2, s3, s4⟩ := spot_cells hbk
      have HSB := Lib.hid (fun (j : Nat) (hj : j < x.kids.length) => sbelow_any R (fun k => w.heap.size ≤ k) b zn x j wr hs HB.out.size HIN.out hj)
      have HKX : Hid (∀ j : Nat, nodeZ R z = none ∨ True) := Lib.hid (fun _ => .inr trivial)
      obtain ⟨XL, hXL⟩ : ∃ XL, x.kids.length = XL := ⟨_, rfl⟩
      have HXL := Lib.hid hXL
      have hkm : XL * 64 ≤ 140737488351232 := by rw [← hXL]; exact hkl
      simp only [Nd.kv, hXL] at s2
      generalize x.ka = xka at *
      generalize x.kc = xkc at *
      clear hz hs hb hnode hcell hkp hzt hzs hxin hkl hbk s0 s1 s3 s4 hXL
      by_cases hq0 : q < 0
      · have q2 : decide (q < 0) = true := decide_eq_true hq0
        have HN : Hid (nodeZ R z = none) := Lib.hid (by rw [HZS.out, nodeZ, if_pos hq0])
        clear hq0
        go_wp2
        go_ret2
        exact ⟨.inr ⟨rfl, HN.out⟩, HB.out⟩
      · have q1 : decide (q < 0) = false := decide_eq_false hq0
        obtain ⟨q, rfl⟩ : ∃ m : Nat, q = (m : Int) := ⟨q.toNat, by omega⟩
        by_cases hqk : q < XL
        · have q2 : decide ((q : Int) ≥ (XL : Int)) = false := decide_eq_false (by omega)
          have q3 : ¬ ((q : Int) ≥ (XL : Int)) := by omega
          have hql : q < x.kids.length := by rw [HXL.out]; exact hqk
          have C := Lib.hid (HSB.out q hql)
          clear hq0
          go_wp2_with fail
          refine C.out.mono ?_
          rintro e w2 ⟨rfl, hs2, hb2⟩
          have HB2 := Lib.hid (HB.out.trans (hb2.mono HB.out.size))
          clear hb2 C
          go_wp2
          go_roundw
          case rel => exact ⟨k + 1, wr.heap.size, x.kids[q], zn ++ [q], by omega, by go_num, rfl, by rw [HZT.out, List.map_append]; rfl, hs2, HB2.out⟩
          case measure => simp [intOf]; omega
        · have q2 : decide ((q : Int) ≥ (XL : Int)) = true := decide_eq_true (by omega)
          have HN : Hid (nodeZ R z = none) := Lib.hid (by
            rw [HZS.out, nodeZ, if_neg hq0, Int.toNat_natCast, List.getElem?_eq_none (by rw [HXL.out]; omega)])
          clear hq0
          go_wp2
          go_ret2
          exact ⟨.inr ⟨rfl, HN.out⟩, HB.out⟩
    · have hzz : z = zn.map Int.ofNat := by rw [← hz, List.take_of_length_le (by rw [HPL.out]; omega)]
      have HE : Hid (nodeZ R z = some x ∧ z = zn.map Int.ofNat) := Lib.hid ⟨by rw [hzz]; exact hnode, hzz⟩
      clear hz hs hb hnode hzz
      go_wp2
      go_ret2
      exact ⟨.inl ⟨b, x, zn, rfl, HE.out.1, HE.out.2, HS.out⟩, HB.out⟩
end Go.Proofs.Ytapfcbcojnplaaa
