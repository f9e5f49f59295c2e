/-
  Layer 11: where a node at a place lies; the program's nodeAt; a node at a place, of the call's own, and what is there when it has changed.
-/
import Derived.Test.YtihlpcbebpnmkaaGreatDoorZPfind
import Derived.Test.YtihlpcbebpnmkaaGreatDoorBase6
import Derived.Test.YtihlpcbebpnmkaaGreatDoorBase11
namespace Go.Proofs.YtihlpcbebpnmkaaGreatDoor
open Go.RowKit
set_option linter.unusedVariables false
set_option linter.unusedSimpArgs false
set_option maxRecDepth 20000

/-- Where the node at a place below n lies, n at ⟨b, o⟩. -/
def adr : Nd → Nat → Nat → List Nat → Nat × Nat
  | _, b, o, [] => (b, o)
  | n, b, o, i :: P => match n.kids[i]?, n.ka with
    | some k, some a => adr k a.block (a.off + i * 3) P
    | _, _ => (b, o)
abbrev adrP (n : Nd) (b o : Nat) (P : List Nat) : Addr := ⟨(adr n b o P).1, (adr n b o P).2, none⟩
/-- n's cells at ⟨b, o⟩. -/
def NodeCells (w : World) (b o : Nat) (n : Nd) : Prop := w.cell? ⟨b, o, none⟩ = some (.string n.name) ∧ w.cell? ⟨b, o + 1, none⟩ = some n.pv ∧ w.cell? ⟨b, o + 2, none⟩ = some n.kv
theorem adr_cells {w : World} {B : Nat} : ∀ (P : List Nat) {n x : Nd} {b o : Nat}, n.In w B → NodeCells w b o n → b < B → nodeAt n P = some x → NodeCells w (adr n b o P).1 (adr n b o P).2 x ∧ (adr n b o P).1 < B
  | [], n, x, b, o, h, hc, hb, e => by
    rw [nodeAt] at e
    obtain rfl := Option.some.inj e
    exact ⟨hc, hb⟩
  | i :: P, n, x, b, o, h, hc, hb, e => by
    obtain ⟨hi, e2⟩ := nodeAt_some e
    obtain ⟨kb, ko, ek, hkb, d0, d1, d2⟩ := h.kcell hi
    have := adr_cells P (b := kb) (o := ko + i * 3) (h.kid (List.getElem_mem hi)) ⟨d0, d1, d2⟩ hkb e2
    rw [adr, List.getElem?_eq_getElem hi, ek]
    exact this
theorem adr_snoc : ∀ (P : List Nat) {n x : Nd} {b o q : Nat} {a : Addr}, nodeAt n P = some x → ∀ hq : q < x.kids.length, x.ka = some a → (∀ y Q, nodeAt n Q = some y → y.kids ≠ [] → ∃ a, y.ka = some a) → adr n b o (P ++ [q]) = (a.block, a.off + q * 3)
  | [], n, x, b, o, q, a, h, hq, ha, hk => by
    rw [nodeAt] at h
    obtain rfl := Option.some.inj h
    rw [List.nil_append, adr, List.getElem?_eq_getElem hq, ha]
    rfl
  | i :: P, n, x, b, o, q, a, h, hq, ha, hk => by
    obtain ⟨hi, e⟩ := nodeAt_some h
    obtain ⟨a2, ha2⟩ := hk n [] rfl (List.ne_nil_of_length_pos (Nat.zero_lt_of_lt hi))
    rw [List.cons_append, adr, List.getElem?_eq_getElem hi, ha2]
    exact adr_snoc P e hq ha (fun y Q hy => hk y (i :: Q) (by rw [nodeAt_cons hi]; exact hy))
theorem in_ka {w : World} {B : Nat} {n : Nd} (h : n.In w B) : ∀ y Q, nodeAt n Q = some y → y.kids ≠ [] → ∃ a, y.ka = some a := fun y Q e hne => by
  have hy := nodeAt_in11 Q h e
  obtain ⟨b, o, e2, _⟩ := hy.kcell (i := 0) (List.length_pos_iff.2 hne)
  exact ⟨_, e2⟩

theorem at_take {n x y : Nd} {P : List Nat} {k : Nat} (hy : nodeAt n P = some y) (hk : k < P.length) (hx : nodeAt n (P.take k) = some x) : ∃ h : P[k] < x.kids.length, nodeAt n (P.take (k + 1)) = some x.kids[P[k]] := by
  have : ∀ (P : List Nat) (k : Nat) {n x y : Nd} (hy : nodeAt n P = some y) (hk : k < P.length) (hx : nodeAt n (P.take k) = some x), ∃ h : P[k] < x.kids.length, nodeAt n (P.take (k + 1)) = some x.kids[P[k]] := by
    intro P
    induction P with
    | nil => intro k n x y hy hk; simp at hk
    | cons i P ih =>
      intro k n x y hy hk hx
      obtain ⟨hi, e⟩ := nodeAt_some hy
      rcases k with _ | k
      · rw [List.take_zero, nodeAt] at hx
        obtain rfl := Option.some.inj hx
        refine ⟨hi, ?_⟩
        rw [List.take_succ_cons, List.take_zero, nodeAt_cons hi, nodeAt]
        rfl
      · rw [List.take_succ_cons, nodeAt_cons hi] at hx
        obtain ⟨h1, h2⟩ := ih k e (by simpa using hk) hx
        exact ⟨h1, by rw [List.take_succ_cons, nodeAt_cons hi]; exact h2⟩
  exact this P k hy hk hx

set_option maxHeartbeats 4000000 in
theorem nodeAtP_any (R : Nd) (b o : Nat) (P : List Nat) (A : Option Addr) (n c : Nat) (w : World) (hin : R.In w w.heap.size) (hc : NodeCells w b o R) (hb : b < w.heap.size) (hp : Cel w w.heap.size A n (ints P)) (hnc : n ≤ c) (hcm : c ≤ 9223372036854775807) {y : Nd} (hy : nodeAt R P = some y) :
    Calls Tryz.prog 29 #[.pointer (some ⟨b, o, none⟩), .slice A n c] w fun e w' => e = .returned (.pointer (some (adrP R b o P))) ∧ w' = w := by
  have HI := Lib.hid hin
  have HC := Lib.hid hc
  have HB := Lib.hid hb
  have HP := Lib.hid hp
  have HY := Lib.hid hy
  have HPL : Hid (P.length = n) := Lib.hid (by have := hp.1; rwa [List.length_map] at this)
  clear hin hc hb hp hy
  go_enter Tryz.func29, Tryz.ntmps29
  go_wp2_with fail
  go_loopw [0, 9] (fun p i wr => ∃ (k : Nat) (x : Nd), k ≤ n ∧ i = .int .i64 k ∧ nodeAt R (P.take k) = some x ∧ p = .pointer (some (adrP R b o (P.take k))) ∧ wr = w) (fun _ i _ => n - (intOf i).toNat)
  case atStart => exact ⟨0, R, Nat.zero_le _, rfl, rfl, rfl, rfl⟩
  case round =>
    obtain ⟨k, x, hk, rfl, hx, rfl, rfl⟩ := hrel
    by_cases hlt : k < n
    · have HLT := Lib.hid hlt
      have hkp : k < P.length := by rw [HPL.out]; exact hlt
      obtain ⟨hq, hnx⟩ := at_take HY.out hkp hx
      have hpt : P.take (k + 1) = P.take k ++ [P[k]] := by rw [List.take_add_one, List.getElem?_eq_getElem hkp]; rfl
      obtain ⟨pb, po, rfl, _, hcell⟩ := HP.out.2 (by omega)
      have ck := hcell k hlt
      rw [List.getElem?_map, List.getElem?_eq_getElem hkp] at ck
      have hxin := nodeAt_in11 _ HI.out hx
      obtain ⟨kb, ko, ek, hkb, d0, d1, d2⟩ := hxin.kcell hq
      have hkm := hxin.klen
      have ha := adr_snoc (b := b) (o := o) _ hx hq ek (in_ka HI.out)
      rw [← hpt] at ha
      obtain ⟨⟨c0, c1, c2⟩, _⟩ := adr_cells _ HI.out HC.out HB.out hx
      replace ck : wr.cell? ⟨pb, po + k, none⟩ = some (.int .i64 (P[k] : Nat)) := ck
      have HA := Lib.hid ha
      have HNX := Lib.hid hnx
      unfold adrP
      generalize adr R b o (P.take k) = ab at *
      obtain ⟨ab, ao⟩ := ab
      dsimp only at c0 c1 c2 ⊢
      generalize P[k] = q at *
      clear hpt hnx ha hx hcell hkp d0 d1 d2 hxin
      obtain ⟨xn, xpa, xpc, xps, xka, xkc, xks⟩ := x
      obtain rfl : xka = _ := ek
      replace hkm : xks.length ≤ xkc ∧ xkc ≤ 9223372036854775807 := hkm
      replace hq : q < xks.length := hq
      replace c2 : wr.cell? ⟨ab, ao + 2, none⟩ = some (.slice (some ⟨kb, ko, none⟩) xks.length xkc) := c2
      clear c0 c1
      go_wp2
      go_roundw
      case rel => exact ⟨k + 1, _, by have := HLT.out; omega, by go_num, HNX.out, by rw [HA.out], trivial⟩
      case measure => have := HLT.out; simp [intOf]; omega
    · obtain rfl : k = n := by omega
      have ht : P.take k = P := List.take_of_length_le (by rw [HPL.out]; exact Nat.le_refl _)
      rw [ht]
      clear hx
      go_wp2
      go_ret
      exact ⟨rfl, rfl⟩

section
variable {w W W2 : World} {pb o : Nat} {t : TypeId} {cur : Array Value} {n n' n2 : Nd} {F D F' D' F2 D2 E : Nat → Prop}
/-- A node at a place below it, at its own place; and what is there when that has changed. -/
theorem LayN.deep : ∀ (P : List Nat) {w W : World} {pb o : Nat} {t : TypeId} {cur : Array Value} {n n' x : Nd} {F D F' D' : Nat → Prop}, LayN w pb o t cur n F D W n' F' D' → nodeAt n' P = some x →
    ∃ gk ok tk curk Gi, adr n' pb o P = (gk, ok) ∧ (∀ g, Gi g → F' g) ∧ (F' gk ∨ gk = pb) ∧ LayN W gk ok tk curk x Gi D' W x Gi D' ∧
      ∀ W2 x' G' D2, LayN W gk ok tk curk x Gi D' W2 x' G' D2 → ∃ n2 F2, LayN w pb o t cur n F D W2 n2 F2 D2 ∧ pureN n2 = putAt P (pureN n') (pureN x')
  | [], w, W, pb, o, t, cur, n, n', x, F, D, F', D', h, e => by
    rw [nodeAt] at e
    obtain rfl := Option.some.inj e
    exact ⟨pb, o, t, nCells cur o n', F', rfl, fun _ h => h, .inr rfl, h.now, fun W2 x' G' D2 k => ⟨x', G', h.trans k, rfl⟩⟩
  | i :: P, w, W, pb, o, t, cur, n, n', x, F, D, F', D', h, e => by
    obtain ⟨hi, e2⟩ := nodeAt_some e
    obtain ⟨gk, curk, Gi, e1, hFg, _, _, _, _, hGF, hst, hk⟩ := h.kid hi
    obtain ⟨g2, o2, t2, cur2, G2, a1, a2, a3, a4, a5⟩ := LayN.deep P hst e2
    refine ⟨g2, o2, t2, cur2, G2, ?_, fun g e => hGF g (a2 g e), ?_, a4, fun W2 x' G' D2 k => ?_⟩
    · rw [adr, List.getElem?_eq_getElem hi, e1]
      show adr n'.kids[i] gk (0 + i * 3) P = _
      rw [Nat.zero_add]
      exact a1
    · rcases a3 with a3 | a3
      · exact .inl (hGF _ a3)
      · exact .inl (by rw [a3]; exact hFg)
    · obtain ⟨k2, F2, b1, b2⟩ := a5 W2 x' G' D2 k
      refine ⟨_, _, hk W2 k2 F2 D2 b1, ?_⟩
      rw [pureN_mk]
      show PN.mk n'.name (n'.props.map PV.pure) ((n'.kids.set i k2).map pureN) = _
      have hlen : i < (n'.kids.map pureN).length := by rw [List.length_map]; exact hi
      rw [putAt, pure_kids, List.getElem?_map, List.getElem?_eq_getElem hi, List.map_set, b2]
      have e1 : (pureN n').name = n'.name := by rw [pureN_mk]; rfl
      have e2 : (pureN n').props = n'.props.map PV.pure := by rw [pureN_mk]; rfl
      show _ = PN.mk (pureN n').name (pureN n').props _
      rw [e1, e2]
end
end Go.Proofs.YtihlpcbebpnmkaaGreatDoor
