/-
  Base, part 7.
-/
import Derived.Test.YtcfinbapfhhpgaaGreatDoorBase6
import Derived.Test.YtcfinbapfhhpgaaGreatDoorBase5
import Derived.Test.YtcfinbapfhhpgaaGreatDoorBase1
import Derived.Lib.AppendZerosOnto
import Derived.Great.BuildSlice
import Derived.Lib.SlFresh
import Derived.Test.YtcfinbapfhhpgaaGreatDoorShelf
import Derived.Shelf.Strings.BuilderK
import Derived.Lib.OthersKept
import Derived.Lib.FrozenHead
namespace Go.Proofs.YtcfinbapfhhpgaaGreatDoor
open Go.RowKit
set_option linter.unusedVariables false
set_option linter.unusedSimpArgs false
set_option maxRecDepth 20000
set_option maxHeartbeats 16000000
def rng (xs : List Int) (c p : Nat) : Int × Int × Int := (numTo (xs.take c) 0 c, numTo ((xs.drop c).take p) 0 p, numTo (xs.drop (c + p)) 0 (xs.length - (c + p)))
def rngs (zs : List Int) (c p st m : Nat) : List (Int × Int × Int) := (List.range m).map fun j => rng ((zs.drop (j * st)).take st) c p
def rngV (x : Int × Int × Int) : Value × Value × Value := (.int .u64 x.1, .int .u64 x.2.1, .int .u64 x.2.2)
def qcb_ : ByteArray := ⟨#[114, 97, 110, 103, 101, 115]⟩
def qap_ (parent n : Nd) : Bool × Bool × List (Int × Int × Int) :=
 match n.props.find? fun x => decide (x.name = qcb_) with
 | none => (false, true, [])
 | some x => (if cntV n qav_ 2 <= 0 \/ cntV n qbe_ 1 < 0 \/ cntV parent qav_ 2 <= 0 \/ cntV parent qbe_ 1 < 0 \/ x.zs.length % (4 * ((cntV n qav_ 2).toNat + (cntV parent qav_ 2).toNat + (cntV n qbe_ 1).toNat)) ≠ 0 then (false, false, []) else if x.zs.length = 0 then (true, true, [(0, 0, 18446744073709551615)]) else (true, true, rngs x.zs (4 * (cntV n qav_ 2).toNat) (4 * (cntV parent qav_ 2).toNat) (4 * ((cntV n qav_ 2).toNat + (cntV parent qav_ 2).toNat + (cntV n qbe_ 1).toNat)) (x.zs.length / (4 * ((cntV n qav_ 2).toNat + (cntV parent qav_ 2).toNat + (cntV n qbe_ 1).toNat)))))
def U64 (x : Int) : Prop := 0 <= x /\ x <= 18446744073709551615
def qdf_ (a s : Int) : Bool := decide (s = 0) || decide (s - 1 <= 18446744073709551615 - a)
def qb2_ (wa ws a s : Int) : Bool := decide (s ≠ 0) && decide (ws ≠ 0) && qdf_ a s && qdf_ wa ws && (decide (wa <= a) && decide (a + (s - 1) <= wa + (ws - 1)))
def lastA (a s : Int) : Int := if qdf_ a s = true then a + (s - 1) else 18446744073709551615
def meetB (a s b t : Int) : Bool := decide (s ≠ 0) && decide (t ≠ 0) && (decide (a <= lastA b t) && decide (b <= lastA a s))
theorem qfv_ {xs : List Int} (h : ∀ z ∈ xs, 0 <= z /\ z < 256) (i : Nat) : 0 <= xs.getD i 0 /\ xs.getD i 0 < 256 := by
 rcases Nat.lt_or_ge i xs.length with hi | hi
 ·have e : xs.getD i 0 = xs[i] := by simp [List.getD, List.getElem?_eq_getElem hi]
  rw [e]; exact h _ (List.getElem_mem hi)
 ·have e : xs.getD i 0 = 0 := by simp [List.getD, List.getElem?_eq_none hi]
  rw [e]; omega
def R64 (r : Int × Int × Int) : Prop := U64 r.1 /\ U64 r.2.1 /\ U64 r.2.2
theorem rng_64 {xs : List Int} (h : ∀ z ∈ xs, 0 <= z /\ z < 256) {c p : Nat} (hc : c <= 8) (hp : p <= 8) (hs : xs.length - (c + p) <= 8) : R64 (rng xs c p) :=
 ⟨qbq_ _ 0 _ (qfv_ fun z hz => h z (List.mem_of_mem_take hz)) hc, qbq_ _ 0 _ (qfv_ fun z hz => h z (List.mem_of_mem_drop (List.mem_of_mem_take hz))) hp, qbq_ _ 0 _ (qfv_ fun z hz => h z (List.mem_of_mem_drop hz)) hs⟩
theorem qc9_ {w : World} {B : Nat} {parent n : Nd} (hpn : parent.In w B) (hin : n.In w B) : ∀ r ∈ (qap_ parent n).2.2, R64 r := by
 have hc := qdw_ hin qav_ 2 (by omega)
 have hs := qdw_ hin qbe_ 1 (by omega)
 have hp := qdw_ hpn qav_ 2 (by omega)
 unfold qap_
 split
 ·intro r hr; cases hr
 ·rename_i x hx
  have hb := (hin.prop (List.mem_of_find?_eq_some hx)).2.1.2.1
  generalize cntV parent qav_ 2 = vp at *
  generalize cntV parent qbe_ 1 = vq at *
  generalize cntV n qav_ 2 = vc at *
  generalize cntV n qbe_ 1 = vs at *
  split
  ·intro r hr; cases hr
  ·split
   ·intro r hr
    rw [List.mem_singleton.1 hr]
    exact ⟨⟨by decide, by decide⟩, ⟨by decide, by decide⟩, by decide, by decide⟩
   ·intro r hr
    obtain ⟨j, _, rfl⟩ := List.mem_map.1 hr
    refine rng_64 (fun z hz => hb z (List.mem_of_mem_drop (List.mem_of_mem_take hz))) (by omega) (by omega) ?_
    have := List.length_take_le (4 * (vc.toNat + vp.toNat + vs.toNat)) (x.zs.drop (j * (4 * (vc.toNat + vp.toNat + vs.toNat))))
    omega
def upOne (L : List (Int × Int × Int)) (a s : Int) : Option Int :=
 match L.find? fun r => qb2_ r.1 r.2.2 a s with
 | none => none
 | some r => if 18446744073709551615 - r.2.1 < a - r.1 \/ qdf_ (r.2.1 + (a - r.1)) s = false then none else some (r.2.1 + (a - r.1))
def ndZ : Nd := .mk ⟨#[]⟩ none 0 [] none 0 []
def wayR (root : Nd) (z : List Int) (k : Nat) : Bool × Bool × List (Int × Int × Int) := qap_ ((nodeZ root (z.take k)).getD ndZ) ((nodeZ root (z.take (k + 1))).getD ndZ)
def upV (root : Nd) (z : List Int) (s : Int) : Nat -> Int -> Option Int
 | 0, a => some a
 | k + 1, a => if (wayR root z k).2.1 = false then none else match upOne (wayR root z k).2.2 a s with
  | none => none
  | some b => upV root z s k b
theorem qk0_ {wa ws a s : Int} (h : qb2_ wa ws a s = true) : wa <= a /\ s ≠ 0 := by
 unfold qb2_ at h
 simp only [Bool.and_eq_true, decide_eq_true_eq] at h
 exact ⟨h.2.1, h.1.1.1.1⟩
theorem qnb_ {L : List (Int × Int × Int)} (hL : ∀ r ∈ L, R64 r) {a s b : Int} (ha : U64 a) (h : upOne L a s = some b) : U64 b := by
 unfold upOne at h
 split at h
 ·cases h
 ·rename_i r hr
  have h64 := hL r (List.mem_of_find?_eq_some hr)
  have hi := qk0_ (List.find?_some (p := fun r : Int × Int × Int => qb2_ r.1 r.2.2 a s) hr)
  split at h
  ·cases h
  ·rename_i hn
   have e := Option.some.inj h
   have h1 : ¬ (18446744073709551615 - r.2.1 < a - r.1) := fun h => hn (.inl h)
   obtain ⟨⟨r1, r2⟩, ⟨r3, r4⟩, _⟩ := h64
   exact ⟨by omega, by omega⟩
theorem qcv_ {root y : Nd} {z : List Int} (h : nodeZ root z = some y) (k : Nat) : ∃ x, nodeZ root (z.take k) = some x := by
 have e : z = z.take k ++ z.drop k := (List.take_append_drop k z).symm
 rw [e, qar_] at h
 cases hx : nodeZ root (z.take k) with
 | none => rw [hx] at h; cases h
 | some x => exact ⟨x, rfl⟩
theorem qbs_ : ∀ (p : List Int) {n x : Nd}, nodeZ n p = some x -> heftN x <= heftN n
 | [], n, x, h => by rw [nodeZ] at h; rw [Option.some.inj h]; exact Nat.le_refl _
 | i :: p, n, x, h => by
  rw [nodeZ] at h
  by_cases hi : i < 0
  ·rw [if_pos hi] at h; cases h
  rw [if_neg hi] at h
  cases hk : n.kids[i.toNat]? with
  | none => rw [hk] at h; cases h
  | some k =>
   rw [hk] at h
   obtain ⟨hlt, rfl⟩ := List.getElem?_eq_some_iff.1 hk
   have h1 := qbs_ p h
   have h2 := qbh_ n.kids _ hlt
   have h3 := qbb_ n.kids (i.toNat + 1)
   have h4 : heftN n = 16 + n.name.size + (n.props.map heftP).sum + heftL n.kids := by cases n; rw [heftN]; rfl
   omega
theorem qid_ : ∀ (L : List (Int × Int × Int)) (a s : Int) (j : Nat) (hj : j < L.length), (∀ r ∈ L.take j, qb2_ r.1 r.2.2 a s = false) -> qb2_ L[j].1 L[j].2.2 a s = true -> L.find? (fun r => qb2_ r.1 r.2.2 a s) = some L[j]
 | x :: l, a, s, 0, _, _, e => by rw [List.find?_cons_of_pos (by simpa using e)]; rfl
 | x :: l, a, s, j + 1, hj, ha, e => by
  rw [List.find?_cons_of_neg (by simpa using ha x (by simp))]
  exact qid_ l a s j (by simpa using hj) (fun y hy => ha y (by simp [hy])) (by simpa using e)
theorem qig_ {L : List (Int × Int × Int)} {a s : Int} (ha : ∀ r ∈ L, qb2_ r.1 r.2.2 a s = false) : L.find? (fun r => qb2_ r.1 r.2.2 a s) = none := by
 rw [List.find?_eq_none]
 intro x hx
 simpa using ha x hx
theorem cutw {P Q : Prop} (h : P -> Q) (p : P) : Q := h p
def wayL (R : Nd) (z : List Int) (n : Nat) : List Nd := (List.range (n + 1)).map fun j => (nodeZ R (z.take j)).getD ndZ
theorem qbx_ (R : Nd) (z : List Int) (n : Nat) : (wayL R z n).length = n + 1 := by simp [wayL]
theorem qhx_ (R : Nd) (z : List Int) (n : Nat) : wayL R z (n + 1) = wayL R z n ++ [(nodeZ R (z.take (n + 1))).getD ndZ] := by rw [wayL, List.range_succ, List.map_append]; rfl
theorem qnc_ (R : Nd) (z : List Int) (n j : Nat) (h : j < (wayL R z n).length) : (wayL R z n)[j] = (nodeZ R (z.take j)).getD ndZ := by simp [wayL]
def Nd.tri (x : Nd) : Value × Value × Value := (.string x.name, x.pv, x.kv)
theorem qji_ : (Tryz.prog.info? 27).map (fun i => (i.zero, i.size, i.bytes)) = some (some (.agg #[.string ⟨#[]⟩, .slice none 0 0, .slice none 0 0]), 3, 64) := by kernel_rfl
theorem qk8_ {W : World} {b : Nat} {v0 v1 v2 : Value} {t : TypeId} {fz : Nat × Nat} (h : W.heap[b]? = some (.cells #[v0, v1, v2] t fz)) (u0 u1 u2 : Value) : (((W.setCell ⟨b, 0, none⟩ u0).setCell ⟨b, 1, none⟩ u1).setCell ⟨b, 2, none⟩ u2).heap[b]? = some (.cells #[u0, u1, u2] t fz) /\ (((W.setCell ⟨b, 0, none⟩ u0).setCell ⟨b, 1, none⟩ u1).setCell ⟨b, 2, none⟩ u2).heap.size = W.heap.size /\
  (∀ k, k ≠ b -> (((W.setCell ⟨b, 0, none⟩ u0).setCell ⟨b, 1, none⟩ u1).setCell ⟨b, 2, none⟩ u2).heap[k]? = W.heap[k]?) /\ ∀ g, g <= b -> Below g W (((W.setCell ⟨b, 0, none⟩ u0).setCell ⟨b, 1, none⟩ u1).setCell ⟨b, 2, none⟩ u2) := by
 refine ⟨by simp [World.setCell, Array.getElem?_modify, h], by simp [World.setCell], fun k hk => by rw [Below.heap_setCell _ _ _ _ hk, Below.heap_setCell _ _ _ _ hk, Below.heap_setCell _ _ _ _ hk], fun g hg => ?_⟩
 exact (((Below.refl g W).setCell (p := ⟨b, 0, none⟩) hg u0).setCell (p := ⟨b, 1, none⟩) hg u1).setCell (p := ⟨b, 2, none⟩) hg u2
theorem xway_any (t : Tr) (z : List Int) (A : Option Addr) (n c : Nat) (w : World) (hin : t.In w w.heap.size) (hp : Cel w w.heap.size A n (intsZ z)) (hnc : n <= c) (hc : c <= 9223372036854775807) (hn40 : n <= 40) :
  Calls Tryz.prog 117 #[t.val, .slice A n c] w fun e w' => (nodeZ t.root z = none -> e = .returned (.tuple #[.slice none 0 0, .bool false])) /\ ((∃ y, nodeZ t.root z = some y) -> ∃ A' c', e = .returned (.tuple #[.slice A' (n + 1) c', .bool true]) /\ Cel3 w' w'.heap.size A' (n + 1) ((wayL t.root z n).map Nd.tri) /\ n + 1 <= c' /\ c' <= 9223372036854775807) /\ Below w.heap.size w w' := by
 have HI := Lib.hid hin.root
 have HP := Lib.hid hp
 have HPL : Hid (z.length = n) := Lib.hid (by have := hp.1; rwa [List.length_map] at this)
 clear hin hp
 obtain ⟨boot, ra, rc, rs, ⟨nm, pa, pc, ps, ka, kc, ks⟩⟩ := t
 replace HI : Hid ((Nd.mk nm pa pc ps ka kc ks).In w w.heap.size) := HI
 show Calls _ _ #[.agg #[.int .u32 boot, .slice ra rs.length rc, .string nm, .slice pa ps.length pc, .slice ka ks.length kc], .slice A n c] w (fun e w' => (nodeZ (Nd.mk nm pa pc ps ka kc ks) z = none -> e = .returned (.tuple #[.slice none 0 0, .bool false])) /\ ((∃ y, nodeZ (Nd.mk nm pa pc ps ka kc ks) z = some y) -> ∃ A' c', e = .returned (.tuple #[.slice A' (n + 1) c', .bool true]) /\ Cel3 w' w'.heap.size A' (n + 1) ((wayL (Nd.mk nm pa pc ps ka kc ks) z n).map Nd.tri) /\ n + 1 <= c' /\ c' <= 9223372036854775807) /\ Below w.heap.size w w')
 obtain ⟨R, hR⟩ : ∃ R, Nd.mk nm pa pc ps ka kc ks = R := ⟨_, rfl⟩
 have HRE := Lib.hid hR
 rw [hR] at HI ⊢
 clear hR
 obtain ⟨g, hg⟩ : ∃ g, w.heap.size = g := ⟨_, rfl⟩
 have HG := Lib.hid hg
 obtain ⟨b0, b1, b2, b3, b4⟩ := qa2_ w (.int .u32 boot) (.slice ra rs.length rc) (.string nm) (.slice pa ps.length pc) (.slice ka ks.length kc) _ (Below.refl _ _)
 obtain ⟨V0, hV0⟩ : ∃ V0, w.alloc (.cells #[.int .u32 boot, .slice ra rs.length rc, .string nm, .slice pa ps.length pc, .slice ka ks.length kc] 29) = V0 := ⟨_, rfl⟩
 have zV0 : V0.heap.size = g + 1 := by rw [<- hV0]; simp [hg]
 have bV0 : Below g w V0 := by rw [<- hV0]; exact (Below.refl _ _).alloc (by rw [hg]; exact Nat.le_refl _) _
 rw [hV0, hg] at b0 b1 b2 b3 b4
 obtain ⟨V1, hV1⟩ : ∃ V1, V0.alloc (.cells #[.string nm, .slice pa ps.length pc, .slice ka ks.length kc] 27) = V1 := ⟨_, rfl⟩
 have zV1 : V1.heap.size = g + 2 := by rw [<- hV1]; simp [zV0]
 have bV1 : Below (g + 1) V0 V1 := by rw [<- hV1]; exact (Below.refl _ _).alloc (by rw [zV0]; exact Nat.le_refl _) _
 have nV1 : V1.heap[g + 1]? = some (.cells #[.string nm, .slice pa ps.length pc, .slice ka ks.length kc] 27 (0, 0)) := by rw [<- hV1, <- zV0]; exact heap_alloc_new _ _
 have v0 : V1.cell? ⟨g + 1, 0, none⟩ = some (.string nm) := by rw [Lib.cell_of_heap nV1]; rfl
 have v1 : V1.cell? ⟨g + 1, 1, none⟩ = some (.slice pa ps.length pc) := by rw [Lib.cell_of_heap nV1]; rfl
 have v2 : V1.cell? ⟨g + 1, 2, none⟩ = some (.slice ka ks.length kc) := by rw [Lib.cell_of_heap nV1]; rfl
 obtain ⟨V2, hV2⟩ : ∃ V2, V1.alloc (.cells #[.string nm, .slice pa ps.length pc, .slice ka ks.length kc] 27) = V2 := ⟨_, rfl⟩
 have bV2 : Below (g + 2) V1 V2 := by rw [<- hV2]; exact (Below.refl _ _).alloc (by rw [zV1]; exact Nat.le_refl _) _
 have nV2 : V2.ownsRow (g + 2) 27 3 (.slice (some ⟨g + 2, 0, none⟩) 1 1) 1 (flatT ((wayL R z 0).map Nd.tri)) := by
  have h : (V1.alloc (.cells #[.string nm, .slice pa ps.length pc, .slice ka ks.length kc] 27)).ownsRow (g + 2) 27 3 (.slice (some ⟨V1.heap.size, 0, none⟩) 1 1) 1 (flatT [Nd.tri (Nd.mk nm pa pc ps ka kc ks)]) := qiu_ V1 (g + 2) (by rw [zV1]; exact Nat.le_refl _) 27 (Nd.tri (Nd.mk nm pa pc ps ka kc ks))
  rw [hV2, zV1, HRE.out] at h
  have e : (wayL R z 0).map Nd.tri = [Nd.tri R] := by simp [wayL, nodeZ]
  rw [e]
  exact h
 have HST : Hid (V2.heap[g + 1]? = some (.cells #[.string R.name, R.pv, R.kv] 27 (0, 0)) /\ V2.ownsRow (g + 2) 27 3 (.slice (some ⟨g + 2, 0, none⟩) 1 1) 1 (flatT ((wayL R z 0).map Nd.tri)) /\ Below g w V2) := Lib.hid ⟨by rw [<- HRE.out]; exact (bV2.block _ (by omega)).trans nV1, nV2, bV0.trans ((bV1.mono (by omega)).trans (bV2.mono (by omega)))⟩
 have ZV0 := Lib.hid zV0
 have ZV1 := Lib.hid zV1
 clear bV0 bV1 bV2 nV1 nV2
 go_enter Tryz.func117, Tryz.ntmps117
 go_wp2_with fail
 clear b0 b1 b2 b3 b4 v0 v1 v2 hV0 hV1 hV2 zV0 zV1
 go_loopw [7, 16] (fun l i wr => ∃ (k : Nat) (x : Nd) (Av : Option Addr) (cv : Nat), k <= n /\ i = .int .i64 k /\ l = .slice Av (k + 1) cv /\ nodeZ R (z.take k) = some x /\ wr.heap[g + 1]? = some (.cells #[.string x.name, x.pv, x.kv] 27 (0, 0)) /\ wr.ownsRow (g + 2) 27 3 (.slice Av (k + 1) cv) (k + 1) (flatT ((wayL R z k).map Nd.tri)) /\ Below g w wr) (fun _ i _ => n - (intOf i).toNat)
 case atStart =>
  obtain ⟨a1, a2, a3⟩ := HST.out
  exact ⟨0, R, _, _, Nat.zero_le _, rfl, rfl, rfl, a1, a2, a3⟩
 case round =>
  obtain ⟨k, x, Av, cv, hk, rfl, rfl, hx, hbk, hown, hb⟩ := hrel
  have HX := Lib.hid hx
  have HBK := Lib.hid hbk
  have HB := Lib.hid hb
  have HOWN := Lib.hid hown
  have hxin := (qa9_ _ HI.out hx).under (by rw [HG.out]; exact hb)
  by_cases hlt : k < n
  ·obtain ⟨pb, po, rfl, _, hcell⟩ := (HP.out.below (by rw [HG.out]; exact hb)).2 (by omega)
   have ck := hcell k hlt
   have hkp : k < z.length := by rw [HPL.out]; exact hlt
   rw [List.getElem?_map, List.getElem?_eq_getElem hkp] at ck
   have hzt : z.take (k + 1) = z.take k ++ [z[k]] := by rw [List.take_add_one, List.getElem?_eq_getElem hkp]; rfl
   have hzs : nodeZ R z = nodeZ x (z[k] :: z.drop (k + 1)) := by
    have e : z = z.take k ++ (z[k] :: z.drop (k + 1)) := by rw [List.getElem_cons_drop, List.take_append_drop]
    conv => lhs; rw [e, qar_, hx]
   have hzn : nodeZ R (z.take (k + 1)) = nodeZ x [z[k]] := by rw [hzt, qar_, hx]
   replace ck : wr.cell? ⟨pb, po + k, none⟩ = some (.int .i64 z[k]) := ck
   generalize z[k] = q at *
   generalize z.drop (k + 1) = zr at *
   have HZS := Lib.hid hzs
   have HZN := Lib.hid hzn
   have hkm := hxin.klen
   have hkl := hxin.name_le.2.2
   have HKC := Lib.hid (fun i (hi : i < x.kids.length) => hxin.kcell hi)
   clear hzt hzs hzn hcell hkp hb hx hxin hown
   obtain ⟨xn, xpa, xpc, xps, xka, xkc, xks⟩ := x
   replace hkm : xks.length <= xkc /\ xkc <= 9223372036854775807 := hkm
   replace hkl : xks.length * 64 <= 140737488351232 := hkl
   replace hbk : wr.heap[g + 1]? = some (.cells #[.string xn, .slice xpa xps.length xpc, .slice xka xks.length xkc] 27 (0, 0)) := hbk
   have c0 : wr.cell? ⟨g + 1, 0, none⟩ = some (.string xn) := by rw [Lib.cell_of_heap hbk]; rfl
   have c1 : wr.cell? ⟨g + 1, 1, none⟩ = some (.slice xpa xps.length xpc) := by rw [Lib.cell_of_heap hbk]; rfl
   have c2 : wr.cell? ⟨g + 1, 2, none⟩ = some (.slice xka xks.length xkc) := by rw [Lib.cell_of_heap hbk]; rfl
   have f0 := Lib.frozen_of_heap hbk 0
   have f1 := Lib.frozen_of_heap hbk 1
   have f2 := Lib.frozen_of_heap hbk 2
   clear hbk
   by_cases hq0 : q < 0
   ·have q2 : decide (q < 0) = true := decide_eq_true hq0
    have HN : Hid (nodeZ R z = none) := Lib.hid (by rw [HZS.out, nodeZ, if_pos hq0])
    clear hq0
    go_wp2
    go_ret2
    exact ⟨fun _ => rfl, fun h => by (rw [HN.out] at h; obtain ⟨_, h⟩ := h; cases h), by rw [HG.out]; exact HB.out⟩
   ·have q1 : decide (q < 0) = false := decide_eq_false hq0
    by_cases hqk : q.toNat < xks.length
    ·obtain ⟨kb, ko, ek, _, d0, d1, d2⟩ := HKC.out _ hqk
     obtain ⟨q, rfl⟩ : ∃ m : Nat, q = (m : Int) := ⟨q.toNat, by omega⟩
     simp only [Int.toNat_natCast] at hqk d0 d1 d2
     obtain rfl : xka = _ := ek
     have q2 : decide ((q : Int) >= (xks.length : Int)) = false := decide_eq_false (by omega)
     have q3 : decide ((xks.length : Int) <= (q : Int)) = false := decide_eq_false (by omega)
     have HNX : Hid (nodeZ R (z.take (k + 1)) = some xks[q]) := Lib.hid (by
      rw [HZN.out, nodeZ, if_neg (by omega)]
      simp only [Int.toNat_natCast, Nd.kids, List.getElem?_eq_getElem hqk]
      rfl)
     replace d0 : wr.cell? ⟨kb, ko + q * 3, none⟩ = some (.string xks[q].name) := d0
     replace d1 : wr.cell? ⟨kb, ko + q * 3 + 1, none⟩ = some xks[q].pv := d1
     replace d2 : wr.cell? ⟨kb, ko + q * 3 + 2, none⟩ = some xks[q].kv := d2
     obtain ⟨y, hy⟩ : ∃ y, xks[q] = y := ⟨_, rfl⟩
     rw [hy] at HNX d0 d1 d2
     clear hy HKC HZS HZN HX
     obtain ⟨yn, ypa, ypc, yps, yka, ykc, yks⟩ := y
     replace d0 : wr.cell? ⟨kb, ko + q * 3, none⟩ = some (.string yn) := d0
     replace d1 : wr.cell? ⟨kb, ko + q * 3 + 1, none⟩ = some (.slice ypa yps.length ypc) := d1
     replace d2 : wr.cell? ⟨kb, ko + q * 3 + 2, none⟩ = some (.slice yka yks.length ykc) := d2
     obtain ⟨Ws, hWs⟩ : ∃ Ws, ((wr.setCell ⟨g + 1, 0, none⟩ (.string yn)).setCell ⟨g + 1, 1, none⟩ (.slice ypa yps.length ypc)).setCell ⟨g + 1, 2, none⟩ (.slice yka yks.length ykc) = Ws := ⟨_, rfl⟩
     obtain ⟨t1, t2, t3, t4⟩ := qk8_ HBK.out (.string yn) (.slice ypa yps.length ypc) (.slice yka yks.length ykc)
     rw [hWs] at t1 t2 t3 t4
     have e0 : Ws.cell? ⟨g + 1, 0, none⟩ = some (.string yn) := by rw [Lib.cell_of_heap t1]; rfl
     have e1 : Ws.cell? ⟨g + 1, 1, none⟩ = some (.slice ypa yps.length ypc) := by rw [Lib.cell_of_heap t1]; rfl
     have e2 : Ws.cell? ⟨g + 1, 2, none⟩ = some (.slice yka yks.length ykc) := by rw [Lib.cell_of_heap t1]; rfl
     have hso : Ws.ownsRow (g + 2) 27 3 (.slice Av (k + 1) cv) (k + 1) (flatT ((wayL R z k).map Nd.tri)) := HOWN.out.kept (row := some (g + 1)) ⟨(t4 g (by omega)).os, (t4 g (by omega)).tape, (t4 g (by omega)).output, by rw [t2]; exact Nat.le_refl _, fun j hj hne => t3 j (fun h => hne (by rw [h]))⟩ (by
      rcases h : (Value.slice Av (k + 1) cv).ownBlock with _ | j
      ·exact .inl rfl
      ·refine .inr (fun e => ?_)
       have := (HOWN.out.lt j h).1
       have := Option.some.inj e
       omega)
     have hsz : g + 2 <= Ws.heap.size := by
      rw [t2]
      have h := Array.getElem?_eq_some_iff.1 HBK.out
      have := h.1
      omega
     obtain ⟨i0, hi, hz, hs1, hby⟩ := qaw_ qji_
     obtain ⟨A', c', w5, r5, o5, b5, _, _⟩ := qf7_ Tryz.underlying25 hi hz hs1 hby rfl (w := Ws) hso (Nd.tri (Nd.mk yn ypa ypc yps yka ykc yks)) rfl rfl rfl (by omega) (by omega) hsz 25
     replace r5 : (Builtin.append_ #[25, 25] 25 #[.slice Av (k + 1) cv, .slice (some ⟨Ws.heap.size, 0, none⟩) 1 1]).run Tryz.prog (Ws.alloc (.cells #[.string yn, .slice ypa yps.length ypc, .slice yka yks.length ykc] 27)) = .ok (.slice A' (k + 1 + 1) c') w5 := r5
     have HR5 := Lib.hid r5
     have HN5 : Hid (w5.heap[g + 1]? = some (.cells #[.string (Nd.mk yn ypa ypc yps yka ykc yks).name, (Nd.mk yn ypa ypc yps yka ykc yks).pv, (Nd.mk yn ypa ypc yps yka ykc yks).kv] 27 (0, 0))) := Lib.hid ((b5.block (g + 1) (by omega)).trans t1)
     have HO5 : Hid (w5.ownsRow (g + 2) 27 3 (.slice A' (k + 1 + 1) c') (k + 1 + 1) (flatT ((wayL R z (k + 1)).map Nd.tri))) := Lib.hid (by
      rw [qhx_, HNX.out, List.map_append]
      exact o5)
     have HB5 : Hid (Below g w w5) := Lib.hid (HB.out.trans ((t4 g (by omega)).trans (b5.mono (by omega))))
     generalize xks.length = xkl at *
     generalize yks.length = ykl at *
     generalize yps.length = ypl at *
     clear t1 t2 t3 t4 hso o5 b5 hi hz hs1 hby r5
     go_wp2_with (at_builtin; refine Lib.wpList_append_run_sl _ rfl _ _ _ rfl _ _ rfl rfl HR5.out ?_)
     go_roundw
     case rel => exact ⟨k + 1, Nd.mk yn ypa ypc yps yka ykc yks, A', c', by omega, by go_num, rfl, HNX.out, HN5.out, HO5.out, HB5.out⟩
     case measure => simp [intOf]; omega
    ·have q2 : decide (q >= (xks.length : Int)) = true := decide_eq_true (by omega)
     have q3 : decide ((xks.length : Int) <= q) = true := decide_eq_true (by omega)
     have HN : Hid (nodeZ R z = none) := Lib.hid (by
      rw [HZS.out, nodeZ, if_neg hq0]
      simp only [Nd.kids, List.getElem?_eq_none (Nat.le_of_not_lt hqk)])
     clear hq0 hqk
     generalize xks.length = xkl at *
     go_wp2
     go_ret2
     exact ⟨fun _ => rfl, fun h => by (rw [HN.out] at h; obtain ⟨_, h⟩ := h; cases h), by rw [HG.out]; exact HB.out⟩
  ·obtain rfl : k = n := by omega
   have HT : Hid (nodeZ R z = some x) := Lib.hid (by
    have e : z.take k = z := List.take_of_length_le (by rw [HPL.out]; exact Nat.le_refl _)
    rw [<- hx, e])
   obtain ⟨Av', cv', e', hcel, hc1, hc2, _⟩ := qcu_ hown
   simp only [Value.slice.injEq, true_and] at e'
   obtain ⟨rfl, rfl⟩ := e'
   have HCEL := Lib.hid hcel
   have HCC := Lib.hid (And.intro hc1 hc2)
   clear hxin hx hb hbk hown hcel hc1 hc2
   go_wp2
   go_ret2
   exact ⟨fun h => by (rw [HT.out] at h; cases h), fun _ => ⟨Av, cv, rfl, HCEL.out, HCC.out.1, HCC.out.2⟩, by rw [HG.out]; exact HB.out⟩
def qbd_ : Nd -> List Nat -> List Nd
 | n, [] => [n]
 | n, i :: r => match n.kids[i]? with
  | none => [n]
  | some k => n :: qbd_ k r
theorem qf9_ : ∀ (p : List Nat) {n x : Nd} {i : Nat}, qaj_ n p = some x -> ∀ hi : i < x.kids.length, qbd_ n (p ++ [i]) = qbd_ n p ++ [x.kids[i]]
 | [], n, x, i, h, hi => by
  rw [qaj_] at h
  obtain rfl := Option.some.inj h
  simp [qbd_, List.getElem?_eq_getElem hi]
 | j :: p, n, x, i, h, hi => by
  obtain ⟨hj, e⟩ := qa7_ h
  rw [List.cons_append, qbd_, qbd_, List.getElem?_eq_getElem hj]
  show _ :: _ = _ :: _ ++ _
  rw [qf9_ p e hi]
  rfl
theorem qeb_ : ∀ (p : List Nat) {n x : Nd}, qaj_ n p = some x -> (qbd_ n p).length = p.length + 1
 | [], n, x, _ => rfl
 | i :: p, n, x, h => by
  obtain ⟨hi, e⟩ := qa7_ h
  rw [qbd_, List.getElem?_eq_getElem hi]
  show (_ :: _).length = _
  rw [List.length_cons, qeb_ p e, List.length_cons]
theorem qfe_ : ∀ (p : List Nat) {n x : Nd}, qaj_ n p = some x -> (qbd_ n p).tail.map Nd.name = qbw_ n p
 | [], n, x, _ => rfl
 | i :: p, n, x, h => by
  obtain ⟨hi, e⟩ := qa7_ h
  rw [qbd_, List.getElem?_eq_getElem hi, qd7_ hi]
  show (qbd_ n.kids[i] p).map Nd.name = _
  have ih := qfe_ p e
  have hh : ∃ l, qbd_ n.kids[i] p = n.kids[i] :: l := by
   cases p with
   | nil => exact ⟨[], rfl⟩
   | cons j p =>
    obtain ⟨hj, e2⟩ := qa7_ e
    exact ⟨qbd_ n.kids[i].kids[j] p, by rw [qbd_, List.getElem?_eq_getElem hj]⟩
  obtain ⟨l, hl⟩ := hh
  rw [hl] at ih ⊢
  rw [List.map_cons, <- ih]
  rfl
theorem ql8_ {n y x : Nd} {p : List Nat} {k : Nat} (hy : qaj_ n p = some y) (hk : k < p.length) (hx : qaj_ n (p.take k) = some x) : ∃ h : p[k] < x.kids.length, qaj_ n (p.take (k + 1)) = some x.kids[p[k]] /\ qbd_ n (p.take (k + 1)) = qbd_ n (p.take k) ++ [x.kids[p[k]]] := by
 have e : p = p.take k ++ (p[k] :: p.drop (k + 1)) := by rw [List.getElem_cons_drop, List.take_append_drop]
 have h := hy
 rw [e, qdb_, hx] at h
 obtain ⟨hi, _⟩ := qa7_ h
 have e2 : p.take (k + 1) = p.take k ++ [p[k]] := by rw [List.take_add_one, List.getElem?_eq_getElem hk]; rfl
 exact ⟨hi, by rw [e2]; exact qg3_ hx hi, by rw [e2]; exact qf9_ _ hx hi⟩
def flat3 (ns : List Nd) : List Value := ns.flatMap fun n => [.string n.name, n.pv, n.kv]
theorem qgj_ (ns : List Nd) : (flat3 ns).length = ns.length * 3 := by
 induction ns with
 | nil => rfl
 | cons x r ih =>
  have e : flat3 (x :: r) = [.string x.name, x.pv, x.kv] ++ flat3 r := by simp [flat3]
  rw [e, List.length_append, ih]; simp; omega
theorem flat3_app (ns : List Nd) (x : Nd) : flat3 (ns ++ [x]) = flat3 ns ++ [.string x.name, x.pv, x.kv] := by simp [flat3]
theorem qni_ : ∀ (ns : List Nd) (i : Nat) (h : i < ns.length), (flat3 ns)[i * 3]? = some (.string ns[i].name) /\ (flat3 ns)[i * 3 + 1]? = some ns[i].pv /\ (flat3 ns)[i * 3 + 2]? = some ns[i].kv
 | x :: r, 0, _ => by simp [flat3]
 | x :: r, i + 1, h => by
  have e : flat3 (x :: r) = .string x.name :: x.pv :: x.kv :: flat3 r := by simp [flat3]
  have ih := qni_ r i (by simpa using h)
  rw [e, show (i + 1) * 3 = i * 3 + 1 + 1 + 1 by omega]
  simpa using ih
theorem qdq_ {w : World} {base n : Nat} {e : TypeId} {v : Value} {ns : List Nd} (h : w.ownsRow base e 3 v n (flat3 ns)) : ∃ A c, v = .slice A n c /\ KRow w w.heap.size A ns /\ ns.length = n /\ n <= c /\ c <= 9223372036854775807 /\ (∀ b, v.ownBlock = some b -> base <= b /\ b < w.heap.size) := by
 obtain ⟨hl, ⟨rfl, rfl⟩ | ⟨g, cap, cur, rfl, hb, hg, hnc, hcm, hsz, htk⟩⟩ := h
 ·rw [qgj_] at hl
  obtain rfl : ns = [] := List.eq_nil_of_length_eq_zero (by omega)
  exact ⟨none, 0, rfl, fun h => absurd h (by simp), rfl, Nat.le_refl _, by omega, fun b h => by simp [Value.ownBlock] at h⟩
 ·rw [qgj_] at hl
  have hlz : ns.length = n := by omega
  have hlt := (Array.getElem?_eq_some_iff.1 hg).1
  have hcell : ∀ k, k < n * 3 -> w.cell? ⟨g, k, none⟩ = (flat3 ns)[k]? := fun k hk => by
   have h1 : (flat3 ns)[k]? = cur[k]? := by
    rw [<- htk, List.getElem?_take_of_lt hk, Array.getElem?_toList]
   rw [h1]
   simp [World.cell?, hg]
  refine ⟨_, cap, rfl, fun hn => ⟨g, 0, rfl, hlt, fun i hi => ?_⟩, hlz, hnc, hcm, fun b h => ?_⟩
  ·obtain ⟨a1, a2, a3⟩ := qni_ ns i hi
   rw [Nat.zero_add, hcell _ (by omega), hcell _ (by omega), hcell _ (by omega)]
   exact ⟨a1, a2, a3⟩
  ·simp [Value.ownBlock] at h
   omega
theorem qpl_ : (Tryz.prog.info? 27).map (fun i => (i.zero, i.size, i.bytes)) = some (some (.agg #[.string ByteArray.empty, .slice none 0 0, .slice none 0 0]), 3, 64) := by kernel_rfl
theorem row_one (W : World) (B : Nat) (hB : B <= W.heap.size) (x : Nd) : (W.alloc (.cells #[.string x.name, x.pv, x.kv] 27)).ownsRow B 27 3 (.slice (some ⟨W.heap.size, 0, none⟩) 1 1) 1 (flat3 [x]) :=
 ⟨by simp [flat3], .inr ⟨W.heap.size, 1, _, rfl, hB, heap_alloc_new W _, Nat.le_refl _, by unfold maxLen; omega, rfl, by simp [flat3]⟩⟩
theorem app_node {w : World} {B n : Nat} {v : Value} {ns : List Nd} (h : w.ownsRow B 27 3 v n (flat3 ns)) (x : Nd) (hn : n + 1 <= 1073741824) (hB : B <= w.heap.size) (ty : TypeId) :
  ∃ A' c' w', (Builtin.append_ #[25, 25] ty #[v, .slice (some ⟨w.heap.size, 0, none⟩) 1 1]).run Tryz.prog (w.alloc (.cells #[.string x.name, x.pv, x.kv] 27)) = .ok (.slice A' (n + 1) c') w' /\ w'.ownsRow B 27 3 (.slice A' (n + 1) c') (n + 1) (flat3 (ns ++ [x])) /\ Below B w w' /\ w.grownBy w' v.ownBlock /\ ((Value.slice A' (n + 1) c').ownBlock = v.ownBlock \/ (Value.slice A' (n + 1) c').ownBlock = some (w.heap.size + 1)) := by
 obtain ⟨i0, hi, hz, hs1, hby⟩ := qaw_ qpl_
 have h1 : (w.alloc (.cells #[.string x.name, x.pv, x.kv] 27)).ownsRow B 27 3 v n (flat3 ns) := h.alloc _
 have hb1 := (Below.refl B w).alloc hB (.cells #[.string x.name, x.pv, x.kv] 27)
 obtain ⟨v', w', r1, r2, r3, _, r5⟩ := run_append_own_at (P := Tryz.prog) (w.alloc (.cells #[.string x.name, x.pv, x.kv] 27)) B 25 ty 27 i0 _ 3 64 Tryz.underlying25 hi hz hs1 hby rfl (by omega) v _ (flat3 ns) h1 ⟨w.heap.size, 0, none⟩ 1 1 [.string x.name, x.pv, x.kv] rfl
  (fun j u hu => by
   rw [qbc_, Nat.zero_add, World.cell?_alloc_new]
   rcases j with _ | _ | _ | j
   ·simpa using hu
   ·simpa using hu
   ·simpa using hu
   ·simp at hu)
  (fun u hu => by
   simp only [List.mem_cons, List.not_mem_nil, or_false] at hu
   rcases hu with rfl | rfl | rfl <;> rfl) (by unfold maxLen; omega) (by omega) (by simp; omega)
 have r2' : w'.ownsRow B 27 3 v' (n + 1) (flat3 (ns ++ [x])) := by rw [flat3_app]; exact r2
 obtain ⟨A', c', rfl, _⟩ := qdq_ r2'
 refine ⟨A', c', w', r1, r2', hb1.grown r3 (by simp; omega) (fun q hq => (h1.lt q hq).1), ?_, by simpa using r5⟩
 have hg0 := World.grownBy_alloc w (.cells #[.string x.name, x.pv, x.kv] 27) v.ownBlock
 exact ⟨r3.os.trans hg0.os, r3.tape.trans hg0.tape, r3.output.trans hg0.output, Nat.le_trans hg0.size r3.size, fun k hk hne => (r3.block k (Nat.lt_of_lt_of_le hk hg0.size) hne).trans (hg0.block k hk hne)⟩
theorem way_any (t : Tr) (p : List Nat) (A : Option Addr) (n c : Nat) (y : Nd) (w : World) (hin : t.In w w.heap.size) (hy : qaj_ t.root p = some y) (hpl : p.length = n) (hn : n <= 16) (hp : Cel w w.heap.size A n (ints p)) (hnc : n <= c) (hc : c <= 9223372036854775807) :
  Calls Tryz.prog 81 #[t.val, .slice A n c] w fun e w' => (∃ v, e = .returned (.tuple #[v, .int .i64 0]) /\ w'.ownsRow w.heap.size 27 3 v (n + 1) (flat3 (qbd_ t.root p))) /\ Below w.heap.size w w' := by
 have HI := Lib.hid hin.root
 have HY := Lib.hid hy
 have HPL := Lib.hid hpl
 have HP := Lib.hid hp
 clear hin hy hpl hp
 obtain ⟨boot, ra, rc, rs, ⟨nm, pa, pc, ps, ka, kc, ks⟩⟩ := t
 replace HI : Hid ((Nd.mk nm pa pc ps ka kc ks).In w w.heap.size) := HI
 replace HY : Hid (qaj_ (Nd.mk nm pa pc ps ka kc ks) p = some y) := HY
 have n1 : ¬ ((n : Int) > 16) := by omega
 show Calls _ _ #[.agg #[.int .u32 boot, .slice ra rs.length rc, .string nm, .slice pa ps.length pc, .slice ka ks.length kc], .slice A n c] w (fun e w' => (∃ v, e = .returned (.tuple #[v, .int .i64 0]) /\ w'.ownsRow w.heap.size 27 3 v (n + 1) (flat3 (qbd_ (Nd.mk nm pa pc ps ka kc ks) p))) /\ Below w.heap.size w w')
 obtain ⟨R, hR⟩ : ∃ R, Nd.mk nm pa pc ps ka kc ks = R := ⟨_, rfl⟩
 have HRE := Lib.hid hR
 rw [hR] at HI HY ⊢
 clear hR
 obtain ⟨b0, b1, b2, b3, b4⟩ := qa2_ w (.int .u32 boot) (.slice ra rs.length rc) (.string nm) (.slice pa ps.length pc) (.slice ka ks.length kc) _ (Below.refl _ _)
 go_enter Tryz.func81, Tryz.ntmps81
 go_wp2_with fail
 clear b0 b1 b2 b3 b4
 have HB0 : Hid (Below w.heap.size w (((w.alloc (.cells #[.int .u32 boot, .slice ra rs.length rc, .string nm, .slice pa ps.length pc, .slice ka ks.length kc] 29)).alloc (.cells #[.string nm, .slice pa ps.length pc, .slice ka ks.length kc] 27)).alloc (.cells #[.string nm, .slice pa ps.length pc, .slice ka ks.length kc] 27))) := Lib.hid ((((Below.refl w.heap.size w).alloc (Nat.le_refl _) _).alloc (by simp) _).alloc (by simp; omega) _)
 go_loopw [7, 19] (fun l i wr => ∃ (k : Nat) (x : Nd), k <= n /\ i = .int .i64 k /\ qaj_ R (p.take k) = some x /\ wr.heap[w.heap.size + 1]? = some (.cells #[.string x.name, x.pv, x.kv] 27 (0, 0)) /\ wr.ownsRow (w.heap.size + 2) 27 3 l (k + 1) (flat3 (qbd_ R (p.take k))) /\ Below w.heap.size w wr) (fun _ i _ => n - (intOf i).toNat)
 case atStart =>
  rw [<- HRE.out] at *
  refine ⟨0, Nd.mk nm pa pc ps ka kc ks, Nat.zero_le _, rfl, rfl, ?_, ?_, HB0.out⟩
  ·rw [Below.heap_alloc _ _ _ (by simp)]
   have e0 : (w.alloc (.cells #[.int .u32 boot, .slice ra rs.length rc, .string nm, .slice pa ps.length pc, .slice ka ks.length kc] 29)).heap.size = w.heap.size + 1 := by simp
   rw [<- e0]
   exact heap_alloc_new (w.alloc (.cells #[.int .u32 boot, .slice ra rs.length rc, .string nm, .slice pa ps.length pc, .slice ka ks.length kc] 29)) _
  ·have e := row_one ((w.alloc (.cells #[.int .u32 boot, .slice ra rs.length rc, .string nm, .slice pa ps.length pc, .slice ka ks.length kc] 29)).alloc (.cells #[.string nm, .slice pa ps.length pc, .slice ka ks.length kc] 27)) (w.heap.size + 2) (by simp) (Nd.mk nm pa pc ps ka kc ks)
   have e0 : ((w.alloc (.cells #[.int .u32 boot, .slice ra rs.length rc, .string nm, .slice pa ps.length pc, .slice ka ks.length kc] 29)).alloc (.cells #[.string nm, .slice pa ps.length pc, .slice ka ks.length kc] 27)).heap.size = w.heap.size + 1 + 1 := by simp
   rw [e0] at e
   exact e
 case round =>
  obtain ⟨k, x, hk, rfl, hx, hbk, hown, hb⟩ := hrel
  have HX := Lib.hid hx
  have HBK := Lib.hid hbk
  have HO := Lib.hid hown
  have HB := Lib.hid hb
  by_cases hlt : k < n
  ·obtain ⟨pb, po, rfl, _, hcell⟩ := (HP.out.below hb).2 (by omega)
   have ck := hcell k hlt
   have hkp : k < p.length := by rw [HPL.out]; exact hlt
   rw [List.getElem?_map, List.getElem?_eq_getElem hkp] at ck
   obtain ⟨hq, hx2, hns⟩ := ql8_ HY.out hkp hx
   obtain ⟨kb, ko, ek, _, d0, d1, d2⟩ := ((qci_ _ HI.out hx).under hb).kcell hq
   replace ck : wr.cell? ⟨pb, po + k, none⟩ = some (.int .i64 (p[k] : Int)) := ck
   have HX2 := Lib.hid hx2
   have HNS := Lib.hid hns
   generalize p[k] = q at *
   replace d0 : wr.cell? ⟨kb, ko + q * 3, none⟩ = some (.string x.kids[q].name) := d0
   obtain ⟨z, hz⟩ : ∃ z, x.kids[q] = z := ⟨_, rfl⟩
   rw [hz] at HX2 HNS d0 d1 d2
   have hkm := ((qci_ _ HI.out hx).under hb).klen
   have hkl := ((qci_ _ HI.out hx).under hb).name_le.2.2
   clear hx2 hns hx hcell hown hb hz
   obtain ⟨xn, xpa, xpc, xps, xka, xkc, xks⟩ := x
   obtain ⟨zn, zpa, zpc, zps, zka, zkc, zks⟩ := z
   obtain rfl : xka = _ := ek
   replace hq : q < xks.length := hq
   replace hkm : xks.length <= xkc /\ xkc <= 9223372036854775807 := hkm
   replace hkl : xks.length * 64 <= 140737488351232 := hkl
   replace d0 : wr.cell? ⟨kb, ko + q * 3, none⟩ = some (.string zn) := d0
   replace d1 : wr.cell? ⟨kb, ko + q * 3 + 1, none⟩ = some (.slice zpa zps.length zpc) := d1
   replace d2 : wr.cell? ⟨kb, ko + q * 3 + 2, none⟩ = some (.slice zka zks.length zkc) := d2
   replace hbk : wr.heap[w.heap.size + 1]? = some (.cells #[.string xn, .slice xpa xps.length xpc, .slice (some ⟨kb, ko, none⟩) xks.length xkc] 27 (0, 0)) := hbk
   have c0 : wr.cell? ⟨w.heap.size + 1, 0, none⟩ = some (.string xn) := by rw [Lib.cell_of_heap hbk]; rfl
   have c1 : wr.cell? ⟨w.heap.size + 1, 1, none⟩ = some (.slice xpa xps.length xpc) := by rw [Lib.cell_of_heap hbk]; rfl
   have c2 : wr.cell? ⟨w.heap.size + 1, 2, none⟩ = some (.slice (some ⟨kb, ko, none⟩) xks.length xkc) := by rw [Lib.cell_of_heap hbk]; rfl
   have f0 := Lib.frozen_of_heap hbk 0
   have f1 := Lib.frozen_of_heap hbk 1
   have f2 := Lib.frozen_of_heap hbk 2
   have q1 : ¬ ((q : Int) < 0) := by omega
   have q2 : decide ((q : Int) < 0) = false := decide_eq_false q1
   have q3 : decide ((q : Int) >= (xks.length : Int)) = false := decide_eq_false (by omega)
   have q4 : ¬ ((q : Int) >= (xks.length : Int)) := by omega
   obtain ⟨A7, c7, rfl, _, _, _, _, _⟩ := qdq_ HO.out
   have hws : (((wr.setCell ⟨w.heap.size + 1, 0, none⟩ (.string zn)).setCell ⟨w.heap.size + 1, 1, none⟩ (.slice zpa zps.length zpc)).setCell ⟨w.heap.size + 1, 2, none⟩ (.slice zka zks.length zkc)).heap.size = wr.heap.size := by simp
   have hbw : Below w.heap.size w (((wr.setCell ⟨w.heap.size + 1, 0, none⟩ (.string zn)).setCell ⟨w.heap.size + 1, 1, none⟩ (.slice zpa zps.length zpc)).setCell ⟨w.heap.size + 1, 2, none⟩ (.slice zka zks.length zkc)) := ((HB.out.setCell (p := ⟨w.heap.size + 1, 0, none⟩) (Nat.le_succ _) _).setCell (p := ⟨w.heap.size + 1, 1, none⟩) (Nat.le_succ _) _).setCell (p := ⟨w.heap.size + 1, 2, none⟩) (Nat.le_succ _) _
   have hblt : w.heap.size + 1 < wr.heap.size := (Array.getElem?_eq_some_iff.1 HBK.out).1
   have RUN : Hid (∃ A' c' w', (Builtin.append_ #[25, 25] 25 #[.slice A7 (k + 1) c7, .slice (some ⟨wr.heap.size, 0, none⟩) 1 1]).run Tryz.prog ((((wr.setCell ⟨w.heap.size + 1, 0, none⟩ (.string zn)).setCell ⟨w.heap.size + 1, 1, none⟩ (.slice zpa zps.length zpc)).setCell ⟨w.heap.size + 1, 2, none⟩ (.slice zka zks.length zkc)).alloc (.cells #[.string zn, .slice zpa zps.length zpc, .slice zka zks.length zkc] 27)) = .ok (.slice A' (k + 1 + 1) c') w' /\ w'.ownsRow (w.heap.size + 2) 27 3 (.slice A' (k + 1 + 1) c') (k + 1 + 1) (flat3 (qbd_ R (p.take (k + 1)))) /\ Below w.heap.size w w' /\ w'.heap[w.heap.size + 1]? = some (.cells #[.string zn, .slice zpa zps.length zpc, .slice zka zks.length zkc] 27 (0, 0))) := by
    have ho := ownsRow_setCell_below (ownsRow_setCell_below (ownsRow_setCell_below HO.out (a := ⟨w.heap.size + 1, 0, none⟩) (Nat.lt_succ_self _) (.string zn)) (a := ⟨w.heap.size + 1, 1, none⟩) (Nat.lt_succ_self _) (.slice zpa zps.length zpc)) (a := ⟨w.heap.size + 1, 2, none⟩) (Nat.lt_succ_self _) (.slice zka zks.length zkc)
    obtain ⟨A', c', w', r, h1, h2, h3, _⟩ := app_node ho (Nd.mk zn zpa zpc zps zka zkc zks) (by omega) (by rw [hws]; omega) 25
    rw [hws] at r
    rw [<- HNS.out] at h1
    refine Lib.hid ⟨A', c', w', r, h1, hbw.trans (h2.mono (by omega)), ?_⟩
    rw [h3.block _ (by rw [hws]; exact hblt) (fun e => by have := (ho.lt _ e.symm).1; omega)]
    simp [World.setCell, Array.getElem?_modify, HBK.out]
   obtain ⟨A8, c8, w8, r8, o8, b8, k8⟩ := RUN.out
   have HO8 := Lib.hid o8
   have HB8 := Lib.hid b8
   have HK8 := Lib.hid k8
   have HD2 := Lib.hid (show qaj_ R (p.take (k + 1)) = some (Nd.mk zn zpa zpc zps zka zkc zks) from HX2.out)
   clear RUN o8 b8 k8 hws hbw hblt
   replace HK8 : Hid (w8.heap[w.heap.size + 1]? = some (.cells #[.string (Nd.mk zn zpa zpc zps zka zkc zks).name, (Nd.mk zn zpa zpc zps zka zkc zks).pv, (Nd.mk zn zpa zpc zps zka zkc zks).kv] 27 (0, 0))) := HK8
   generalize hZ : Nd.mk zn zpa zpc zps zka zkc zks = Z at HK8 HD2
   clear hZ HX2 HNS HBK HO HX
   generalize xks.length = xkl at *
   generalize zks.length = zkl at *
   generalize zps.length = zpl at *
   generalize xps.length = xpl at *
   clear hbk hkp
   go_wp2_with (at_builtin; refine Lib.wpList_append_run_sl _ rfl _ _ _ rfl _ _ rfl rfl r8 ?_)
   go_roundw
   case rel => exact ⟨k + 1, Z, by omega, by go_num, HD2.out, HK8.out, HO8.out, HB8.out⟩
   case measure => simp [intOf]; omega
  ·obtain rfl : k = n := by omega
   have HT : Hid (p.take k = p) := Lib.hid (List.take_of_length_le (by rw [HPL.out]; exact Nat.le_refl _))
   rw [HT.out] at hown
   have HO2 := Lib.hid (qjt_ hown (b' := w.heap.size) (by omega))
   clear hown hb hbk hx
   go_wp2
   go_ret2
   exact ⟨⟨_, rfl, HO2.out⟩, HB.out⟩
theorem growI_nil (n : Nat) (w : World) (hn : n <= 1073741824) :
  Calls Tryz.prog 112 #[.slice none 0 0, .int .i64 n] w fun e w' => ∃ v, e = .returned v /\ w'.ownsRow w.heap.size 3 1 v 0 [] /\ Below w.heap.size w w' := by
 obtain ⟨i0, hi0, hz0, hz1, hz2⟩ := qaw_ qkj_
 rcases Nat.eq_zero_or_pos n with rfl | h0
 ·go_enter Tryz.func112, Tryz.ntmps112
  go_wp2
  go_ret
  exact ⟨_, rfl, World.ownsRow_nil _ _ _ _, Below.refl _ _⟩
 ·have h1 : ¬ ((n : Int) < 0) := by omega
  have h2 : ((n : Int) > 0) := by omega
  have hrz : ∀ ty, (Builtin.append_ #[56, 3] ty #[.slice none 0 0, .int .i64 (n : Int)]).run Tryz.prog w = .ok (.slice (some ⟨w.heap.size, 0, none⟩) n (grownCap w n 0 3)) (w.drew.alloc (.cells (Builtin.zeroCells (Value.int .i64 0).cells n ++ Builtin.zeroCells (Value.int .i64 0).cells (grownCap w n 0 3 - n)) 3)) := fun ty => by
   have h := Lib.run_append_grow_zeros (P := Tryz.prog) w 56 3 ty 3 i0 (.int .i64 0) .i64 .i64 Tryz.underlying56 Tryz.underlying3 hi0 hz0 none 0 0 [] (run_firstCells_none w.drew i0.size 0 0 0) n h0 (by omega) (by omega) (by omega) (by rw [hz2]; omega) (by rw [hz2]; exact growslice_fits (by omega) (by omega))
   simpa using h
  have hG : n <= grownCap w n 0 3 := grownCap_ge w _ _ _
  have hG2 := grownCap_le_maxLen w n 0 3 (by unfold maxLen; omega)
  generalize hGe : grownCap w n 0 3 = G at hrz hG hG2
  clear hGe hi0 hz0 hz1 hz2
  have hG3 : G <= 9223372036854775807 := by unfold maxLen at hG2; omega
  go_enter Tryz.func112, Tryz.ntmps112
  go_wp2_with (at_builtin; refine Lib.wpList_append_run _ rfl _ _ _ _ rfl _ _ rfl rfl _ _ (hrz _) ?_)
  go_ret
  refine ⟨_, rfl, World.ownsRow_made _ _ _ (by simp) hG2 ?_, ?_⟩
  ·simp [Builtin.zeroCells]; omega
  ·exact (Below.refl _ _).drew.alloc (by simp) _
abbrev qf0_ := Option Addr × Nat × Nat × List Nat
def qbg_ : List qf0_ -> Nat
 | [] => 0
 | p :: r => p.2.1 + qbg_ r
def qb4_ : List qf0_ -> List Nat
 | [] => []
 | p :: r => p.2.2.2 ++ qb4_ r
theorem qer_ (a b : List qf0_) : qbg_ (a ++ b) = qbg_ a + qbg_ b := by
 induction a with
 | nil => simp [qbg_]
 | cons p r ih => simp only [List.cons_append, qbg_, ih]; omega
theorem qh6_ (a b : List qf0_) : qb4_ (a ++ b) = qb4_ a ++ qb4_ b := by
 induction a with
 | nil => simp [qb4_]
 | cons p r ih => simp only [List.cons_append, qb4_, ih, List.append_assoc]
theorem qem_ {α : Type} (l : List α) (j : Nat) (p : α) (h : l[j]? = some p) : l.take (j + 1) = l.take j ++ [p] := by
 rw [List.take_add_one, h]; rfl
theorem qgk_ (l : List qf0_) (j : Nat) (p : qf0_) (h : l[j]? = some p) : qbg_ (l.take (j + 1)) = qbg_ (l.take j) + p.2.1 := by
 rw [qem_ l j p h, qer_]; simp [qbg_]
theorem qj6_ (l : List qf0_) (j : Nat) (p : qf0_) (h : l[j]? = some p) : qb4_ (l.take (j + 1)) = qb4_ (l.take j) ++ p.2.2.2 := by
 rw [qem_ l j p h, qh6_]; simp [qb4_]
theorem qd8_ (l : List qf0_) (j : Nat) : qbg_ (l.take j) <= qbg_ l := by
 conv => rhs; rw [<- List.take_append_drop j l, qer_]
 omega
theorem qec_ : ∀ (l : List qf0_), (∀ p ∈ l, p.2.2.2.length = p.2.1) -> (qb4_ l).length = qbg_ l
 | [], _ => rfl
 | p :: r, h => by rw [qb4_, qbg_, List.length_append, h p (by simp), qec_ r (fun q hq => h q (by simp [hq]))]
theorem qmd_ (g m cap : Nat) (ps : List qf0_) (w : World) (hl : ps.length = m) (hm : m <= 100) (hmc : m <= cap) (hcap : cap <= 100) (hcell : ∀ i p, ps[i]? = some p -> w.cell? ⟨g, i, none⟩ = some (.slice p.1 p.2.1 p.2.2.1))
  (hg : g < w.heap.size) (hs : ∀ p ∈ ps, Cel w w.heap.size p.1 p.2.1 (ints p.2.2.2)) (htot : qbg_ ps <= 1073741824) :
  Calls Tryz.prog 72 #[.slice (some ⟨g, 0, none⟩) m cap] w fun e w' => ∃ v, e = .returned v /\ w'.ownsRow w.heap.size 3 1 v (qbg_ ps) (ints (qb4_ ps)) /\ Below w.heap.size w w' := by
 have HC := Lib.hid hcell
 have HL := Lib.hid hl
 have HS := Lib.hid hs
 have HQ : Hid (∀ k, (qb4_ (ps.take k)).length = qbg_ (ps.take k)) := Lib.hid fun k => qec_ _ fun p hp => by
  have := (hs p (List.mem_of_mem_take hp)).1
  rwa [List.length_map] at this
 clear hcell hl hs
 go_enter Tryz.func72, Tryz.ntmps72
 go_wp2
 go_loop [3, 11] (fun s i => ∃ j : Nat, j <= m /\ i = .int .i64 j /\ s = .int .i64 (qbg_ (ps.take j))) (fun _ i => m - (intOf i).toNat)
 case atStart => exact ⟨0, by omega, rfl, rfl⟩
 case round =>
  obtain ⟨j, hj, rfl, rfl⟩ := hrel
  by_cases hlt : j < m
  ·obtain ⟨p, hp⟩ : ∃ p, ps[j]? = some p := ⟨_, List.getElem?_eq_getElem (by rw [HL.out]; exact hlt)⟩
   have hc := HC.out j p hp
   have h1 := qd8_ ps j
   have h2 := qd8_ ps (j + 1)
   have HN := Lib.hid (qgk_ ps j p hp)
   rw [HN.out] at h2
   clear hp
   go_wp2
   go_round
   case rel => exact ⟨j + 1, by omega, by go_num, by rw [HN.out]; go_num⟩
   case measure => simp [intOf]; omega
  ·obtain rfl : j = m := by omega
   have HT : Hid (ps.take j = ps) := List.take_of_length_le (by rw [HL.out]; exact Nat.le_refl _)
   rw [HT.out]
   go_wp2_with (go_at_call 112; refine (growI_nil (qbg_ ps) _ (by omega)).mono ?_; rintro e w1 ⟨v1, rfl, hown1, hb1⟩)
   go_loopw [6, 27] (fun v i wr => ∃ k : Nat, k <= j /\ i = .int .i64 k /\ wr.ownsRow w.heap.size 3 1 v (qbg_ (ps.take k)) (ints (qb4_ (ps.take k))) /\ Below w.heap.size w wr) (fun _ i _ => j - (intOf i).toNat)
   case atStart => exact ⟨0, by omega, rfl, hown1, hb1⟩
   case round =>
    obtain ⟨k, hk, rfl, hown, hbel⟩ := hrel
    by_cases hlt : k < j
    ·obtain ⟨p, hp⟩ : ∃ p, ps[k]? = some p := ⟨_, List.getElem?_eq_getElem (by rw [HL.out]; exact hlt)⟩
     have hc : wr.cell? ⟨g, k, none⟩ = some (.slice p.1 p.2.1 p.2.2.1) := (hbel.cell (p := ⟨g, k, none⟩) hg).trans (HC.out k p hp)
     have h2 := qd8_ ps (k + 1)
     have HN := Lib.hid (qgk_ ps k p hp)
     have HJ := Lib.hid (qj6_ ps k p hp)
     rw [HN.out] at h2
     have hsh := (HS.out p (List.mem_of_getElem? hp)).below hbel
     have hown' : wr.ownsRow w.heap.size 3 1 u6 (qb4_ (ps.take k)).length (ints (qb4_ (ps.take k))) := by rw [HQ.out]; exact hown
     have hpl : p.2.2.2.length = p.2.1 := by have := hsh.1; rwa [List.length_map] at this
     obtain ⟨v', w', hrun, hgrew⟩ := qd2_ p.2.2.1 hown' hsh (by rw [HQ.out, hpl]; omega) hbel.size 56
     have hbel' := hbel.grown hgrew.2.1 hbel.size (fun q hq => (hown.lt q hq).1)
     have hown2 := hgrew.1
     rw [List.length_map, <- HJ.out, HQ.out] at hown2
     have HO := Lib.hid hown2
     have HB := Lib.hid hbel'
     clear hp hsh hgrew hown hown' hown2 hbel hbel' hpl
     go_wp2_with (at_builtin; refine Lib.wpList_append_run_sl _ rfl _ _ _ rfl _ _ rfl rfl hrun ?_)
     go_roundw
     case rel => exact ⟨k + 1, by omega, by go_num, HO.out, HB.out⟩
     case measure => simp [intOf]; omega
    ·obtain rfl : k = j := by omega
     rw [HT.out] at hown
     have HO := Lib.hid hown
     have HB := Lib.hid hbel
     clear hown hbel
     go_wp2
     go_ret
     exact ⟨_, rfl, HO.out, HB.out⟩

theorem path_root (t : Tr) (A : Option Addr) (c : Nat) (w : World) (hin : t.In w w.heap.size) (hc : c <= 9223372036854775807) :
  Calls Tryz.prog 48 #[t.val, .slice A 0 c] w fun e w' => e = .returned (.tuple #[.string ⟨#[47]⟩, .int .i64 0]) /\ Below w.heap.size w w' := by
 have HC := Lib.hid (fun (W : World) (hW : Below w.heap.size w W) => (way_any t [] A 0 c t.root W ((hin.under hW).more hW.size) rfl rfl (by omega) (Cel.nil _ _ _) (Nat.zero_le _) hc).mono fun e w' h => show (∃ A c, e = .returned (.tuple #[.slice A 1 c, .int .i64 0])) /\ Below W.heap.size W w' from ⟨by
  obtain ⟨⟨v, rfl, ho⟩, _⟩ := h
  obtain ⟨A', c', rfl, _⟩ := qdq_ ho
  exact ⟨A', c', rfl⟩, h.2⟩)
 clear hin
 obtain ⟨boot, ra, rc, rs, ⟨nm, pa, pc, ps, ka, kc, ks⟩⟩ := t
 replace HC : Hid (∀ (W : World) (hW : Below w.heap.size w W), Calls Tryz.prog 81 #[.agg #[.int .u32 boot, .slice ra rs.length rc, .string nm, .slice pa ps.length pc, .slice ka ks.length kc], .slice A 0 c] W fun e w' => (∃ A c, e = .returned (.tuple #[.slice A 1 c, .int .i64 0])) /\ Below W.heap.size W w') := HC
 show Calls _ _ #[.agg #[.int .u32 boot, .slice ra rs.length rc, .string nm, .slice pa ps.length pc, .slice ka ks.length kc], .slice A 0 c] _ _
 have HB := Lib.hid ((Below.refl w.heap.size w).alloc (Nat.le_refl _) (.cells #[.int .u32 boot, .slice ra rs.length rc, .string nm, .slice pa ps.length pc, .slice ka ks.length kc] 29))
 obtain ⟨b0, b1, b2, b3, b4⟩ := qa2_ w (.int .u32 boot) (.slice ra rs.length rc) (.string nm) (.slice pa ps.length pc) (.slice ka ks.length kc) _ (Below.refl _ _)
 go_enter Tryz.func48, Tryz.ntmps48
 go_wp2_with fail
 refine (HC.out _ HB.out).mono ?_
 rintro e w1 ⟨⟨A1, c1, rfl⟩, hb⟩
 have HB1 := Lib.hid (HB.out.trans (hb.mono HB.out.size))
 clear hb b0 b1 b2 b3 b4
 go_wp2
 go_ret2
 exact ⟨rfl, HB1.out⟩
abbrev Bld (B b : Nat) (bs : List Value) (w : World) : Prop := Lib.IsBuilderF 185 5 B b bs w
abbrev BldAt (B b : Nat) (bs : List Value) (w : World) : Prop := Lib.BuilderAtF 185 5 B b (.pointer (some ⟨b, 0, none⟩)) bs w
theorem qo7_ : (Tryz.prog.info? 185).map (·.size) = some 2 := by kernel_rfl
theorem lies_bld : liesAt Tryz.prog Tryz.prog.depth 185 (2 / Tryz.prog.cellsOf 185) 0 185 1 = true := by kernel_rfl
theorem byte_bld : (Tryz.prog.info? 5).map (fun i => (i.zero, i.size, i.bytes)) = some (some (.int .u8 0), 1, 1) := by kernel_rfl
theorem qhp_ (b : Nat) (w : World) (h0 : w.cell? ⟨b, 0, none⟩ = some (.pointer (some ⟨b, 0, none⟩))) :
  Calls Tryz.prog 125 #[.pointer (some ⟨b, 0, none⟩)] w fun e w' => e = .returned (.tuple #[]) /\ w' = w := by
 obtain ⟨j, hj, _⟩ := Option.map_eq_some_iff.1 qo7_
 go_enter Tryz.func125, Tryz.ntmps125
 go_wp2
 rw [Lib.run_neq_ptr_same w _ Tryz.underlying183 hj]
 go_wp2
 go_end0
 exact ⟨rfl, rfl⟩
theorem qgn_ (b : Nat) (w : World) (h0 : w.cell? ⟨b, 0, none⟩ = some (.pointer none)) (hsh : w.shape? b = some (185, 2)) (hfz : w.frozen? ⟨b, 0, none⟩ = false) :
  Calls Tryz.prog 125 #[.pointer (some ⟨b, 0, none⟩)] w fun e w' => e = .returned (.tuple #[]) /\ w' = w.setCell ⟨b, 0, none⟩ (.pointer (some ⟨b, 0, none⟩)) := by
 obtain ⟨j, hj, hjs⟩ := Option.map_eq_some_iff.1 qo7_
 go_enter Tryz.func125, Tryz.ntmps125
 go_wp2
 rw [Lib.run_to_unsafe w ⟨b, 0, none⟩ Tryz.underlying183 Tryz.underlying90 hj (by rw [hjs]; decide) hsh (Nat.zero_lt_succ 1)]
 simp only [Result.andThen]
 rw [Oper.upon_value]
 go_wp2
 rw [run_callFunc_extern Tryz.func154 (by kernel_rfl) (by kernel_rfl) (by kernel_rfl) (e := Extern.AbiNoEscape.same) (by kernel_rfl)]
 rw [Lib.run_noEscape]
 simp only [Result.andThen]
 rw [Oper.upon_value]
 go_wp2
 rw [Lib.run_from_unsafe w ⟨b, 0, none⟩ Tryz.underlying90 Tryz.underlying183 hj hsh lies_bld]
 simp only [Result.andThen]
 rw [Oper.upon_value]
 go_wp2
 go_end0
 exact ⟨rfl, rfl⟩
theorem qip_ (B b : Nat) (bs : List Value) (w : World) (h : Bld B b bs w) :
  Calls Tryz.prog 125 #[.pointer (some ⟨b, 0, none⟩)] w fun e w' => e = .returned (.tuple #[]) /\ (BldAt B b bs w' /\ Below B w w' /\ Lib.OthersKept 5 (some b) w w') := by
 rcases h with h | h
 ·refine (qgn_ b w h.cell0 h.shape h.frozen0).mono ?_
  rintro e w' ⟨rfl, rfl⟩
  exact ⟨rfl, h.used _, (Below.refl B w).setCell (p := ⟨b, 0, none⟩) h.1 _, (Lib.OthersKept.refl _ _ w).setCell ⟨b, 0, none⟩ rfl _⟩
 ·refine (qhp_ b w h.cell0).mono ?_
  rintro e w' ⟨rfl, rfl⟩
  exact ⟨rfl, h, Below.refl B _, Lib.OthersKept.refl _ _ _⟩
theorem qdv_ (B b : Nat) (bs : List Value) (s : ByteArray) (w : World) (h : Bld B b bs w) (hlen : bs.length + s.size <= 140737488355328) (hBw : B <= w.heap.size) :
  Calls Tryz.prog 82 #[.pointer (some ⟨b, 0, none⟩), .string s] w fun e w' => e = .returned (.tuple #[.int .i64 s.size, .nilIface]) /\ (BldAt B b (bs ++ Lib.strCells s) w' /\ Below B w w' /\ Lib.OthersKept 5 (some b) w w') := by
 obtain ⟨i0, hi, hz0, hz1, hz2⟩ := info_parts byte_bld
 go_enter Tryz.func82, Tryz.ntmps82
 go_wp2_with (go_at_call 125; refine (qip_ B b bs _ h).mono ?_)
 rintro e w1 ⟨rfl, h1, hb1, hk1⟩
 obtain ⟨hB, v, hbk, hown, hne⟩ := h1
 have c0 : w1.cell? ⟨b, 0, none⟩ = some (.pointer (some ⟨b, 0, none⟩)) := by rw [Lib.cell_of_heap hbk]; rfl
 have c1 : w1.cell? ⟨b, 1, none⟩ = some v := by rw [Lib.cell_of_heap hbk]; rfl
 go_wp2_with (at_builtin; refine Lib.wpList_append_own_stringF _ rfl _ _ 82 9 rfl B 5 i0 Tryz.underlying82 Tryz.underlying9 hi hz0 hz1 hz2 _ _ _ rfl hown s rfl ?c3 ?c4 ?c5 ?_)
 case c3 => unfold maxLen; omega
 case c4 => omega
 case c5 => have := hb1.size; omega
 intro v' w2 hown' hgrow _
 have hlt : b < w1.heap.size := by
  rcases Nat.lt_or_ge b w1.heap.size with h' | h'
  ·exact h'
  ·simp [Array.getElem?_eq_none h'] at hbk
 have hb2 : w2.heap[b]? = some (.cells #[.pointer (some ⟨b, 0, none⟩), v] 185 (0, 0)) := by
  rw [hgrow.block b hlt (fun e => hne e.symm)]
  exact hbk
 have d0 : w2.cell? ⟨b, 0, none⟩ = some (.pointer (some ⟨b, 0, none⟩)) := by rw [Lib.cell_of_heap hb2]; rfl
 have d1 : w2.cell? ⟨b, 1, none⟩ = some v := by rw [Lib.cell_of_heap hb2]; rfl
 have f1 : w2.frozen? ⟨b, 1, none⟩ = false := Lib.frozen_of_heap hb2 1
 obtain ⟨ao, n', cap, rfl⟩ : ∃ ao n' cap, v' = .slice ao n' cap := by
  rcases hown'.2 with ⟨hv, _⟩ | ⟨g, cap, cur, fz, hv, _⟩
  ·exact ⟨_, _, _, hv⟩
  ·exact ⟨_, _, _, hv⟩
 go_wp2
 go_ret2
 refine ⟨rfl, ?_, ?_, (hk1.grown hgrow (Lib.ownsRowF_kind hown)).setCell ⟨b, 1, none⟩ rfl _⟩
 ·exact Lib.BuilderAtF.put (T := 185) (e := 5) hB hb2 (bs' := bs ++ Lib.strCells s) (by simpa [Lib.strCells_length] using hown') (by decide)
 ·exact (hb1.grown hgrow (by have := hb1.size; omega) (fun k hk => (hown.lt k hk).1)).setCell (p := ⟨b, 1, none⟩) hB _
end Go.Proofs.YtcfinbapfhhpgaaGreatDoor
