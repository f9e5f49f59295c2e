/-
  Base, part 1.
-/
import Derived.Test.YtcfinbapfhhpgaaGreatDoorChecked
import Derived.Below
import Derived.WalkKit
import Derived.WalkLawsBesides
import Derived.WalkSpells
import Derived.Laws.BytesArg
import Derived.Laws.OwnMore
import Derived.Laws.AppendOwnNone
import Derived.Maps.AppendAt
import Derived.Deep.Draws
import Derived.Lib.Hide
import Derived.OpenShut
import Derived.Deep.OwnRows
import Derived.Deep.Strs
import Derived.Great.BuildSlice
import Derived.Lib.SlFresh
import Derived.Deep.RegionHeld3
import Derived.Deep.DrawnRows
import Derived.Lib.AppendZerosOnto
import Derived.Laws.Bits64
import Derived.Laws.BitsAllLaws
import Derived.Lib.ConvBytes
import Derived.Lib.SmallJoins
import Derived.BigQuiet
import Derived.Deep.QuietTactic
namespace Go.Proofs.YtcfinbapfhhpgaaGreatDoor
open Go.RowKit
set_option linter.unusedVariables false
set_option linter.unusedSimpArgs false
set_option maxRecDepth 20000
set_option maxHeartbeats 16000000
section
def Shows (w : World) (B : Nat) (A : Option Addr) (n : Nat) (zs : List Int) : Prop :=
 zs.length = n /\ (∀ z ∈ zs, 0 <= z /\ z < 256) /\ (0 < n -> ∃ b o, A = some ⟨b, o, none⟩ /\ b < B /\ ∀ i, i < n -> w.cell? ⟨b, o + i, none⟩ = some (.int .u8 (zs.getD i 0)))
theorem qbc_ (b o i : Nat) : (⟨b, o, none⟩ : Addr).add i = ⟨b, o + i, none⟩ := by unfold Addr.add; split <;> simp_all
section
variable {w w' : World} {B B' n : Nat} {A : Option Addr} {zs : List Int}
theorem Shows.byte (h : Shows w B A n zs) (i : Nat) : 0 <= zs.getD i 0 /\ zs.getD i 0 < 256 := by
 rcases Nat.lt_or_ge i zs.length with hi | hi
 ·have e : zs.getD i 0 = zs[i] := by simp [List.getD, List.getElem?_eq_getElem hi]
  rw [e]; exact h.2.1 _ (List.getElem_mem hi)
 ·have e : zs.getD i 0 = 0 := by simp [List.getD, List.getElem?_eq_none hi]
  rw [e]; omega
theorem Shows.at_ (h : Shows w B A n zs) (hn : 0 < n) : ∃ b o, A = some ⟨b, o, none⟩ /\ b < B /\ ∀ i, i < n -> w.cell? ⟨b, o + i, none⟩ = some (.int .u8 (zs.getD i 0)) := h.2.2 hn
theorem Shows.nil (w : World) (B : Nat) : Shows w B none 0 [] := ⟨rfl, by simp, fun h => absurd h (by omega)⟩
theorem Shows.keep (h : Shows w B A n zs) (hk : ∀ p : Addr, p.block < B -> w'.cell? p = w.cell? p) : Shows w' B A n zs :=
 ⟨h.1, h.2.1, fun hn => by
  obtain ⟨b, o, e, hb, hc⟩ := h.2.2 hn
  exact ⟨b, o, e, hb, fun i hi => (hk _ hb).trans (hc i hi)⟩⟩
theorem Shows.below (h : Shows w B A n zs) (hb : Below B w w') : Shows w' B A n zs := h.keep fun _ hp => hb.cell hp
theorem Shows.more (h : Shows w B A n zs) (hB : B <= B') : Shows w B' A n zs :=
 ⟨h.1, h.2.1, fun hn => by
  obtain ⟨b, o, e, hb, hc⟩ := h.2.2 hn
  exact ⟨b, o, e, by omega, hc⟩⟩
def cutAt (A : Option Addr) (c l : Nat) : Option Addr := if c = l then A else A.map (·.add l)
theorem Shows.cut {l h c : Nat} (hs : Shows w B A n zs) (hlh : l <= h) (hh : h <= n) (hc : n <= c) : Shows w B (cutAt A c l) (h - l) ((zs.drop l).take (h - l)) := by
 refine ⟨by rw [List.length_take, List.length_drop, hs.1]; omega, fun z hz => hs.2.1 z (List.mem_of_mem_drop (List.mem_of_mem_take hz)), fun h0 => ?_⟩
 obtain ⟨b, o, rfl, hb, hcell⟩ := hs.at_ (by omega)
 refine ⟨b, o + l, ?_, hb, fun i hi => ?_⟩
 ·unfold cutAt
  rw [if_neg (by omega)]
  simp [qbc_]
 ·rw [Nat.add_assoc, hcell (l + i) (by omega)]
  simp [List.getD, List.getElem?_take_of_lt hi, List.getElem?_drop]
theorem Shows.from_ {l c : Nat} (hs : Shows w B A n zs) (hl : l <= n) (hc : n <= c) : Shows w B (cutAt A c l) (n - l) (zs.drop l) := by
 have h := hs.cut hl (Nat.le_refl n) hc
 rwa [List.take_of_length_le (by rw [List.length_drop, hs.1]; exact Nat.le_refl _)] at h
end
section
variable {P : Program} {t e : TypeId} (ht : P.underlying t = some (.slice e)) (he : ∀ w, (Go.sizeOf e).run P w = .ok 1 w)
include ht he
theorem qkm_ (A : Option Addr) (n c : Nat) (H : Int) (h : Nat) (hH : H = h) (hh : h <= c) (W : World) : (Instr.slice t (.slice A n c) none (some (.int .i64 H)) none).run P W = .ok (.slice A h c) W := by
 subst hH
 have ht' : P.underlying t = some (.slice (P.elem t)) := by simp [Program.elem, ht]
 have he' : P.elem t = e := by simp [Program.elem, ht]
 rw [run_slice_h W t _ _ _ ht' .i64 _ (by omega) (by omega), he', he]
 rcases A with _ | ⟨b, o, s⟩ <;> simp [Result.andThen, sliced, Addr.add]
theorem qe9_ (A : Option Addr) (n c : Nat) (L : Int) (l : Nat) (hL : L = l) (hl : l <= n) (W : World) : (Instr.slice t (.slice A n c) (some (.int .i64 L)) none none).run P W = .ok (.slice (cutAt A c l) (n - l) (c - l)) W := by
 subst hL
 have ht' : P.underlying t = some (.slice (P.elem t)) := by simp [Program.elem, ht]
 have he' : P.elem t = e := by simp [Program.elem, ht]
 rw [run_slice_l W t _ _ _ ht' .i64 _ (by omega) (by omega), he', he]
 simp [Result.andThen, sliced, cutAt]
theorem run_cut (A : Option Addr) (n c : Nat) (L H : Int) (l h : Nat) (hL : L = l) (hH : H = h) (hl : l <= h) (hh : h <= c) (W : World) :
  (Instr.slice t (.slice A n c) (some (.int .i64 L)) (some (.int .i64 H)) none).run P W = .ok (.slice (cutAt A c l) (h - l) (c - l)) W := by
 subst hL hH
 have ht' : P.underlying t = some (.slice (P.elem t)) := by simp [Program.elem, ht]
 have he' : P.elem t = e := by simp [Program.elem, ht]
 rw [run_slice_lh W t _ _ _ ht' .i64 .i64 _ _ (by omega) (by omega) (by omega), he', he]
 simp [Result.andThen, sliced, cutAt]
end
end
section
def Cel (w : World) (B : Nat) (A : Option Addr) (n : Nat) (xs : List Value) : Prop :=
 xs.length = n /\ (0 < n -> ∃ b o, A = some ⟨b, o, none⟩ /\ b < B /\ ∀ i, i < n -> w.cell? ⟨b, o + i, none⟩ = xs[i]?)
section
variable {w w' : World} {B B' n : Nat} {A : Option Addr} {xs : List Value}
theorem Cel.at_ (h : Cel w B A n xs) (hn : 0 < n) : ∃ b o, A = some ⟨b, o, none⟩ /\ b < B /\ ∀ i, i < n -> w.cell? ⟨b, o + i, none⟩ = xs[i]? := h.2 hn
theorem Cel.nil (w : World) (B : Nat) (A : Option Addr) : Cel w B A 0 [] := ⟨rfl, fun h => absurd h (Nat.lt_irrefl 0)⟩
theorem Cel.keep (h : Cel w B A n xs) (hk : ∀ p : Addr, p.block < B -> w'.cell? p = w.cell? p) : Cel w' B A n xs :=
 ⟨h.1, fun hn => by
  obtain ⟨b, o, e, hb, hc⟩ := h.2 hn
  exact ⟨b, o, e, hb, fun i hi => (hk _ hb).trans (hc i hi)⟩⟩
theorem Cel.below (h : Cel w B A n xs) (hb : Below B w w') : Cel w' B A n xs := h.keep fun _ hp => hb.cell hp
theorem Cel.more (h : Cel w B A n xs) (hB : B <= B') : Cel w B' A n xs :=
 ⟨h.1, fun hn => by
  obtain ⟨b, o, e, hb, hc⟩ := h.2 hn
  exact ⟨b, o, e, by omega, hc⟩⟩
theorem Cel.on (h : Cel w w.heap.size A n xs) (hb : Below w.heap.size w w') : Cel w' w'.heap.size A n xs := (h.below hb).more hb.size
theorem Cel.upto {k : Nat} (h : Cel w B A n xs) (hk : k <= n) : Cel w B A k (xs.take k) :=
 ⟨by rw [List.length_take, h.1]; omega, fun h0 => by
  obtain ⟨b, o, e, hb, hc⟩ := h.2 (by omega)
  exact ⟨b, o, e, hb, fun i hi => by rw [List.getElem?_take_of_lt hi]; exact hc i (by omega)⟩⟩
theorem Cel.from_ {l c : Nat} (h : Cel w B A n xs) (hl : l <= n) (hc : n <= c) : Cel w B (cutAt A c l) (n - l) (xs.drop l) :=
 ⟨by rw [List.length_drop, h.1], fun h0 => by
  obtain ⟨b, o, e, hb, hcc⟩ := h.2 (by omega)
  subst e
  have e : cutAt (some ⟨b, o, none⟩) c l = some ⟨b, o + l, none⟩ := by
   unfold cutAt
   rw [if_neg (by omega)]
   simp [qbc_]
  exact ⟨b, o + l, e, hb, fun i hi => by rw [List.getElem?_drop, Nat.add_assoc]; exact hcc (l + i) (by omega)⟩⟩
end
theorem qai_ {w : World} {base n : Nat} {e : TypeId} {v : Value} {xs : List Value} (h : w.ownsRow base e 1 v n xs) : ∃ A c, v = .slice A n c /\ Cel w w.heap.size A n xs /\ n <= c /\ c <= 9223372036854775807 /\ (∀ b, v.ownBlock = some b -> base <= b /\ b < w.heap.size) := by
 obtain ⟨hl, ⟨rfl, rfl⟩ | ⟨g, cap, cur, rfl, hb, hg, hnc, hcm, hsz, htk⟩⟩ := h
 ·obtain rfl : xs = [] := by simpa using hl
  exact ⟨none, 0, rfl, Cel.nil _ _ _, Nat.le_refl _, by omega, fun b h => by simp [Value.ownBlock] at h⟩
 ·have hlz : xs.length = n := by simpa using hl
  have hlt := (Array.getElem?_eq_some_iff.1 hg).1
  refine ⟨_, cap, rfl, ⟨hlz, fun hn => ⟨g, 0, rfl, hlt, fun i hi => ?_⟩⟩, hnc, hcm, fun b h => ?_⟩
  ·have h1 : xs[i]? = cur[i]? := by
    rw [<- htk, List.getElem?_take_of_lt (by omega), Array.getElem?_toList]
   rw [Nat.zero_add, h1]
   simp [World.cell?, hg]
  ·simp [Value.ownBlock] at h
   omega
def GrewC (e : TypeId) (w w' : World) (B : Nat) (v v' : Value) (xs : List Value) : Prop := w'.ownsRow B e 1 v' xs.length xs /\ w.grownBy w' v.ownBlock /\ (v'.ownBlock = v.ownBlock \/ v'.ownBlock = some w.heap.size)
theorem qlt_ {t e : TypeId} {i0 : TypeInfo} {z : Value} {bytes : Nat} (ht : Tryz.prog.underlying t = some (.slice e)) (hi : Tryz.prog.info? e = some i0) (hz : i0.zero = some z) (hs1 : i0.size = 1) (hby : i0.bytes = bytes) (hzs : z.cells.size = 1)
  {w : World} {B B' : Nat} {v : Value} {xs ys : List Value} {A : Option Addr} {m : Nat} (c : Nat) (h : w.ownsRow B e 1 v xs.length xs) (hs : Cel w B' A m ys) (h1 : ∀ u ∈ ys, u.oneCell' = true)
  (hbig : (xs.length + ys.length) * bytes <= 140737488355328) (hlen : xs.length + ys.length <= 140737488355328) (hB : B <= w.heap.size) (ty : TypeId) :
  ∃ v' w', (Builtin.append_ #[t, t] ty #[v, .slice A m c]).run Tryz.prog w = .ok v' w' /\ GrewC e w w' B v v' (xs ++ ys) := by
 have hm : ys.length = m := hs.1
 rcases Nat.eq_zero_or_pos m with h0 | h0
 ·obtain rfl : ys = [] := List.eq_nil_of_length_eq_zero (hm.trans h0)
  subst h0
  rcases A with _ | ad
  ·refine ⟨v, w, ?_, by simpa using h, World.grownBy.refl w _, .inl rfl⟩
   rcases h.2 with ⟨rfl, _⟩ | ⟨g, cap, cur, rfl, _, _, hnc, _⟩
   ·simp [Builtin.append_, run_underlying ht, sizeOf, typeInfo, hi, Builtin.lenOf, Builtin.firstCells]
   ·simp [Builtin.append_, run_underlying ht, sizeOf, typeInfo, hi, Builtin.lenOf, Builtin.firstCells, hnc, storeCells]
  ·obtain ⟨v', w', r1, r2, r3, _, r5⟩ := run_append_own_at (P := Tryz.prog) w B t ty e i0 z 1 bytes ht hi hz hs1 hby hzs (by omega) v _ xs h ad 0 c [] rfl (by simp) (by simp) (by unfold maxLen; simp at hlen; omega) (by simpa using hbig) hB
   exact ⟨v', w', r1, by simpa using r2, r3, r5⟩
 ·obtain ⟨b, o, rfl, _, hc⟩ := hs.at_ h0
  obtain ⟨v', w', r1, r2, r3, _, r5⟩ := run_append_own_at (P := Tryz.prog) w B t ty e i0 z 1 bytes ht hi hz hs1 hby hzs (by omega) v _ xs h ⟨b, o, none⟩ m c ys (by rw [hm, Nat.mul_one])
   (fun j u hu => by
    have hj : j < m := by
     rw [<- hm]
     rcases Nat.lt_or_ge j ys.length with h | h
     ·exact h
     ·rw [List.getElem?_eq_none h] at hu; cases hu
    rw [qbc_, hc j hj]; exact hu) h1 (by unfold maxLen; omega) (by rw [<- hm]; exact hbig) hB
  exact ⟨v', w', r1, by rw [GrewC, List.length_append, hm]; exact ⟨r2, r3, r5⟩⟩
theorem GrewC.below {e : TypeId} {w w' W0 : World} {B : Nat} {v v' : Value} {xs ys : List Value} (h : GrewC e w w' B v v' ys) (hv : w.ownsRow B e 1 v xs.length xs) (h0 : Below B W0 w) (hB : B <= w.heap.size) : Below B W0 w' :=
 h0.grown h.2.1 hB (fun q hq => (hv.lt q hq).1)
theorem qkj_ : (Tryz.prog.info? 3).map (fun i => (i.zero, i.size, i.bytes)) = some (some (.int .i64 0), 1, 8) := by kernel_rfl
theorem info_ints : (Tryz.prog.info? 56).map (fun i => (i.zero, i.size, i.bytes)) = some (some (.slice none 0 0), 1, 24) := by kernel_rfl
theorem qaw_ {t : TypeId} {z : Value} {s b : Nat} (h : (Tryz.prog.info? t).map (fun i => (i.zero, i.size, i.bytes)) = some (some z, s, b)) : ∃ i0, Tryz.prog.info? t = some i0 /\ i0.zero = some z /\ i0.size = s /\ i0.bytes = b := by
 obtain ⟨i, hi, he⟩ := Option.map_eq_some_iff.1 h
 simp only [Prod.mk.injEq] at he
 exact ⟨i, hi, he.1, he.2.1, he.2.2⟩
abbrev ints (p : List Nat) : List Value := p.map fun k : Nat => Value.int .i64 (k : Int)
theorem ints_one (p : List Nat) : ∀ u ∈ ints p, u.oneCell' = true := by
 intro u hu
 obtain ⟨k, _, rfl⟩ := List.mem_map.1 hu
 rfl
theorem qd2_ {w : World} {B B' : Nat} {v : Value} {xs ys : List Nat} {A : Option Addr} {m : Nat} (c : Nat) (h : w.ownsRow B 3 1 v xs.length (ints xs)) (hs : Cel w B' A m (ints ys)) (hbig : xs.length + ys.length <= 17592186044416) (hB : B <= w.heap.size) (ty : TypeId) :
  ∃ v' w', (Builtin.append_ #[56, 56] ty #[v, .slice A m c]).run Tryz.prog w = .ok v' w' /\ GrewC 3 w w' B v v' (ints (xs ++ ys)) := by
 obtain ⟨i0, hi, hz, hs1, hb⟩ := qaw_ qkj_
 have h' : w.ownsRow B 3 1 v (ints xs).length (ints xs) := by rw [List.length_map]; exact h
 obtain ⟨v', w', h1, h2⟩ := qlt_ Tryz.underlying56 hi hz hs1 hb rfl c h' hs (ints_one ys) (by simp only [List.length_map]; omega) (by simp only [List.length_map]; omega) hB ty
 exact ⟨v', w', h1, by rw [<- List.map_append] at h2; exact h2⟩
def PlV (w : World) (lo hi : Nat) (own : Option Nat) (v : Value) (p : List Nat) : Prop :=
 ∃ A c, v = .slice A p.length c /\ Cel w hi A p.length (ints p) /\ p.length <= c /\ c <= 9223372036854775807 /\ (0 < p.length -> ∀ b o, A = some ⟨b, o, none⟩ -> lo <= b /\ own ≠ some b)
inductive Two {α β : Type} (r : α -> β -> Prop) : List α -> List β -> Prop
 | nil : Two r [] []
 | cons {a : α} {b : β} {l : List α} {m : List β} (h : r a b) (t : Two r l m) : Two r (a :: l) (b :: m)
section
variable {α β : Type} {r s : α -> β -> Prop}
theorem Two.len : ∀ {l : List α} {m : List β}, Two r l m -> l.length = m.length
 | _, _, .nil => rfl
 | _, _, .cons _ t => by simp [t.len]
theorem Two.mono (h : ∀ a b, r a b -> s a b) : ∀ {l : List α} {m : List β}, Two r l m -> Two s l m
 | _, _, .nil => .nil
 | _, _, .cons a t => .cons (h _ _ a) (t.mono h)
theorem Two.app : ∀ {l l' : List α} {m m' : List β}, Two r l m -> Two r l' m' -> Two r (l ++ l') (m ++ m')
 | _, _, _, _, .nil, h => h
 | _, _, _, _, .cons a t, h => .cons a (t.app h)
theorem Two.get : ∀ {l : List α} {m : List β}, Two r l m -> ∀ (i : Nat) (h1 : i < l.length) (h2 : i < m.length), r l[i] m[i]
 | _, _, .nil, i, h1, _ => absurd h1 (by simp)
 | _, _, .cons a t, 0, _, _ => a
 | _, _, .cons a t, i + 1, h1, h2 => by simpa using t.get i (by simpa using h1) (by simpa using h2)
end
theorem PlV.keep {w w' : World} {lo hi hi' : Nat} {own own' : Option Nat} {v : Value} {p : List Nat} (h : PlV w lo hi own v p) (hh : hi <= hi') (hk : ∀ a : Addr, a.block < hi -> own ≠ some a.block -> w'.cell? a = w.cell? a) (ho : ∀ b, b < hi -> own ≠ some b -> own' ≠ some b) : PlV w' lo hi' own' v p := by
 obtain ⟨A, c, e, hc, h1, h2, h3⟩ := h
 refine ⟨A, c, e, ⟨hc.1, fun h0 => ?_⟩, h1, h2, fun h0 b o e => ?_⟩
 ·obtain ⟨b, o, e, hb, hcc⟩ := hc.2 h0
  obtain ⟨_, hne⟩ := h3 h0 b o e
  exact ⟨b, o, e, by omega, fun i hi => (hk _ hb hne).trans (hcc i hi)⟩
 ·obtain ⟨h4, h5⟩ := h3 h0 b o e
  obtain ⟨b', o', e', hb, _⟩ := hc.2 h0
  rw [e] at e'
  simp only [Option.some.injEq, Addr.mk.injEq] at e'
  exact ⟨h4, ho b (by omega) h5⟩
structure PlRow (w : World) (lo : Nat) (v : Value) (ps : List (List Nat)) : Prop where
 row : ∃ vs, w.ownsRow lo 56 1 v ps.length vs /\ Two (PlV w lo w.heap.size v.ownBlock) vs ps
end
section
variable {P : Program} {ops : Array Oper} {l : List Oper} {Q : Exit -> Act -> World -> Prop} {S S' : World -> Prop}
theorem held_take (i : Nat) {oi : Oper} {v : Value} {fuel : Nat} {listed : Array Bool} {a : Act} {w : World} (hi : l[i]? = some oi) (hs : Region.noSelect l.toArray = true) (hf : Region.free .any l.toArray listed i = true)
  (hr : (Region.ready .any l.toArray listed).contains i = true) (hQ : ∀ c a w, Q (.panic c) (a.put oi.dst v) w -> Q (.panic c) a w) (hw : Region.wanted oi (yielded l.toArray a.tmps) = true)
  (hS : S w) (hy : ∀ w, S w -> (execOp a.eval oi).run P w = .ok (.value v) w) (h : S w -> wpAnyH P .any l.toArray Q S fuel (listed.setIfInBounds i true) (a.put oi.dst v) w) : wpAnyH P .any l.toArray Q S (fuel + 1) listed a w :=
 wpAnyH_take (by simpa using hi) hs hf hr hQ (.inl ⟨hw, hy⟩) hS (h hS)
theorem tk (i : Nat) {oi : Oper} {v : Value} {fuel : Nat} {listed : Array Bool} {a a' : Act} {w : World} (hS : S w) (h : S w -> wpAnyH P .any l.toArray Q S fuel (listed.setIfInBounds i true) a' w)
  (hi : l[i]? = some oi := by rfl) (hs : Region.noSelect l.toArray = true := by kernel_rfl) (hf : Region.free .any l.toArray listed i = true := by kernel_rfl)
  (hr : (Region.ready .any l.toArray listed).contains i = true := by kernel_rfl) (hQ : ∀ c a w, Q (.panic c) (a.put oi.dst v) w -> Q (.panic c) a w := by exact fun _ _ _ h => h) (hw : Region.wanted oi (yielded l.toArray a.tmps) = true := by rfl)
  (hy : ∀ w, S w -> (execOp a.eval oi).run P w = .ok (.value v) w := by (intro w hSw; (try dsimp only at hSw); go_simp; (try with_reducible rfl)))
  (ha : a.put oi.dst v = a' := by (simp only [Act.put, List.setIfInBounds_toArray, List.set_cons_zero, List.set_cons_succ]; rfl)) : wpAnyH P .any l.toArray Q S (fuel + 1) listed a w :=
 held_take i hi hs hf hr hQ hw hS hy (by rw [ha]; exact h)
theorem qae_ (i : Nat) {oi : Oper} {fuel : Nat} {listed : Array Bool} {a : Act} {w : World} (hi : l[i]? = some oi) (hs : Region.noSelect l.toArray = true) (hf : Region.free .any l.toArray listed i = true)
  (hr : (Region.ready .any l.toArray listed).contains i = true) (hQ : ∀ c a w, Q (.panic c) (a.put oi.dst undef) w -> Q (.panic c) a w) (hw : Region.wanted oi (yielded l.toArray a.tmps) = false)
  (hS : S w) (h : S w -> wpAnyH P .any l.toArray Q S fuel (listed.setIfInBounds i true) (a.put oi.dst undef) w) : wpAnyH P .any l.toArray Q S (fuel + 1) listed a w :=
 wpAnyH_take (by simpa using hi) hs hf hr hQ (.inr ⟨hw, rfl⟩) hS (h hS)
theorem qab_ (i : Nat) {oi : Oper} {fuel : Nat} {listed : Array Bool} {a : Act} {w : World} (hr : Region.ready .any l.toArray listed = [i]) (hi : l[i]? = some oi) (hw : Region.wanted oi (yielded l.toArray a.tmps) = true)
  (h : ∀ K : Act -> World -> Prop, Shut (∀ a w, S w -> (S w -> wpAnyH P .any l.toArray Q S fuel (listed.setIfInBounds i true) a w) -> K a w) -> Oper.wp P oi a w K Q) : wpAnyH P .any l.toArray Q S (fuel + 1) listed a w :=
 wpAnyH_ready hr (by simp) (AllReadyH.cons (by simpa using hi) (fun K hK => by rw [if_pos hw]; exact h K hK) AllReadyH.nil)
theorem qfs_ (i j : Nat) {oi oj : Oper} {fuel : Nat} {listed : Array Bool} {a : Act} {w : World} (hr : Region.ready .any l.toArray listed = [i, j]) (hi : l[i]? = some oi) (hj : l[j]? = some oj) (hwi : Region.wanted oi (yielded l.toArray a.tmps) = true) (hwj : Region.wanted oj (yielded l.toArray a.tmps) = true)
  (h1 : ∀ K : Act -> World -> Prop, Shut (∀ a w, S w -> (S w -> wpAnyH P .any l.toArray Q S fuel (listed.setIfInBounds i true) a w) -> K a w) -> Oper.wp P oi a w K Q)
  (h2 : ∀ K : Act -> World -> Prop, Shut (∀ a w, S w -> (S w -> wpAnyH P .any l.toArray Q S fuel (listed.setIfInBounds j true) a w) -> K a w) -> Oper.wp P oj a w K Q) : wpAnyH P .any l.toArray Q S (fuel + 1) listed a w :=
 wpAnyH_ready hr (by simp) (AllReadyH.cons (by simpa using hi) (fun K hK => by rw [if_pos hwi]; exact h1 K hK) (AllReadyH.cons (by simpa using hj) (fun K hK => by rw [if_pos hwj]; exact h2 K hK) AllReadyH.nil))
end
def PlShow (w : World) (B : Nat) (A : Option Addr) (n : Nat) (ps : List (List Nat)) : Prop :=
 ∃ vs, Cel w B A n vs /\ Two (PlV w 0 B none) vs ps
theorem PlRow.show {w : World} {lo : Nat} {v : Value} {ps : List (List Nat)} (h : PlRow w lo v ps) : ∃ A c, v = .slice A ps.length c /\ PlShow w w.heap.size A ps.length ps /\ ps.length <= c /\ c <= 9223372036854775807 := by
 obtain ⟨vs, h1, h2⟩ := h.row
 obtain ⟨A, c, e, hc, h3, h4, _⟩ := qai_ h1
 refine ⟨A, c, e, ⟨vs, hc, h2.mono fun v p hv => ?_⟩, h3, h4⟩
 obtain ⟨A, c, e, hc, h1, h2, h3⟩ := hv
 exact ⟨A, c, e, hc, h1, h2, fun _ _ _ _ => ⟨Nat.zero_le _, by simp⟩⟩
section
theorem info_u8 : (Tryz.prog.info? 5).map (fun i => (i.zero, i.size, i.bytes)) = some (some (.int .u8 0), 1, 1) := by kernel_rfl
theorem qoj_ (w : World) : (Go.sizeOf 5).run Tryz.prog w = .ok 1 w := by kernel_rfl
abbrev u8s (zs : List Int) : List Value := zs.map (Value.int .u8)
theorem qgf_ (w : World) (i0 : TypeInfo) (hi0 : Tryz.prog.info? 5 = some i0) (hz0 : i0.zero = some (.int .u8 0)) (hz1 : i0.size = 1) (hz2 : i0.bytes = 1)
  (base : Nat) (v : Value) (n : Nat) (xs : List Value) (hown : w.ownsRow base 5 1 v n xs) (B : Nat) (A : Option Addr) (m c : Nat) (zs : List Int) (hs : Shows w B A m zs)
  (hnm : n + m <= 140737488351232) (hbase : base <= w.heap.size) (ty : TypeId) :
  ∃ v' w', (Builtin.append_ #[82, 82] ty #[v, .slice A m c]).run Tryz.prog w = .ok v' w' /\ w'.ownsRow base 5 1 v' (n + m) (xs ++ u8s zs) /\ w.grownBy w' v.ownBlock /\ (v ≠ .slice none 0 0 -> v' ≠ .slice none 0 0) := by
 rcases Nat.eq_zero_or_pos m with rfl | hm
 ·obtain rfl : zs = [] := List.eq_nil_of_length_eq_zero hs.1
  rcases A with _ | ad
  ·refine ⟨v, w, ?_, by simpa using hown, World.grownBy.refl w _, fun h => h⟩
   rcases hown.2 with ⟨rfl, rfl⟩ | ⟨g, cap, cur, rfl, _, _, hnc, _⟩
   ·simp [Builtin.append_, run_underlying Tryz.underlying82, sizeOf, typeInfo, hi0, Builtin.lenOf, Builtin.firstCells]
   ·simp [Builtin.append_, run_underlying Tryz.underlying82, sizeOf, typeInfo, hi0, Builtin.lenOf, Builtin.firstCells, hnc, storeCells]
  ·obtain ⟨v', w', h1, h2, h3, h4⟩ := run_append_own_at (P := Tryz.prog) w base 82 ty 5 i0 (.int .u8 0) 1 1 Tryz.underlying82 hi0 hz0 hz1 hz2 rfl (by omega) v n xs hown ad 0 c [] rfl (by simp) (by simp) (by unfold maxLen; omega) (by omega) hbase
   exact ⟨v', w', h1, h2, h3, fun h e => h ((h4.1.1 e).1)⟩
 ·obtain ⟨b, o, rfl, _, hc⟩ := hs.at_ hm
  obtain ⟨v', w', h1, h2, h3, h4⟩ := run_append_own_at (P := Tryz.prog) w base 82 ty 5 i0 (.int .u8 0) 1 1 Tryz.underlying82 hi0 hz0 hz1 hz2 rfl (by omega) v n xs hown ⟨b, o, none⟩ m c (u8s zs) (by simp [hs.1])
   (fun j u hu => by
    rw [List.getElem?_map] at hu
    have hj : j < zs.length := by
     rcases Nat.lt_or_ge j zs.length with h | h
     ·exact h
     ·rw [List.getElem?_eq_none h] at hu; cases hu
    rw [List.getElem?_eq_getElem hj] at hu
    rw [qbc_, hc j (by rw [<- hs.1]; exact hj), <- Option.some.inj hu]
    simp [List.getD, List.getElem?_eq_getElem hj])
   (fun u hu => by obtain ⟨z, _, rfl⟩ := List.mem_map.1 hu; rfl) (by unfold maxLen; omega) (by omega) hbase
  exact ⟨v', w', h1, h2, h3, fun h e => h ((h4.1.1 e).1)⟩
theorem qmn_ {w : World} {base n : Nat} {v : Value} {zs : List Int} (h : w.ownsRow base 5 1 v n (u8s zs)) (hz : ∀ z ∈ zs, 0 <= z /\ z < 256) :
  ∃ A c, v = .slice A n c /\ Shows w w.heap.size A n zs /\ n <= c /\ c <= 9223372036854775807 := by
 obtain ⟨hl, ⟨rfl, rfl⟩ | ⟨g, cap, cur, rfl, hb, hg, hnc, hcm, hsz, htk⟩⟩ := h
 ·obtain rfl : zs = [] := by simpa using hl
  exact ⟨none, 0, rfl, Shows.nil _ _, Nat.le_refl _, by omega⟩
 ·have hlz : zs.length = n := by simpa using hl
  refine ⟨_, cap, rfl, ⟨hlz, hz, fun hn => ⟨g, 0, rfl, ?_, fun i hi => ?_⟩⟩, hnc, hcm⟩
  ·exact (Array.getElem?_eq_some_iff.1 hg).1
  ·have h1 : (u8s zs)[i]? = cur[i]? := by
    rw [<- htk, List.getElem?_take_of_lt (by omega), Array.getElem?_toList]
   rw [Nat.zero_add]
   have h2 : w.cell? ⟨g, i, none⟩ = cur[i]? := by simp [World.cell?, hg]
   rw [h2, <- h1, List.getElem?_map, List.getElem?_eq_getElem (by omega)]
   simp [List.getD, List.getElem?_eq_getElem (show i < zs.length by omega)]
def four (v : Int) : List Int := [v / 16777216, v / 65536 % 256, v / 256 % 256, v % 256]
section
variable {w w' : World} {g : Nat} {zs : List Int}
end
theorem qez_ {w w' : World} {base n sz : Nat} {e : TypeId} {v : Value} {xs : List Value} (h : w.ownsRow base e sz v n xs) (hb : Below w.heap.size w w') : w'.ownsRow base e sz v n xs :=
 h.kept (row := none) ⟨hb.os, hb.tape, hb.output, hb.size, fun i hi _ => hb.block i hi⟩ (by cases v.ownBlock <;> simp)
end

def padN (n : Nat) : Nat := (4 - n % 4) % 4
def padL (zs : List Int) : List Int := zs ++ List.replicate (padN zs.length) 0
section
def strB (s : ByteArray) : List Int := s.data.toList.map fun b => (b.toNat : Int)
section
variable {W W' : World} {B : Nat} {u : Value} {s : ByteArray} {n : Nat} {zs : List Int}
end
section
variable {W0 W W' : World} {B : Nat} {nm : ByteArray} {b0 b2 b3 b4 b7 b8 : Bool} {u19 u21 u22 u23 u26 u27 : Value}
end
section
variable {P : Program} {ops : Array Oper} {Q : Exit -> Act -> World -> Prop} {S : World -> Prop}
end
section
variable (a : Act) (u19 u21 u22 u23 u26 u27 v : Value)
end
theorem qjt_ {w : World} {b b' : Nat} {e : TypeId} {sz : Nat} {v : Value} {n : Nat} {xs : List Value} (h : w.ownsRow b e sz v n xs) (hb : b' <= b) : w.ownsRow b' e sz v n xs := by
 refine ⟨h.1, ?_⟩
 rcases h.2 with h | ⟨g, cap, cur, h1, h2, h3⟩
 ·exact .inl h
 ·exact .inr ⟨g, cap, cur, h1, Nat.le_trans hb h2, h3⟩
end
section
open Go.RowKit Go.ChangeShapes Go.WideShapes Go.Deep
structure PV where
 name : ByteArray
 addr : Option Addr
 cap : Nat
 zs : List Int
def PV.val (p : PV) : Value := .slice p.addr p.zs.length p.cap
inductive Nd where
 | mk (name : ByteArray) (pa : Option Addr) (pc : Nat) (props : List PV) (ka : Option Addr) (kc : Nat) (kids : List Nd)
namespace Nd
def name : Nd -> ByteArray | .mk n _ _ _ _ _ _ => n
def pa : Nd -> Option Addr | .mk _ a _ _ _ _ _ => a
def pc : Nd -> Nat | .mk _ _ c _ _ _ _ => c
def props : Nd -> List PV | .mk _ _ _ l _ _ _ => l
def ka : Nd -> Option Addr | .mk _ _ _ _ a _ _ => a
def kc : Nd -> Nat | .mk _ _ _ _ _ c _ => c
def kids : Nd -> List Nd | .mk _ _ _ _ _ _ l => l
def pv (n : Nd) : Value := .slice n.pa n.props.length n.pc
def kv (n : Nd) : Value := .slice n.ka n.kids.length n.kc
def val (n : Nd) : Value := .agg #[.string n.name, n.pv, n.kv]
theorem ind {p : Nd -> Prop} (h : ∀ n, (∀ k ∈ n.kids, p k) -> p n) (n : Nd) : p n := by
 have : ∀ m : Nat, ∀ n : Nd, SizeOf.sizeOf n <= m -> p n := by
  intro m
  induction m with
  | zero => intro n hn; cases n; simp at hn
  | succ m ih =>
   intro n hn
   refine h n fun k hk => ih k ?_
   have h1 := List.sizeOf_lt_of_mem hk
   cases n with
   | mk a b c d e f g => simp only [Nd.mk.sizeOf_spec] at hn; simp only [kids] at h1; omega
 exact this _ n (Nat.le_refl _)
end Nd
def PV.In (w : World) (B : Nat) (p : PV) : Prop := (p.name.size <= 140737488351232 /\ p.zs.length <= 140737488351232) /\ Shows w B p.addr p.zs.length p.zs /\ p.zs.length <= p.cap /\ p.cap <= 9223372036854775807
def PRow (w : World) (B : Nat) (a : Option Addr) (l : List PV) : Prop :=
 0 < l.length -> ∃ b o, a = some ⟨b, o, none⟩ /\ b < B /\ ∀ i (h : i < l.length), w.cell? ⟨b, o + i * 2, none⟩ = some (.string l[i].name) /\ w.cell? ⟨b, o + i * 2 + 1, none⟩ = some l[i].val
def KRow (w : World) (B : Nat) (a : Option Addr) (l : List Nd) : Prop :=
 0 < l.length -> ∃ b o, a = some ⟨b, o, none⟩ /\ b < B /\ ∀ i (h : i < l.length), w.cell? ⟨b, o + i * 3, none⟩ = some (.string l[i].name) /\ w.cell? ⟨b, o + i * 3 + 1, none⟩ = some l[i].pv /\ w.cell? ⟨b, o + i * 3 + 2, none⟩ = some l[i].kv
inductive Nd.In (w : World) (B : Nat) : Nd -> Prop where
 | mk (n : Nd) (h1 : n.name.size <= 140737488351232 /\ n.props.length * 40 <= 140737488351232 /\ n.kids.length * 64 <= 140737488351232) (h2 : n.props.length <= n.pc) (h3 : n.pc <= 9223372036854775807) (h4 : n.kids.length <= n.kc) (h5 : n.kc <= 9223372036854775807)
   (hp : PRow w B n.pa n.props) (hv : ∀ p ∈ n.props, p.In w B) (hk : KRow w B n.ka n.kids) (hk' : ∀ k ∈ n.kids, Nd.In w B k) : Nd.In w B n
section
variable {w w' : World} {B B' : Nat}
theorem PV.In.keep {p : PV} (h : p.In w B) (hk : ∀ a : Addr, a.block < B -> w'.cell? a = w.cell? a) : p.In w' B := ⟨h.1, h.2.1.keep hk, h.2.2⟩
theorem PV.In.more {p : PV} (h : p.In w B) (hB : B <= B') : p.In w B' := ⟨h.1, h.2.1.more hB, h.2.2⟩
theorem PRow.keep {a : Option Addr} {l : List PV} (h : PRow w B a l) (hk : ∀ a : Addr, a.block < B -> w'.cell? a = w.cell? a) : PRow w' B a l := fun h0 => by
 obtain ⟨b, o, e, hb, hc⟩ := h h0
 exact ⟨b, o, e, hb, fun i hi => ⟨(hk _ hb).trans (hc i hi).1, (hk _ hb).trans (hc i hi).2⟩⟩
theorem KRow.keep {a : Option Addr} {l : List Nd} (h : KRow w B a l) (hk : ∀ a : Addr, a.block < B -> w'.cell? a = w.cell? a) : KRow w' B a l := fun h0 => by
 obtain ⟨b, o, e, hb, hc⟩ := h h0
 exact ⟨b, o, e, hb, fun i hi => ⟨(hk _ hb).trans (hc i hi).1, (hk _ hb).trans (hc i hi).2.1, (hk _ hb).trans (hc i hi).2.2⟩⟩
theorem PRow.more {a : Option Addr} {l : List PV} (h : PRow w B a l) (hB : B <= B') : PRow w B' a l := fun h0 => by
 obtain ⟨b, o, e, hb, hc⟩ := h h0
 exact ⟨b, o, e, by omega, hc⟩
theorem KRow.more {a : Option Addr} {l : List Nd} (h : KRow w B a l) (hB : B <= B') : KRow w B' a l := fun h0 => by
 obtain ⟨b, o, e, hb, hc⟩ := h h0
 exact ⟨b, o, e, by omega, hc⟩
theorem Nd.In.name_le {n : Nd} (h : n.In w B) : n.name.size <= 140737488351232 /\ n.props.length * 40 <= 140737488351232 /\ n.kids.length * 64 <= 140737488351232 := by cases h; assumption
theorem Nd.In.plen {n : Nd} (h : n.In w B) : n.props.length <= n.pc /\ n.pc <= 9223372036854775807 := by cases h; exact ⟨by assumption, by assumption⟩
theorem Nd.In.klen {n : Nd} (h : n.In w B) : n.kids.length <= n.kc /\ n.kc <= 9223372036854775807 := by cases h; exact ⟨by assumption, by assumption⟩
theorem Nd.In.prow {n : Nd} (h : n.In w B) : PRow w B n.pa n.props := by cases h; assumption
theorem Nd.In.krow {n : Nd} (h : n.In w B) : KRow w B n.ka n.kids := by cases h; assumption
theorem Nd.In.prop {n : Nd} (h : n.In w B) {p : PV} (hp : p ∈ n.props) : p.In w B := by cases h with | mk _ h1 h2 h3 h4 h5 h6 h7 h8 h9 => exact h7 p hp
theorem Nd.In.kid {n : Nd} (h : n.In w B) {k : Nd} (hk : k ∈ n.kids) : k.In w B := by cases h with | mk _ h1 h2 h3 h4 h5 h6 h7 h8 h9 => exact h9 k hk
theorem Nd.In.keep {n : Nd} (hk : ∀ a : Addr, a.block < B -> w'.cell? a = w.cell? a) : n.In w B -> n.In w' B :=
 Nd.ind (p := fun n => n.In w B -> n.In w' B) (fun n ih h => .mk n h.name_le h.plen.1 h.plen.2 h.klen.1 h.klen.2 (h.prow.keep hk) (fun p hp => (h.prop hp).keep hk) (h.krow.keep hk) (fun k hk' => ih k hk' (h.kid hk'))) n
theorem Nd.In.more {n : Nd} (hB : B <= B') : n.In w B -> n.In w B' :=
 Nd.ind (p := fun n => n.In w B -> n.In w B') (fun n ih h => .mk n h.name_le h.plen.1 h.plen.2 h.klen.1 h.klen.2 (h.prow.more hB) (fun p hp => (h.prop hp).more hB) (h.krow.more hB) (fun k hk' => ih k hk' (h.kid hk'))) n
theorem Nd.In.under {n : Nd} (h : n.In w B) (hb : Below B w w') : n.In w' B := h.keep fun _ hp => hb.cell hp
theorem Nd.In.on {n : Nd} (h : n.In w w.heap.size) (hb : Below w.heap.size w w') : n.In w' w'.heap.size := (h.under hb).more hb.size
theorem Nd.In.pcell {n : Nd} (h : n.In w B) {i : Nat} (hi : i < n.props.length) : ∃ b o, n.pa = some ⟨b, o, none⟩ /\ b < B /\ w.cell? ⟨b, o + i * 2, none⟩ = some (.string n.props[i].name) /\ w.cell? ⟨b, o + i * 2 + 1, none⟩ = some n.props[i].val := by
 obtain ⟨b, o, e, hb, hc⟩ := h.prow (by omega)
 exact ⟨b, o, e, hb, hc i hi⟩
theorem Nd.In.kcell {n : Nd} (h : n.In w B) {i : Nat} (hi : i < n.kids.length) : ∃ b o, n.ka = some ⟨b, o, none⟩ /\ b < B /\ w.cell? ⟨b, o + i * 3, none⟩ = some (.string n.kids[i].name) /\ w.cell? ⟨b, o + i * 3 + 1, none⟩ = some n.kids[i].pv /\ w.cell? ⟨b, o + i * 3 + 2, none⟩ = some n.kids[i].kv := by
 obtain ⟨b, o, e, hb, hc⟩ := h.krow (by omega)
 exact ⟨b, o, e, hb, hc i hi⟩
end
theorem two_of {α : Type} {l : List α} (h : l.length = 2) : ∃ a b, l = [a, b] := by
 match l, h with
 | [a, b], _ => exact ⟨a, b, rfl⟩
theorem three_of {α : Type} {l : List α} (h : l.length = 3) : ∃ a b c, l = [a, b, c] := by
 match l, h with
 | [a, b, c], _ => exact ⟨a, b, c, rfl⟩
theorem five_of {α : Type} {l : List α} (h : l.length = 5) : ∃ a b c d e, l = [a, b, c, d, e] := by
 match l, h with
 | [a, b, c, d, e], _ => exact ⟨a, b, c, d, e, rfl⟩
theorem Tryz.cellsNode : Tryz.prog.cellsOf 27 = 3 := by kernel_rfl
theorem Tryz.cellsProp : Tryz.prog.cellsOf 84 = 2 := by kernel_rfl
theorem Tryz.cellsStr : Tryz.prog.cellsOf 9 = 1 := by kernel_rfl
theorem Tryz.cellsByte : Tryz.prog.cellsOf 5 = 1 := by kernel_rfl
theorem Tryz.cellsBytes : Tryz.prog.cellsOf 82 = 1 := by kernel_rfl
theorem Tryz.cellsProps : Tryz.prog.cellsOf 24 = 1 := by kernel_rfl
theorem Tryz.cellsNodes : Tryz.prog.cellsOf 25 = 1 := by kernel_rfl
instance : Inhabited PV := ⟨⟨⟨#[]⟩, none, 0, []⟩⟩
instance : Inhabited Nd := ⟨.mk ⟨#[]⟩ none 0 [] none 0 []⟩
section
variable {H : Type} {enc : TypeId × Value -> H} {w : World} {base : Nat} {spare : Nat -> Bool} {held : Bool}
theorem qg2_ {P : Program} {e : TypeId} {d : DataW H} : ∀ {l : List (DataW H)}, d ∈ l -> ∀ {z : Nat}, z ∈ DataW.weights P e d -> z ∈ DataW.weightsAll P e l
 | x :: l, hd, z, hz => by
  rw [DataW.weightsAll]
  rcases List.mem_cons.1 hd with rfl | h
  ·exact List.mem_append_left _ hz
  ·exact List.mem_append_right _ (qg2_ h hz)
theorem Tryz.bytesNode : Tryz.prog.bytesOf 27 = 64 := by kernel_rfl
theorem Tryz.bytesProp : Tryz.prog.bytesOf 84 = 40 := by kernel_rfl
end
end
mutual
def qih_ : Nd -> Nat
 | .mk _ _ _ _ _ _ ks => 1 + qd9_ ks
def qd9_ : List Nd -> Nat
 | [] => 0
 | k :: l => qih_ k + qd9_ l
end
mutual
def qi8_ : Nd -> Nat
 | .mk _ _ _ ps _ _ ks => ps.length + qes_ ks
def qes_ : List Nd -> Nat
 | [] => 0
 | k :: l => qi8_ k + qes_ l
end
theorem qfd_ : ∀ a b : List Nd, qd9_ (a ++ b) = qd9_ a + qd9_ b
 | [], b => by simp [qd9_]
 | x :: a, b => by simp only [List.cons_append, qd9_, qfd_ a b]; omega
theorem qfb_ : ∀ a b : List Nd, qes_ (a ++ b) = qes_ a + qes_ b
 | [], b => by simp [qes_]
 | x :: a, b => by simp only [List.cons_append, qes_, qfb_ a b]; omega
theorem qdp_ {α : Type} (l : List α) (j : Nat) (h : j < l.length) : l.take (j + 1) = l.take j ++ [l[j]] := by
 rw [List.take_add_one, List.getElem?_eq_getElem h]; rfl
theorem qg8_ (l : List Nd) (j : Nat) (h : j < l.length) : qd9_ (l.take (j + 1)) = qd9_ (l.take j) + qih_ l[j] := by
 rw [qdp_ l j h, qfd_]; simp [qd9_]
theorem qg6_ (l : List Nd) (j : Nat) (h : j < l.length) : qes_ (l.take (j + 1)) = qes_ (l.take j) + qi8_ l[j] := by
 rw [qdp_ l j h, qfb_]; simp [qes_]
theorem wrap_add (a b : Int) : wrap64 (wrap64 a + wrap64 b) = wrap64 (a + b) := by simp only [wrap64]; omega
theorem qdj_ {a b c d : Int} (h1 : a = wrap64 c) (h2 : b = wrap64 d) : wrap64 (a + b) = wrap64 (c + d) := by rw [h1, h2, wrap_add]
theorem qeo_ {a : Int} (h0 : -9223372036854775808 <= a) (h1 : a <= 9223372036854775807) : wrap64 a = a := by simp only [wrap64]; omega
def qg5_ (e : Ending) (n : Nd) : Prop := e = .returned (.tuple #[.int .i64 (wrap64 (qih_ n)), .int .i64 (wrap64 (qi8_ n))])
theorem count_any : ∀ (n : Nd) (w : World), n.In w w.heap.size -> Calls Tryz.prog 62 #[n.val] w fun e w' => qg5_ e n /\ Below w.heap.size w w' := by
 refine Nd.ind ?_
 intro n ih w hin
 obtain ⟨nm, pa, pc, ps, ka, kc, ks⟩ := n
 have HI := Lib.hid hin
 have IH := Lib.hid ih
 obtain ⟨hl, hm⟩ : ks.length <= kc /\ kc <= 9223372036854775807 := hin.klen
 obtain ⟨hl2, hm2⟩ : ps.length <= pc /\ pc <= 9223372036854775807 := hin.plen
 clear hin ih
 show Calls _ _ #[.agg #[.string nm, .slice pa ps.length pc, .slice ka ks.length kc]] _ _
 go_enter Tryz.func62, Tryz.ntmps62
 go_wp2_with fail
 go_region
 go_wp2_with fail
 go_loopw [4, 5, 16] (fun x y i wr => ∃ k : Nat, k <= ks.length /\ i = .int .i64 k /\ (∃ a b : Int, x = .int .i64 a /\ y = .int .i64 b /\ Hid (a = wrap64 (1 + qd9_ (ks.take k)) /\ b = wrap64 (ps.length + qes_ (ks.take k)))) /\ Below w.heap.size w wr) (fun _ _ i _ => ks.length - (intOf i).toNat)
 case atStart => exact ⟨0, Nat.zero_le _, rfl, ⟨1, ps.length, rfl, rfl, by simp only [List.take_zero, qd9_]; exact (qeo_ (by omega) (by omega)).symm, by simp only [List.take_zero, qes_]; exact (qeo_ (by omega) (by omega)).symm⟩, ((Below.refl _ _).alloc (Nat.le_refl _) _).drew⟩
 case round =>
  obtain ⟨k, hk, rfl, ⟨a, c, rfl, rfl, hac⟩, hb⟩ := hrel
  have HB := Lib.hid hb
  clear hb
  by_cases hlt : k < ks.length
  ·obtain ⟨b, o, e, hb, c0, c1, c2⟩ := (HI.out.under HB.out).kcell (i := k) hlt
   obtain rfl : ka = _ := e
   replace c0 : _ = some (Value.string ks[k].name) := c0
   replace c1 : _ = some (Value.slice ks[k].pa ks[k].props.length ks[k].pc) := c1
   replace c2 : _ = some (Value.slice ks[k].ka ks[k].kids.length ks[k].kc) := c2
   have HB2 := Lib.hid (HB.out.alloc HB.out.size (.cells #[Value.string ks[k].name, .slice ks[k].pa ks[k].props.length ks[k].pc, .slice ks[k].ka ks[k].kids.length ks[k].kc] 27))
   go_wp2_with fail
   refine (IH.out ks[k] (List.getElem_mem hlt) _ (((HI.out.kid (List.getElem_mem hlt)).under HB2.out).more HB2.out.size)).mono ?_
   rintro e w' ⟨he, hb'⟩
   obtain rfl := he
   have HB3 := Lib.hid (HB2.out.trans (hb'.mono HB2.out.size))
   clear hb'
   go_wp2
   go_roundw
   case rel => exact ⟨k + 1, by omega, by go_num, ⟨_, _, rfl, rfl, by rw [qg8_ _ _ hlt, qdj_ hac.1 rfl]; congr 1; omega, by rw [qg6_ _ _ hlt, qdj_ hac.2 rfl]; congr 1; omega⟩, HB3.out⟩
   case measure => simp [intOf]; omega
  ·have he : k = ks.length := by omega
   have HE := Lib.hid he
   clear he
   go_wp2
   go_ret2
   refine ⟨?_, HB.out⟩
   have h1 := hac.1
   have h2 := hac.2
   rw [HE.out, List.take_length] at h1 h2
   rw [qg5_, h1, h2, qih_, qi8_]
   congr 5
theorem qjx_ : ∀ (n : Nd) (w : World), n.In w w.heap.size -> Calls Tryz.prog 13 #[n.val] w fun e w' => qg5_ e n /\ Below w.heap.size w w' := by
 refine Nd.ind ?_
 intro n ih w hin
 obtain ⟨nm, pa, pc, ps, ka, kc, ks⟩ := n
 have HI := Lib.hid hin
 have IH := Lib.hid ih
 obtain ⟨hl, hm⟩ : ks.length <= kc /\ kc <= 9223372036854775807 := hin.klen
 obtain ⟨hl2, hm2⟩ : ps.length <= pc /\ pc <= 9223372036854775807 := hin.plen
 clear hin ih
 show Calls _ _ #[.agg #[.string nm, .slice pa ps.length pc, .slice ka ks.length kc]] _ _
 go_enter Tryz.func13, Tryz.ntmps13
 go_wp2_with fail
 go_region
 go_wp2_with fail
 go_loopw [4, 5, 15] (fun x y i wr => ∃ k : Nat, k <= ks.length /\ i = .int .i64 k /\ (∃ a b : Int, x = .int .i64 a /\ y = .int .i64 b /\ Hid (a = wrap64 (1 + qd9_ (ks.take k)) /\ b = wrap64 (ps.length + qes_ (ks.take k)))) /\
   Below (w.heap.size + 1) (w.alloc (.cells #[Value.string nm, .slice pa ps.length pc, .slice ka ks.length kc] 27)) wr) (fun _ _ i _ => ks.length - (intOf i).toNat)
 case atStart => exact ⟨0, Nat.zero_le _, rfl, ⟨1, ps.length, rfl, rfl, by simp only [List.take_zero, qd9_]; exact (qeo_ (by omega) (by omega)).symm, by simp only [List.take_zero, qes_]; exact (qeo_ (by omega) (by omega)).symm⟩, (Below.refl _ _).drew⟩
 case round =>
  obtain ⟨k, hk, rfl, ⟨a, c, rfl, rfl, hac⟩, hb⟩ := hrel
  have HB0 := Lib.hid hb
  have HB := Lib.hid (((Below.refl w.heap.size w).alloc (Nat.le_refl _) _).trans (hb.mono (Nat.le_succ _)))
  clear hb
  by_cases hlt : k < ks.length
  ·obtain ⟨b, o, e, hb, c0, c1, c2⟩ := (HI.out.under HB.out).kcell (i := k) hlt
   obtain rfl : ka = _ := e
   replace c0 : _ = some (Value.string ks[k].name) := c0
   replace c1 : _ = some (Value.slice ks[k].pa ks[k].props.length ks[k].pc) := c1
   replace c2 : _ = some (Value.slice ks[k].ka ks[k].kids.length ks[k].kc) := c2
   have hbox : wr.cell? ⟨w.heap.size, 2, none⟩ = some (.slice (some ⟨b, o, none⟩) ks.length kc) := (HB0.out.cell (Nat.lt_succ_self _)).trans (World.cell?_alloc_new _ _ _ _)
   go_wp2_with fail
   refine (IH.out ks[k] (List.getElem_mem hlt) _ (((HI.out.kid (List.getElem_mem hlt)).under HB.out).more HB.out.size)).mono ?_
   rintro e w' ⟨he, hb'⟩
   obtain rfl := he
   have HB3 := Lib.hid (HB0.out.trans (hb'.mono (by have := HB0.out.size; simpa using this)))
   clear hb'
   go_wp2
   go_roundw
   case rel => exact ⟨k + 1, by omega, by go_num, ⟨_, _, rfl, rfl, by rw [qg8_ _ _ hlt, qdj_ hac.1 rfl]; congr 1; omega, by rw [qg6_ _ _ hlt, qdj_ hac.2 rfl]; congr 1; omega⟩, HB3.out⟩
   case measure => simp [intOf]; omega
  ·have he : k = ks.length := by omega
   have HE := Lib.hid he
   clear he
   go_wp2
   go_ret2
   refine ⟨?_, HB.out⟩
   have h1 := hac.1
   have h2 := hac.2
   rw [HE.out, List.take_length] at h1 h2
   rw [qg5_, h1, h2, qih_, qi8_]
   congr 5
theorem size_any : ∀ (n : Nd) (d : Int) (w : World), n.In w w.heap.size -> 0 <= d -> d <= 21 -> Calls Tryz.prog 11 #[n.val, .int .i64 d] w fun e w' => (∃ x : Int, e = .returned (.int .i64 x)) /\ Below w.heap.size w w' := by
 refine Nd.ind ?_
 intro n ih d w hin hd0 hd1
 obtain ⟨nm, pa, pc, ps, ka, kc, ks⟩ := n
 have HI := Lib.hid hin
 have IH := Lib.hid ih
 obtain ⟨hl, hm⟩ : ks.length <= kc /\ kc <= 9223372036854775807 := hin.klen
 obtain ⟨hl2, hm2⟩ : ps.length <= pc /\ pc <= 9223372036854775807 := hin.plen
 obtain ⟨hn, _⟩ : nm.size <= 140737488351232 /\ _ := hin.name_le
 clear hin ih
 show Calls _ _ #[.agg #[.string nm, .slice pa ps.length pc, .slice ka ks.length kc], .int .i64 d] _ _
 go_enter Tryz.func11, Tryz.ntmps11
 go_wp2_with fail
 go_loopw [5, 15] (fun x i wr => ∃ k : Nat, k <= ps.length /\ i = .int .i64 k /\ (∃ a : Int, x = .int .i64 a) /\ Below (w.heap.size + 1) (w.alloc (.cells #[Value.string nm, .slice pa ps.length pc, .slice ka ks.length kc] 27)) wr) (fun _ i _ => ps.length - (intOf i).toNat)
 case atStart => exact ⟨0, Nat.zero_le _, rfl, ⟨_, rfl⟩, Below.refl _ _⟩
 case round =>
  obtain ⟨k, hk, rfl, ⟨a, rfl⟩, hb⟩ := hrel
  have HB0 := Lib.hid hb
  have HB := Lib.hid (((Below.refl w.heap.size w).alloc (Nat.le_refl _) _).trans (hb.mono (Nat.le_succ _)))
  clear hb
  by_cases hlt : k < ps.length
  ·obtain ⟨b, o, e, hb, c0, c1⟩ := (HI.out.under HB.out).pcell (i := k) hlt
   obtain rfl : pa = _ := e
   replace c0 : _ = some (Value.string ps[k].name) := c0
   replace c1 : _ = some (Value.slice ps[k].addr ps[k].zs.length ps[k].cap) := c1
   have hbox : wr.cell? ⟨w.heap.size, 1, none⟩ = some (.slice (some ⟨b, o, none⟩) ps.length pc) := (HB0.out.cell (Nat.lt_succ_self _)).trans (World.cell?_alloc_new _ _ _ _)
   go_wp2_with fail
   go_region
   go_wp2
   go_roundw
   case rel => exact ⟨k + 1, by omega, by go_num, ⟨_, rfl⟩, HB0.out.drew⟩
   case measure => simp [intOf]; omega
  ·have hbox : wr.cell? ⟨w.heap.size, 2, none⟩ = some (.slice ka ks.length kc) := (HB0.out.cell (Nat.lt_succ_self _)).trans (World.cell?_alloc_new _ _ _ _)
   go_wp2_with fail
   clear hbox
   go_loopw [5, 40] (fun x i wr => ∃ k : Nat, k <= ks.length /\ i = .int .i64 k /\ (∃ a : Int, x = .int .i64 a) /\ Below (w.heap.size + 1) (w.alloc (.cells #[Value.string nm, .slice pa ps.length pc, .slice ka ks.length kc] 27)) wr) (fun _ i _ => ks.length - (intOf i).toNat)
   case atStart => exact ⟨0, Nat.zero_le _, rfl, ⟨_, rfl⟩, HB0.out⟩
   case round =>
    clear HB HB0
    obtain ⟨k, hk, rfl, ⟨a, rfl⟩, hb⟩ := hrel
    have HB0 := Lib.hid hb
    have HB := Lib.hid (((Below.refl w.heap.size w).alloc (Nat.le_refl _) _).trans (hb.mono (Nat.le_succ _)))
    clear hb
    by_cases hlt' : k < ks.length
    ·obtain ⟨b, o, e, hb, c0, c1, c2⟩ := (HI.out.under HB.out).kcell (i := k) hlt'
     obtain rfl : ka = _ := e
     replace c0 : _ = some (Value.string ks[k].name) := c0
     replace c1 : _ = some (Value.slice ks[k].pa ks[k].props.length ks[k].pc) := c1
     replace c2 : _ = some (Value.slice ks[k].ka ks[k].kids.length ks[k].kc) := c2
     have hbox : wr.cell? ⟨w.heap.size, 2, none⟩ = some (.slice (some ⟨b, o, none⟩) ks.length kc) := (HB0.out.cell (Nat.lt_succ_self _)).trans (World.cell?_alloc_new _ _ _ _)
     by_cases hd : 20 < d
     ·go_wp2
      go_ret
      exact ⟨⟨_, rfl⟩, HB.out⟩
     ·by_cases ha : 100000 < a
      ·go_wp2
       go_ret
       exact ⟨⟨_, rfl⟩, HB.out⟩
      ·go_wp2_with fail
       refine (IH.out ks[k] (List.getElem_mem hlt') _ _ (((HI.out.kid (List.getElem_mem hlt')).under HB.out).more HB.out.size) (by omega) (by omega)).mono ?_
       rintro e w' ⟨⟨x, rfl⟩, hb'⟩
       have HB3 := Lib.hid (HB0.out.trans (hb'.mono (by have := HB0.out.size; simpa using this)))
       clear hb'
       go_wp2
       go_roundw
       case rel => exact ⟨k + 1, by omega, by go_num, ⟨_, rfl⟩, HB3.out⟩
       case measure => simp [intOf]; omega
    ·go_wp2
     go_ret
     exact ⟨⟨_, rfl⟩, HB.out⟩
def idxOf : List ByteArray -> ByteArray -> Int
 | [], _ => -1
 | x :: l, s => if x = s then 0 else if idxOf l s < 0 then -1 else idxOf l s + 1
theorem qlf_ : ∀ (l : List ByteArray) (s : ByteArray) (k : Nat) (hk : k < l.length), l[k] = s -> (∀ j (hj : j < k), l[j] ≠ s) -> idxOf l s = k
 | x :: l, s, 0, hk, h, _ => by simp only [List.getElem_cons_zero] at h; simp [idxOf, h]
 | x :: l, s, k + 1, hk, h, h' => by
  have h0 : x ≠ s := by have := h' 0 (by omega); simpa using this
  have ih := qlf_ l s k (by simpa using hk) (by simpa using h) (fun j hj => by have := h' (j + 1) (by omega); simpa using this)
  rw [idxOf, if_neg h0, ih, if_neg (by omega)]
  omega
theorem qif_ : ∀ (l : List ByteArray) (s : ByteArray), (∀ j (hj : j < l.length), l[j] ≠ s) -> idxOf l s = -1
 | [], s, _ => rfl
 | x :: l, s, h => by
  have h0 : x ≠ s := by have := h 0 (by simp); simpa using this
  have ih := qif_ l s (fun j hj => by have := h (j + 1) (by simpa using hj); simpa using this)
  rw [idxOf, if_neg h0, ih, if_pos (by omega)]
def Missed (l : List ByteArray) (s : ByteArray) (k : Nat) : Prop := k <= l.length /\ ∀ j (hj : j < l.length), j < k -> l[j] ≠ s
theorem Missed.zero (l : List ByteArray) (s : ByteArray) : Missed l s 0 := ⟨Nat.zero_le _, fun _ _ h => absurd h (Nat.not_lt_zero _)⟩
theorem Missed.succ {l : List ByteArray} {s : ByteArray} {k : Nat} (h : Missed l s k) (hk : k < l.length) (hne : l[k] ≠ s) : Missed l s (k + 1) :=
 ⟨hk, fun j hj hlt => by
  rcases Nat.lt_succ_iff_lt_or_eq.1 hlt with h1 | rfl
  ·exact h.2 j hj h1
  ·exact hne⟩
theorem Missed.hit {l : List ByteArray} {s : ByteArray} {k : Nat} (h : Missed l s k) (hk : k < l.length) (he : l[k] = s) : idxOf l s = k := qlf_ l s k hk he (fun j hj => h.2 j (by omega) hj)
theorem Missed.all {l : List ByteArray} {s : ByteArray} {k : Nat} (h : Missed l s k) (hk : ¬ k < l.length) : idxOf l s = -1 := qif_ l s (fun j hj => h.2 j hj (by omega))
theorem qjq_ {x s : ByteArray} (h : x ≠ s) : (x.toList == s.toList) = false := by
 rw [beq_eq_false_iff_ne]
 intro e
 rw [Lib.toList_data, Lib.toList_data] at e
 exact h (WideShapes.bytes_inj e)

def whereL : List ByteArray -> ByteArray -> Nat
 | [], _ => 0
 | x :: r, s => if x = s then 0 else x.size + 1 + whereL r s
def propT (l : List ByteArray) (p : PV) : List Int := [0, 0, 0, 3] ++ (four p.zs.length ++ (four (whereL l p.name) ++ padL p.zs))
mutual
def nodeN (l : List ByteArray) : Nd -> List Int
 | .mk nm _ _ ps _ _ ks => [0, 0, 0, 1] ++ padL (strB nm ++ [0]) ++ ps.flatMap (propT l) ++ nodeL l ks ++ [0, 0, 0, 2]
def nodeL (l : List ByteArray) : List Nd -> List Int
 | [] => []
 | k :: r => nodeN l k ++ nodeL l r
end
theorem qkb_ (l : List ByteArray) : ∀ a b : List Nd, nodeL l (a ++ b) = nodeL l a ++ nodeL l b
 | [], b => by simp [nodeL]
 | x :: a, b => by simp only [List.cons_append, nodeL, qkb_ l a b, List.append_assoc]
def heftP (p : PV) : Nat := 16 + p.name.size + p.zs.length
mutual
def heftN : Nd -> Nat
 | .mk nm _ _ ps _ _ ks => 16 + nm.size + (ps.map heftP).sum + heftL ks
def heftL : List Nd -> Nat
 | [] => 0
 | k :: r => heftN k + heftL r
end
theorem qc4_ : ∀ a b : List Nd, heftL (a ++ b) = heftL a + heftL b
 | [], b => by simp [heftL]
 | x :: a, b => by simp only [List.cons_append, heftL, qc4_ a b]; omega
theorem qbh_ (ks : List Nd) (j : Nat) (h : j < ks.length) : heftL (ks.take (j + 1)) = heftL (ks.take j) + heftN ks[j] := by
 rw [qdp_ ks j h, qc4_]; simp [heftL]
theorem qbb_ (ks : List Nd) (j : Nat) : heftL (ks.take j) <= heftL ks := by
 conv => rhs; rw [<- List.take_append_drop j ks, qc4_]
 omega
theorem qpb_ (ps : List PV) (j : Nat) : ((ps.take j).map heftP).sum <= (ps.map heftP).sum := by
 conv => rhs; rw [<- List.take_append_drop j ps, List.map_append, List.sum_append]
 omega
theorem qne_ (ps : List PV) (j : Nat) (h : j < ps.length) : ((ps.take (j + 1)).map heftP).sum = ((ps.take j).map heftP).sum + heftP ps[j] := by
 rw [qdp_ ps j h, List.map_append, List.sum_append]; simp
end Go.Proofs.YtcfinbapfhhpgaaGreatDoor
