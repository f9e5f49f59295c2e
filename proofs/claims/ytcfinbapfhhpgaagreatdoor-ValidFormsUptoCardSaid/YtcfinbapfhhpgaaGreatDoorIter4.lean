/-
  Iter, part 4.
-/
import Derived.Test.YtcfinbapfhhpgaaGreatDoorIter3
import Derived.Test.YtcfinbapfhhpgaaGreatDoorBase1
import Derived.Test.YtcfinbapfhhpgaaGreatDoorBase6
import Derived.Test.YtcfinbapfhhpgaaGreatDoorBase8
import Derived.WalkSpells
import Derived.Test.YtcfinbapfhhpgaaGreatDoorIter1
import Derived.Laws.EntriesVeiled
namespace Go.Proofs.YtcfinbapfhhpgaaGreatDoor
open Go.RowKit
set_option linter.unusedVariables false
set_option linter.unusedSimpArgs false
set_option maxRecDepth 20000
set_option maxHeartbeats 16000000
section
attribute [local go_sem ↓] Go.wp_at_zero Go.wp_at_succ
attribute [local go_sem] Oper.semAt_some
theorem qaa_ {w : World} {b : Nat} {v0 v1 : Value} {T : TypeId} (h : w.heap[b]? = some (.cells #[v0, v1] T (0, 0))) : w.cell? ⟨b, 0, none⟩ = some v0 /\ w.cell? ⟨b, 1, none⟩ = some v1 := by
 refine ⟨?_, ?_⟩ <;> rw [Lib.cell_of_heap h] <;> rfl
theorem qax_ {w : World} {b : Nat} {v0 v1 : Value} {T : TypeId} (h : w.heap[b]? = some (.cells #[v0, v1] T (0, 0))) (u0 u1 : Value) : ((w.setCell ⟨b, 0, none⟩ u0).setCell ⟨b, 1, none⟩ u1).heap[b]? = some (.cells #[u0, u1] T (0, 0)) := by
 simp [World.setCell, Array.getElem?_modify, h]
theorem qay_ (w : World) {b k : Nat} (hk : k ≠ b) (u0 u1 : Value) : ((w.setCell ⟨b, 0, none⟩ u0).setCell ⟨b, 1, none⟩ u1).heap[k]? = w.heap[k]? := by
 rw [Below.heap_setCell _ _ _ _ hk, Below.heap_setCell _ _ _ _ hk]
theorem qcl_ (w : World) (b : Nat) (u0 u1 : Value) : ((w.setCell ⟨b, 0, none⟩ u0).setCell ⟨b, 1, none⟩ u1).heap.size = w.heap.size := by simp [World.setCell]
theorem qal_ {B : Nat} {w0 w : World} (h : Below B w0 w) {b : Nat} (hb : B <= b) (u0 u1 : Value) : Below B w0 ((w.setCell ⟨b, 0, none⟩ u0).setCell ⟨b, 1, none⟩ u1) := (h.setCell (p := ⟨b, 0, none⟩) hb u0).setCell (p := ⟨b, 1, none⟩) hb u1
theorem Cel.set2 {w : World} {n : Nat} {A : Option Addr} {xs : List Value} (h : Cel w w.heap.size A n xs) {g : Nat} (hA : ∀ b o, A = some ⟨b, o, none⟩ -> b ≠ g) (u0 u1 : Value) : Cel ((w.setCell ⟨g, 0, none⟩ u0).setCell ⟨g, 1, none⟩ u1) ((w.setCell ⟨g, 0, none⟩ u0).setCell ⟨g, 1, none⟩ u1).heap.size A n xs :=
 ⟨h.1, fun h0 => by
  obtain ⟨b, o, e, hb, hc⟩ := h.2 h0
  exact ⟨b, o, e, by rw [qcl_]; exact hb, fun i hi => (World.cell?_of_block (a := ⟨b, o + i, none⟩) (qay_ w (hA b o e) u0 u1)).trans (hc i hi)⟩⟩
theorem qh5_ (R : Nd) (D : Nat -> Prop) (b : Nat) (z : List Nat) (x : Nd) (ln : Int) (w : World) (hs : Spot w R D b z x) (hh : heftN R <= 134217728) :
  Calls Tryz.prog 111 #[.agg #[.pointer (some ⟨b, 0, none⟩), .int .u32 ln]] w fun e w' => (∃ A c, e = .returned (.agg #[.slice A z.length c, .int .u32 ln]) /\ Cel w' w'.heap.size A z.length (ints z) /\ z.length <= c /\ c <= 9223372036854775807 /\ ∀ b o, A = some ⟨b, o, none⟩ -> w.heap.size <= b) /\ Below w.heap.size w w' := by
 obtain ⟨g, hg⟩ : ∃ g, w.heap.size = g := ⟨_, rfl⟩
 have CP := Lib.hid (fun W (hW : Below w.heap.size w W) => qk7_ R D b z x W (hs.on hW) hh)
 obtain ⟨N, hN⟩ : ∃ N, z.length = N := ⟨_, rfl⟩
 rw [hN] at CP ⊢
 have HFF : Hid (∀ W1, (w.alloc (.cells #[.pointer (some ⟨b, 0, none⟩), .int .u32 ln] 227)).alloc (.cells #[.slice none 0 0, .int .u32 0] 127) = W1 -> W1.heap[g]? = some (.cells #[.pointer (some ⟨b, 0, none⟩), .int .u32 ln] 227 (0, 0)) /\ W1.heap[g + 1]? = some (.cells #[.slice none 0 0, .int .u32 0] 127 (0, 0)) /\ Below g w W1 /\ W1.heap.size = g + 2) := Lib.hid (by
  rintro W1 rfl
  have e1 : (w.alloc (.cells #[.pointer (some ⟨b, 0, none⟩), .int .u32 ln] 227)).heap.size = g + 1 := by simp [hg]
  refine ⟨?_, ?_, ?_, by simp [hg]⟩
  ·rw [Below.heap_alloc _ _ _ (by omega), <- hg]; exact heap_alloc_new _ _
  ·rw [<- e1]; exact heap_alloc_new _ _
  ·exact ((Below.refl g w).alloc (by omega) _).alloc (by omega) _)
 rw [hg] at CP ⊢
 clear hs hN
 obtain ⟨W1, hW1⟩ : ∃ W1, (w.alloc (.cells #[.pointer (some ⟨b, 0, none⟩), .int .u32 ln] 227)).alloc (.cells #[.slice none 0 0, .int .u32 0] 127) = W1 := ⟨_, rfl⟩
 have HF := Lib.hid (HFF.out W1 hW1)
 have hgg : w.heap.size = g := hg
 clear HFF
 go_enter Tryz.func111, Tryz.ntmps111
 go_wp2_with fail
 clear hW1
 refine wp_region_held_drew (S := fun V => V.cell? ⟨g, 0, none⟩ = some (.pointer (some ⟨b, 0, none⟩)) /\ V.cell? ⟨g, 1, none⟩ = some (.int .u32 ln)) (by kernel_rfl) (qaa_ HF.out.1) (fun hHeld => ?_)
 refine tk 0 hHeld fun _ => ?_
 refine tk 1 hHeld fun _ => ?_
 refine tk 3 hHeld fun _ => ?_
 refine tk 4 hHeld fun _ => ?_
 refine qab_ 2 (by kernel_rfl) rfl (by rfl) (fun K hK => ?_)
 go_simp
 refine (CP.out W1.drew (HF.out.2.2.1.drew)).mono ?_
 rintro e w2 ⟨⟨A, c, rfl, hcel, h1, h2, hA⟩, hb⟩
 have hb0 : Below W1.heap.size W1 w2 := (Below.refl _ W1).drew.trans hb
 have HG2 := Lib.hid ((hb0.block g (by have := HF.out.2.2.2; omega)).trans HF.out.1)
 have HR2 := Lib.hid ((hb0.block (g + 1) (by have := HF.out.2.2.2; omega)).trans HF.out.2.1)
 have HB2 := Lib.hid (HF.out.2.2.1.trans (hb0.mono (by have := HF.out.2.2.2; omega)))
 have hA2 : ∀ b o, A = some ⟨b, o, none⟩ -> b ≠ g + 1 := fun b o e => by
  have h5 := hA b o e
  have h6 := HF.out.2.2.2
  have h7 : W1.drew.heap.size = W1.heap.size := rfl
  omega
 have HAF : Hid (∀ b o, A = some ⟨b, o, none⟩ -> g <= b) := Lib.hid (fun b o e => by
  have h5 := hA b o e
  have h6 := HF.out.2.2.2
  have h7 : W1.drew.heap.size = W1.heap.size := rfl
  omega)
 have HC := Lib.hid (And.intro (hcel.set2 hA2 (.slice A N c) (.int .u32 ln)) (And.intro h1 h2))
 have HGA := Lib.hid ((qay_ w2 (b := g + 1) (k := g) (by omega) (.slice A N c) (.int .u32 ln)).trans HG2.out)
 have HRA := Lib.hid (qax_ HR2.out (.slice A N c) (.int .u32 ln))
 have HBA := Lib.hid (qal_ HB2.out (b := g + 1) (by omega) (.slice A N c) (.int .u32 ln))
 clear hb hb0 hcel h1 h2 hA hA2
 dsimp only
 refine hK.out _ _ (qaa_ HG2.out) (fun hHeld => ?_)
 clear hK K
 refine tk 5 hHeld fun _ => ?_
 have f0 := Lib.frozen_of_heap HR2.out 0
 have f1 := Lib.frozen_of_heap HR2.out 1
 have r0 := qaa_ HR2.out
 obtain ⟨r0, r1⟩ := r0
 refine qab_ 6 (by kernel_rfl) rfl (by rfl) (fun K hK => ?_)
 go_simp
 clear f0 f1 r0 r1
 obtain ⟨W3, hW3⟩ : ∃ W3, (w2.setCell ⟨g + 1, 0, none⟩ (.slice A N c)).setCell ⟨g + 1, 1, none⟩ (.int .u32 ln) = W3 := ⟨_, rfl⟩
 rw [hW3] at HGA HRA HBA HC ⊢
 clear hW3
 refine hK.out _ _ (qaa_ HGA.out) (fun hHeld => ?_)
 clear hK K
 refine wpAnyH_done (by kernel_rfl) ?_ _
 clear hHeld
 obtain ⟨d0, d1⟩ := qaa_ HRA.out
 go_wp2_with fail
 refine bodyPost_ret (v := .agg #[.slice A N c, .int .u32 ln]) (by simp [results, Tryz.results111, go_sem, d0, d1]; try rfl) rfl ?_
 exact ⟨⟨A, c, rfl, HC.out.1, HC.out.2.1, HC.out.2.2, HAF.out⟩, HBA.out⟩
end
theorem heft_eq (x : Nd) : heftN x = 16 + x.name.size + (x.props.map heftP).sum + heftL x.kids := by cases x; rw [heftN]; rfl
theorem qk5_ (R : Nd) : ∀ (l : List (List Nat)) (acc r : List (Int × List Nat)), qah_ R acc l = (r, 0) -> r = acc ++ l.filterMap (hOf R)
 | [], acc, r, h => by
  rw [qah_] at h
  have h' := (Prod.mk.inj h).1
  rw [<- h']; simp
 | p :: l, acc, r, h => by
  rw [qah_] at h
  by_cases h0 : (qau_ R acc p).2 = 0
  ·rw [if_pos h0] at h
   have ih := qk5_ R l _ r h
   have hs : (qau_ R acc p).1 = acc ++ (hOf R p).toList := by
    unfold qau_ at h0 ⊢
    unfold hOf
    split at h0
    ·rename_i hn; rw [hn]; simp
    ·rename_i n hn
     rw [hn]
     simp only
     by_cases g1 : (oneV n qas_).2.2 ≠ 0
     ·rw [if_pos g1] at h0; exact absurd h0 g1
     rw [if_neg g1] at h0 ⊢
     by_cases g2 : (oneV n qas_).2.1 = false
     ·rw [if_pos g2, g2]; simp
     rw [if_neg g2] at h0 ⊢
     have g2' : (oneV n qas_).2.1 = true := by simpa using g2
     by_cases g3 : (oneV n qas_).1 = 0 \/ (oneV n qas_).1 = 4294967295
     ·rw [if_pos g3] at h0; exact absurd h0 (by decide)
     rw [if_neg g3] at h0 ⊢
     by_cases g4 : acc.any (fun x => decide (x.1 = (oneV n qas_).1)) = true
     ·rw [if_pos g4] at h0; exact absurd h0 (by decide)
     rw [if_neg g4, g2']
     simp
   rw [ih, hs, List.append_assoc]
   congr 1
   cases hh : hOf R p <;> rw [List.filterMap_cons, hh] <;> rfl
  ·rw [if_neg h0] at h
   exact absurd (Prod.mk.inj h).2 h0
theorem qfy_ {R : Nd} (h : (qan_ R).2 = 0) : (qan_ R).1 = (qac_ R []).filterMap (hOf R) := by
 have := qk5_ R (qac_ R []) [] (qan_ R).1 (by rw [<- h]; rfl)
 simpa using this
theorem qnh_ (A : Option Addr) (n c : Nat) (p : List Nat) (W : World) (hp : Cel W W.heap.size A n (ints p)) (hnc : n <= c) (hc : c <= 9223372036854775807) (hn : n <= 1099511627776) :
  Calls Tryz.prog 41 #[.slice A n c] W fun e W' => (∃ v, e = .returned v /\ W'.ownsRow W.heap.size 3 1 v n (ints p)) /\ Below W.heap.size W W' := by
 have hl : p.length = n := by have := hp.1; rwa [List.length_map] at this
 have q : ∀ (w : World) (a : Option Addr) (n c n' c' : Nat), (binOp .eql 56 (.slice a n c) (.slice none n' c')).run Tryz.prog w = .ok (.bool a.isNone) w := fun w a n c n' c' => Lib.run_eql_slice_nil w _ _ a n c n' c' Tryz.underlying56
 have u22 : ∀ w, Sem.run Tryz.prog (underlying 56) w = .ok (TypeDesc.slice 3) w := run_underlying Tryz.underlying56
 rcases A with _ | a
 ·have h0 : n = 0 := by
   rcases Nat.eq_zero_or_pos n with h | h
   ·exact h
   ·obtain ⟨b, o, e, _⟩ := hp.2 h; cases e
  subst h0
  obtain rfl : p = [] := List.eq_nil_of_length_eq_zero hl
  clear hp hl
  go_enter Tryz.func41, Tryz.ntmps41
  go_wp2
  go_ret
  exact ⟨⟨_, rfl, World.ownsRow_nil _ _ _ _⟩, Below.refl _ _⟩
 ·have h0 := qi2_ W W.heap.size (Nat.le_refl _)
  have hal := (Below.refl W.heap.size W).alloc (Nat.le_refl _) (.cells #[] 3)
  have hp' := (hp.below hal).more (B' := (W.alloc (.cells #[] 3)).heap.size) (by simp)
  obtain ⟨v', w7, r7, g1, g2, g3⟩ := qd2_ (xs := []) c h0 hp' (by simp; omega) (by simp) 56
  have H1 : Hid (w7.ownsRow W.heap.size 3 1 v' n (ints p)) := Lib.hid (by rw [List.length_map] at g1; rw [List.nil_append, hl] at g1; exact g1)
  have H2 : Hid (Below W.heap.size W w7) := Lib.hid (hal.grown g2 (by simp) (fun k hk => by simp [Value.ownBlock] at hk; omega))
  clear hp hp' h0 hal g1 g2 g3 hl
  go_enter Tryz.func41, Tryz.ntmps41
  go_wp2_with (at_builtin; refine Lib.wpList_append_run_sl _ rfl _ _ _ rfl _ _ rfl rfl r7 ?_)
  go_ret
  exact ⟨⟨_, rfl, H1.out⟩, H2.out⟩
section
attribute [local go_sem] Oper.semAt_some
theorem info_ref2 : (Tryz.prog.info? 113).map (fun i => (i.zero, i.size, i.bytes)) = some (some (.agg #[.int .u32 0, .slice none 0 0]), 2, 32) := by kernel_rfl
def RefO (M : Nat -> Prop) (own : Option Nat) (w : World) (lb : Nat) (x : Value × Value) (r : Int × List Nat) : Prop :=
 x.1 = .int .u32 r.1 /\ ∃ A c, x.2 = .slice A r.2.length c /\ r.2.length <= c /\ c <= 9223372036854775807 /\
  (0 < r.2.length -> ∃ b o, A = some ⟨b, o, none⟩ /\ lb ≠ b /\ b < w.heap.size /\ ¬ M b /\ own ≠ some b /\ ∀ i, i < r.2.length -> w.cell? ⟨b, o + i, none⟩ = (ints r.2)[i]?)
theorem RefO.keep {M M' : Nat -> Prop} {own own' : Option Nat} {w w' : World} {lb : Nat} {x : Value × Value} {r : Int × List Nat} (h : RefO M own w lb x r) (hs : w.heap.size <= w'.heap.size)
  (hk : ∀ b, b < w.heap.size -> lb ≠ b -> ¬ M b -> own ≠ some b -> w'.heap[b]? = w.heap[b]? /\ ¬ M' b /\ own' ≠ some b) : RefO M' own' w' lb x r := by
 obtain ⟨h1, A, c, h2, h3, h4, h5⟩ := h
 refine ⟨h1, A, c, h2, h3, h4, fun h0 => ?_⟩
 obtain ⟨b, o, e, k1, k2, k3, k4, k5⟩ := h5 h0
 obtain ⟨g1, g2, g3⟩ := hk b k2 k1 k3 k4
 exact ⟨b, o, e, k1, Nat.lt_of_lt_of_le k2 hs, g2, g3, fun i hi => (World.cell?_of_block g1).trans (k5 i hi)⟩
theorem RefO.refV {M : Nat -> Prop} {own : Option Nat} {w : World} {lb : Nat} {x : Value × Value} {r : Int × List Nat} (h : RefO M own w lb x r) : RefV w w.heap.size x r := by
 obtain ⟨h1, A, c, h2, h3, h4, h5⟩ := h
 refine ⟨h1, A, c, h2, ⟨by simp, fun h0 => ?_⟩, h3, h4⟩
 obtain ⟨b, o, e, _, k2, _, _, k5⟩ := h5 h0
 exact ⟨b, o, e, k2, k5⟩
def IdxV (lb B : Nat) (M : Nat -> Prop) (v : Value) (vs : List (Value × Value)) (pre : List (Int × List Nat)) (W : World) : Prop :=
 W.heap[lb]? = some (.cells #[v] 67 (0, 0)) /\ W.ownsRow B 113 2 v pre.length (flat2 vs) /\ Two (RefO M v.ownBlock W lb) vs pre /\ ∀ k, v.ownBlock = some k -> ¬ M k
theorem IdxV.turn {lb B : Nat} {M M' : Nat -> Prop} {v : Value} {vs : List (Value × Value)} {pre : List (Int × List Nat)} {W W' : World} (h : IdxV lb B M v vs pre W) (hlb : ¬ M lb) (ht : Turn M M' W W') : IdxV lb B M' v vs pre W' := by
 obtain ⟨h1, h2, h3, h4⟩ := h
 have hn : ∀ k, k < W.heap.size -> ¬ M k -> ¬ M' k := fun k hk hnk h => (ht.fresh k h).elim hnk (fun h => by omega)
 refine ⟨(ht.same _ (Array.getElem?_eq_some_iff.1 h1).1 hlb).trans h1, ⟨h2.1, ?_⟩, h3.mono fun x r hx => hx.keep ht.size fun b hb _ hm ho => ⟨ht.same b hb hm, hn b hb hm, ho⟩, fun k hk => hn k (h2.lt k hk).2 (h4 k hk)⟩
 rcases h2.2 with e | ⟨g, cap, cur, rfl, hb, hg, r⟩
 ·exact .inl e
 ·exact .inr ⟨g, cap, cur, rfl, hb, (ht.same _ (Array.getElem?_eq_some_iff.1 hg).1 (h4 g rfl)).trans hg, r⟩
theorem idx_step {lb B n : Nat} {M : Nat -> Prop} {v u : Value} {vs : List (Value × Value)} {pre : List (Int × List Nat)} {W W3 : World} {hv : Int} {p : List Nat} (h : IdxV lb B M v vs pre W) (hu : Ups B M W) (hlb : lb < B) (hB : B <= W.heap.size) (hn : n <= lb)
  (hb : Below W.heap.size W W3) (hrow : W3.ownsRow W.heap.size 3 1 u p.length (ints p)) (hlen : pre.length <= 134217728) :
  ∃ A' c' w5, (Builtin.append_ #[67, 67] 67 #[v, .slice (some ⟨W3.heap.size, 0, none⟩) 1 1]).run Tryz.prog (W3.alloc (.cells #[.int .u32 hv, u] 113)) = .ok (.slice A' (pre.length + 1) c') w5 /\ w5.heap[lb]? = some (.cells #[v] 67 (0, 0)) /\
   IdxV lb B M (.slice A' (pre.length + 1) c') (vs ++ [(.int .u32 hv, u)]) (pre ++ [(hv, p)]) (w5.setCell ⟨lb, 0, none⟩ (.slice A' (pre.length + 1) c')) /\ Kp n M W3 (w5.setCell ⟨lb, 0, none⟩ (.slice A' (pre.length + 1) c')) := by
 obtain ⟨h1, h2, h3, h4⟩ := h
 have hs := hb.size
 have h2' := qez_ h2 hb
 obtain ⟨Au, cu, rfl, hcelu, hcu1, hcu2, hub⟩ := qai_ hrow
 obtain ⟨i0, hi, hz, hs1, hby⟩ := qaw_ info_ref2
 obtain ⟨A', c', w5, r5, o5, b5, g5, e5⟩ := qd6_ Tryz.underlying67 hi hz hs1 hby rfl h2' (.int .u32 hv, .slice Au p.length cu) rfl rfl (by omega) (by omega) (by omega) 67
 have hlt := h2.lt
 have hlb3 : w5.heap[lb]? = some (.cells #[v] 67 (0, 0)) := (b5.block lb hlb).trans ((hb.block lb (by omega)).trans h1)
 have hown : ∀ k, (Value.slice A' (pre.length + 1) c').ownBlock = some k -> (v.ownBlock = some k) \/ W3.heap.size < k := fun k hk => by
  rcases e5 with e | e
  ·rw [e] at hk; exact .inl hk
  ·rw [e] at hk; exact .inr (by have := Option.some.inj hk; omega)
 have hlt5 := o5.lt
 have hnew : ∀ b, b < W3.heap.size -> lb ≠ b -> v.ownBlock ≠ some b -> (w5.setCell ⟨lb, 0, none⟩ (.slice A' (pre.length + 1) c')).heap[b]? = W3.heap[b]? /\ (Value.slice A' (pre.length + 1) c').ownBlock ≠ some b := fun b hb3 hne ho =>
  ⟨(Below.heap_setCell _ _ _ _ (by show b ≠ lb; omega)).trans (g5.block b hb3 (fun e => ho e.symm)), fun e => (hown b e).elim ho (fun h => by omega)⟩
 have hs5 := g5.size
 have hsz : (w5.setCell ⟨lb, 0, none⟩ (.slice A' (pre.length + 1) c')).heap.size = w5.heap.size := by simp [World.setCell]
 refine ⟨A', c', w5, r5, hlb3, ⟨by simp [World.setCell, Array.getElem?_modify, hlb3], ?_, ?_, fun k hk hm => ?_⟩, ?_⟩
 ·rw [List.length_append, List.length_singleton]
  refine o5.kept (row := some lb) ⟨rfl, rfl, rfl, by simp [World.setCell], fun k hk hne => Below.heap_setCell _ _ _ _ (fun e => hne (by rw [show k = lb from e]))⟩ ?_
  rcases h : (Value.slice A' (pre.length + 1) c').ownBlock with _ | k
  ·exact .inl rfl
  ·exact .inr (fun e => by have := (hlt5 k h).1; have := Option.some.inj e; omega)
 ·refine Two.app (h3.mono fun x r hx => hx.keep (by omega) fun b hb3 hne hm ho => ?_) (.cons ⟨rfl, Au, cu, rfl, hcu1, hcu2, fun h0 => ?_⟩ .nil)
  ·obtain ⟨b, o, e, hbl, hc⟩ := hcelu.2 h0
   subst e
   have hbb := hub b rfl
   obtain ⟨q1, q2⟩ := hnew b hbb.2 (by omega) (fun e => by have := (hlt b e).2; omega)
   exact ⟨b, o, rfl, by omega, by omega, fun hm => by have := (hu b hm).2; omega, q2, fun i hi => (World.cell?_of_block q1).trans (hc i hi)⟩
  ·obtain ⟨q1, q2⟩ := hnew b (by omega) hne ho
   exact ⟨q1.trans (hb.block b hb3), hm, q2⟩
 ·rcases hown k hk with h | h
  ·exact h4 k h hm
  ·have := (hu k hm).2; omega
 ·have hm3 : Ups B M W3 := hu.more hs
  exact (Kp.grown g5 hm3 (by omega) (fun k e => ⟨by have := (hlt k e).1; omega, h4 k e⟩)).trans (Kp.setCell w5 hn (fun hm => by have := (hu lb hm).1; omega) 0 _)
theorem wpin_app {F : Fence} {n : Nat} {P : Program} {w w' : World} {o : Oper} {a : Act} {K : Act -> World -> Prop} {Q : Exit -> Act -> World -> Prop} {t u : TypeId} (s x : Operand) (ho : o.op = .call { callee := .builtin .append, args := #[s, x], argTypes := #[t, u] })
  (y z : Value) (hs : a.eval s = y) (hx : a.eval x = z) {v : Value} (hr : (Builtin.append_ #[t, u] o.type #[y, z]).run P w = .ok v w') (hK : K (a.put o.dst v) w') : o.wpIn F n P a w K Q := by
 unfold Oper.wpIn
 refine ⟨?_, ?_⟩
 ·simp [Oper.about, ho, resolve, Target.leads, Sem.run_pure]
 ·rw [Oper.semAt_plain F _ _ (by rw [ho]; intro c hc'; cases hc')]
  simp only [execOp, ho, resolve, invoke, builtin, Sem.run_bind, Sem.run_pure, Result.andThen_ok, List.map_toArray, List.map_cons, List.map_nil, hs, hx, hr]
  exact hK
theorem qiw_ {W : World} {g : Nat} {a b c d e : Value} (h : W.heap[g]? = some (.cells #[a, b, c, d, e] 29 (0, 0))) (o : Obj) : (W.alloc o).cell? ⟨g, 0, none⟩ = some a /\ (W.alloc o).cell? ⟨g, 1, none⟩ = some b /\ (W.alloc o).cell? ⟨g, 2, none⟩ = some c /\ (W.alloc o).cell? ⟨g, 3, none⟩ = some d /\ (W.alloc o).cell? ⟨g, 4, none⟩ = some e :=
 ⟨Lib.cell?_alloc_some o ((Lib.cell_of_heap h 0).trans rfl), Lib.cell?_alloc_some o ((Lib.cell_of_heap h 1).trans rfl), Lib.cell?_alloc_some o ((Lib.cell_of_heap h 2).trans rfl), Lib.cell?_alloc_some o ((Lib.cell_of_heap h 3).trans rfl), Lib.cell?_alloc_some o ((Lib.cell_of_heap h 4).trans rfl)⟩
theorem indexOK : IndexOK := by
 intro t w hin hh
 have hal : ∀ o, Below w.heap.size w (w.alloc o) := fun o => (Below.refl _ w).alloc (Nat.le_refl _) o
 have HC := Lib.hid (fun o => qiy_ t (w.alloc o) (hin.on (hal o)) hh)
 have HNA := Lib.hid (qhc_ t)
 have HNW := Lib.hid (fun (k : Nat) (W : World) (h : Below w.heap.size w W) hk => qfa_ t w.heap.size k W (hin.under h) h.size hk hh)
 have HIN := Lib.hid hin
 have HPN : Hid ((qac_ t.root []).length <= 134217728) := Lib.hid (Nat.le_trans (qbr_ t.root []).1 hh)
 have HERR : Hid ((qan_ t.root).2 ≠ 0 -> (qan_ t.root).1 = []) := Lib.hid qja_
 have HALL : Hid ((qan_ t.root).2 = 0 -> (qan_ t.root).1 = (qac_ t.root []).filterMap (hOf t.root)) := Lib.hid qfy_
 have HPL : Hid (∀ q ∈ qac_ t.root [], q.length <= 134217728) := Lib.hid (fun q hq => by have := (qbr_ t.root []).2 q hq; simp at this; omega)
 obtain ⟨R, hR⟩ : ∃ R, t.root = R := ⟨_, rfl⟩
 rw [hR] at HNW HC HERR HALL HPN HPL ⊢
 obtain ⟨RS, hRS⟩ : ∃ RS, qan_ R = RS := ⟨_, rfl⟩
 rw [hRS] at HC HERR HALL ⊢
 clear hR hRS hin hh
 obtain ⟨rl, er⟩ := RS
 simp only at HC HERR HALL ⊢
 obtain ⟨boot, ra, rc, rs, ⟨nm, pa, pc, ps, ka, kc, ks⟩⟩ := t
 simp only [tbox, Tr.val, Tr.rv, Nd.val, Nd.pv, Nd.kv, Nd.name, Nd.pa, Nd.pc, Nd.props, Nd.ka, Nd.kc, Nd.kids] at HNA HNW HC ⊢
 have HB0 := Lib.hid (hal (.cells #[.int .u32 boot, .slice ra rs.length rc, .string nm, .slice pa ps.length pc, .slice ka ks.length kc] 29))
 have HG0 := Lib.hid (heap_alloc_new w (.cells #[.int .u32 boot, .slice ra rs.length rc, .string nm, .slice pa ps.length pc, .slice ka ks.length kc] 29))
 have HS0 : Hid ((w.alloc (.cells #[.int .u32 boot, .slice ra rs.length rc, .string nm, .slice pa ps.length pc, .slice ka ks.length kc] 29)).heap.size = w.heap.size + 1) := Lib.hid (by simp)
 clear hal
 refine (callsIn_wide (n := 0)).1 ?_
 refine callsIn_of_wp_marks Tryz.func21 rfl trivial ?_ rfl
 simp only [Tryz.ntmps21, List.size_toArray, List.length_cons, List.length_nil, Nat.reduceAdd, Nat.reduceSub, Array.replicate_succ, Array.replicate_zero, List.push_toArray, List.append_toArray, List.nil_append, List.cons_append]
 gi_wp2_with fail
 refine ⟨trivial, rfl, (callsIn_wide.2 (HC.out _)).mono ?_⟩
 rintro e w1 ⟨rfl, hb1⟩
 have HB1 := Lib.hid (HB0.out.trans (hb1.mono (by have := HS0.out; omega)))
 have HG1 := Lib.hid ((hb1.block _ (by have := HS0.out; omega)).trans HG0.out)
 have HS1 : Hid (w.heap.size + 1 <= w1.heap.size) := Lib.hid (by have := HS0.out; have := hb1.size; omega)
 clear hb1
 by_cases her : er = 0
 ·subst her
  have HL := Lib.hid (HALL.out rfl)
  obtain ⟨d0, d1, d2, d3, d4⟩ := qiw_ HG1.out (.cells #[.slice none 0 0] 67)
  gi_wp2_with (refine ⟨trivial, rfl, (callsIn_wide.2 (HNA.out _)).mono ?_⟩; rintro e W4 ⟨rfl, hW4⟩)
  clear hW4 HNA d0 d1 d2 d3 d4
  obtain ⟨lb, hlb⟩ : ∃ lb, w1.heap.size = lb := ⟨_, rfl⟩
  have HLB := Lib.hid hlb
  obtain ⟨W2, hW2⟩ : ∃ W2, (w1.alloc (.cells #[.slice none 0 0] 67)).alloc (.cells #[.int .u32 boot, .slice ra rs.length rc, .string nm, .slice pa ps.length pc, .slice ka ks.length kc] 29) = W2 := ⟨_, rfl⟩
  have z2 : W2.heap.size = lb + 2 := by rw [<- hW2]; simp [hlb]
  have b2 : Below lb w1 W2 := by rw [<- hW2, <- hlb]; exact ((Below.refl _ _).alloc (Nat.le_refl _) _).alloc (by simp) _
  have n1 : W2.heap[lb]? = some (.cells #[.slice none 0 0] 67 (0, 0)) := by rw [<- hW2, Below.heap_alloc _ _ _ (by simp [hlb]), <- hlb]; exact heap_alloc_new _ _
  have n2 : W2.heap[lb + 1]? = some (.cells #[.int .u32 boot, .slice ra rs.length rc, .string nm, .slice pa ps.length pc, .slice ka ks.length kc] 29 (0, 0)) := by
   rw [<- hW2, <- hlb]
   have := heap_alloc_new (w1.alloc (.cells #[.slice none 0 0] 67)) (.cells #[.int .u32 boot, .slice ra rs.length rc, .string nm, .slice pa ps.length pc, .slice ka ks.length kc] 29)
   rwa [World.size_alloc] at this
  rw [hW2]
  clear hW2
  rw [hlb] at HS1 ⊢
  have hbw2 : Below w.heap.size w W2 := HB1.out.trans (b2.mono (by have := HS1.out; omega))
  have HW := Lib.hid (HNW.out (lb + 1) W2 hbw2 n2)
  have HZ2 := Lib.hid z2
  have HI0 : Hid ((∃ v vs, IdxV lb (lb + 2) (fun _ => False) v vs [] W2) /\ Below w.heap.size w W2) := Lib.hid ⟨⟨.slice none 0 0, [], n1, World.ownsRow_nil _ _ _ _, .nil, fun k hk => by simp [Value.ownBlock] at hk⟩, hbw2⟩
  clear z2 b2 n1 n2 hbw2 hlb HNW
  refine qb9_ (gf := 66) (lb := #[.pointer (some ⟨lb + 1, 0, none⟩)]) rfl (enters_of Tryz.func66 (by kernel_rfl) rfl) HW.out (Below.refl _ _) (by have := HZ2.out; have := HS1.out; omega) (fun Wx p args h => by obtain ⟨A, c, rfl, _⟩ := h; rfl) (lb + 2) (by have := HZ2.out; omega) (fun _ => False) (fun k h => h.elim)
   (fun M pre Wx => (∃ v vs, IdxV lb (lb + 2) M v vs pre Wx) /\ Below w.heap.size w Wx) (fun c M pre Wx => False)
   (fun T T' s A C hs hB hT ht hst => by
    obtain ⟨⟨v, vs, h⟩, hb⟩ := hs
    exact ⟨⟨v, vs, h.turn (fun h => by have := (hT lb h).1; omega) ht⟩, hb.trans ((ht.below hT hB).mono (by have := HS1.out; omega))⟩)
   (fun c T T' s A C hs hB hT ht hst => hs) HI0.out ?round ?done ?stop
  case round =>
   rintro l2 M pre ⟨hv, p⟩ args Wr hM hu hsz hbn ⟨⟨v, vs, hix⟩, hbw⟩ ⟨A, c, rfl, hcel, hc1, hc2, hr1, hr2⟩ hpre
   have hmem : (hv, p) ∈ (qac_ R []).filterMap (hOf R) := hpre.subset (by simp)
   have hplen : p.length <= 134217728 := by
    obtain ⟨q, hq, he⟩ := List.mem_filterMap.1 hmem
    have e : q = p := by
     unfold hOf at he
     split at he
     ·split at he
      ·exact (Prod.mk.inj (Option.some.inj he)).2
      ·cases he
     ·cases he
    rw [<- e]; exact HPL.out q hq
   have hprl : pre.length + 1 <= 134217728 := by
    have h1 := hpre.length_le
    have h2 := List.length_filterMap_le (hOf R) (qac_ R [])
    have h3 := HPN.out
    rw [List.length_append, List.length_singleton] at h1
    omega
   have HIX : Hid ((∃ v vs, IdxV lb (lb + 2) M v vs pre Wr) /\ Below w.heap.size w Wr) := Lib.hid ⟨⟨v, vs, hix⟩, hbw⟩
   have HPR : Hid (p.length <= 134217728 /\ pre.length + 1 <= 134217728) := Lib.hid ⟨hplen, hprl⟩
   have HCEL := Lib.hid hcel
   have HC12 := Lib.hid (And.intro hc1 hc2)
   have HU := Lib.hid hu
   have HWS : Hid (lb + 2 <= Wr.heap.size) := Lib.hid (by have := HZ2.out; omega)
   clear hmem hplen hprl hix hbw hcel hc1 hc2 hu hsz hbn hpre hM
   gi_wp2
   refine ⟨HIX.out, Kp.refl _ _ _, ?_⟩
   intro W3 v3 vs3 hix3 hbw3 ht3 hcl3 hfz3
   obtain ⟨i1, i2, i3, i4⟩ := hix3
   obtain ⟨Av, cv, rfl, hcelv, hcv1, hcv2, hob⟩ := qa0_ i2
   have HIX3 : Hid (IdxV lb (lb + 2) M (.slice Av pre.length cv) vs3 pre W3) := Lib.hid ⟨i1, i2, i3, i4⟩
   have HU3 := Lib.hid (ht3.ups HU.out HWS.out)
   have HS3 : Hid (lb + 2 <= W3.heap.size) := Lib.hid (Nat.le_trans HWS.out ht3.size)
   have HB3 := Lib.hid hbw3
   have c0 : W3.cell? ⟨lb, 0, none⟩ = some (.slice Av pre.length cv) := by rw [Lib.cell_of_heap i1]; rfl
   have HC0 := Lib.hid c0
   have CL := Lib.hid (qnh_ A p.length c p W3.drew ((HCEL.out.keep (w' := W3.drew) (fun a _ => hcl3 a)).more ht3.size) HC12.out.1 HC12.out.2 (by have := HPR.out.1; omega))
   clear i1 i2 i3 i4 hcelv hcv1 hcv2 hob ht3 hcl3 hfz3 hbw3
   gi_wp2_with fail
   refine qfl_ [7] (S := fun W => W.cell? ⟨lb, 0, none⟩ = some (.slice Av pre.length cv)) (by kernel_rfl) HC0.out (fun hHeld => ?_)
   refine tkI 0 hHeld fun _ => ?_
   refine tkI 1 hHeld fun _ => ?_
   refine tkI 2 hHeld fun _ => ?_
   refine qb1_ 3 (by kernel_rfl) rfl (by rfl) (fun K hK => ?_)
   refine ⟨fun _ _ => trivial, ?_⟩
   go_simp
   refine ⟨rfl, (CallsIn.inRound l2 (callsIn_wide.2 CL.out)).mono ?_⟩
   rintro e W4 ⟨⟨u, rfl, hown⟩, hb4⟩
   obtain ⟨Au, cu, hue, _⟩ := qai_ hown
   subst hue
   have hb4' : Below W3.heap.size W3 W4 := (Below.refl W3.heap.size W3).drew.trans hb4
   obtain ⟨A', c', w5, r5, hl5, hix5, hk5⟩ := idx_step (n := w.heap.size) (hv := hv) HIX3.out HU3.out (by omega) HS3.out (by have := HS1.out; omega) hb4' hown (by have := HPR.out.2; omega)
   have HIX5 := Lib.hid hix5
   have HK5 := Lib.hid ((Kp.of_below (n := w.heap.size) hb4' (by have := HS3.out; have := HS1.out; omega) HU3.out).trans hk5)
   have HR5 := Lib.hid r5
   have q0 : W4.cell? ⟨lb, 0, none⟩ = some (.slice Av pre.length cv) := (hb4'.cell (p := ⟨lb, 0, none⟩) (by have := HS3.out; show lb < _; omega)).trans HC0.out
   have q1 := Lib.cell?_alloc_some (.cells #[.int .u32 hv, .slice Au p.length cu] 113) q0
   have q2 : w5.cell? ⟨lb, 0, none⟩ = some (.slice Av pre.length cv) := by rw [Lib.cell_of_heap hl5]; rfl
   have q3 := Lib.frozen_of_heap hl5 0
   have Q0 := Lib.hid q0
   have Q1 := Lib.hid q1
   have Q2 := Lib.hid q2
   have Q3 := Lib.hid q3
   clear hown hb4 hb4' hl5 hix5 hk5 r5 q0 q1 q2 q3 CL
   dsimp only
   refine hK.out _ _ Q0.out (fun hHeld => ?_)
   clear hK K
   refine tkI 4 hHeld fun _ => ?_
   refine qb1_ 5 (by kernel_rfl) rfl (by rfl) (fun K hK => ?_)
   refine ⟨fun _ _ => trivial, ?_⟩
   go_simp
   refine hK.out _ _ Q1.out (fun hHeld => ?_)
   clear hK K
   refine qb1_ 6 (by kernel_rfl) rfl (by rfl) (fun K hK => ?_)
   refine wpin_app _ _ rfl _ _ rfl rfl HR5.out ?_
   simp only [Act.put, List.setIfInBounds_toArray, List.set_cons_zero, List.set_cons_succ]
   refine hK.out _ _ Q2.out (fun hHeld => ?_)
   clear hK K
   have q2 := Q2.out
   have q3 := Q3.out
   refine qk9_ 7 (by kernel_rfl) rfl (by rfl) (by kernel_rfl) (fun K hK => ?_)
   refine ⟨fun _ _ => trivial, ?_⟩
   go_simp
   refine hK.out _ _ ?_
   clear hK K
   refine qcg_ (by kernel_rfl) ?_ _
   clear hHeld
   gi_wp2
   exact ⟨HK5.out, ⟨_, _, HIX5.out⟩, HB3.out.trans HK5.out.below⟩
  case done =>
   rintro D M Wd hM hu hsz hD ⟨⟨v, vs, hix⟩, hbw⟩ hd
   obtain ⟨h1, h2, h3, h4⟩ := hix
   obtain ⟨Av, cv, rfl, hcel, hc1, hc2, hob⟩ := qa0_ h2
   have c0 : Wd.cell? ⟨lb, 0, none⟩ = some (.slice Av ((qac_ R []).filterMap (hOf R)).length cv) := by rw [Lib.cell_of_heap h1]; rfl
   have hDb := (hu D hD).1
   have hbd : ∀ k, k ≠ D -> (Wd.putObj D (.deferred none)).heap[k]? = Wd.heap[k]? := fun k hk => World.putObj_heap_other hk
   have HBF : Hid (Below w.heap.size w (Wd.putObj D (.deferred none))) := Lib.hid (hbw.trans ⟨rfl, rfl, rfl, by simp, fun k hk => hbd k (by have := HS1.out; omega)⟩)
   have hturn : Turn M M Wd (Wd.putObj D (.deferred none)) := Turn.putObj Wd hD _
   have h3' := h3.mono fun x r hx => (hx.keep hturn.size fun b hb _ hm ho => ⟨hturn.same b hb hm, hm, ho⟩).refV
   have h2' := (IdxV.turn ⟨h1, h2, h3, h4⟩ (fun h => by have := (hu lb h).1; omega) hturn).2.1
   obtain ⟨Av', cv', e', hcel', _, _, _⟩ := qa0_ h2'
   simp only [Value.slice.injEq, true_and] at e'
   obtain ⟨rfl, rfl⟩ := e'
   have HSH : Hid (RefShow (Wd.putObj D (.deferred none)) (Wd.putObj D (.deferred none)).heap.size Av rl.length rl) := Lib.hid (by rw [HL.out]; exact ⟨vs, hcel', h3'⟩)
   rw [<- HL.out] at c0 hc1
   clear h1 h2 h3 h4 hcel hob hturn h3' h2' hcel' hbd hDb hu hsz hM hbw
   generalize rl.length = n at *
   gi_wp2
   refine ⟨by simp, .inl ⟨_, _, rfl, run_takeDeferred hd, ?_⟩⟩
   exact ⟨.tuple #[.slice Av n cv, .int .i64 0], by simp [results, Tryz.results21, go_sem], ⟨Av, n, cv, rfl, HSH.out, hc1, hc2⟩, HBF.out⟩
  case stop =>
   rintro D c M pre Wd hM hu hsz hD hpre h hd
   exact h.elim
 ·have k1 : (er != 0) = true := by rw [bne_iff_ne]; exact her
  have hrl := HERR.out her
  subst hrl
  clear her
  gi_wp2
  exact ⟨.tuple #[.slice none 0 0, .int .i64 er], by simp [results, Tryz.results21, go_sem], ⟨none, 0, 0, rfl, RefShow.nil _ _ _, Nat.le_refl _, by omega⟩, HB1.out⟩
end
section
attribute [local go_sem] Oper.semAt_some
theorem mostOK : MostOK := by
 intro t w hin hh
 have hal : ∀ o, Below w.heap.size w (w.alloc o) := fun o => (Below.refl _ w).alloc (Nat.le_refl _) o
 have HC := Lib.hid (fun o => qiy_ t (w.alloc o) (hin.on (hal o)) hh)
 have HNA := Lib.hid (qhc_ t)
 have HNW := Lib.hid (fun (k : Nat) (W : World) (h : Below w.heap.size w W) hk => qfa_ t w.heap.size k W (hin.under h) h.size hk hh)
 have HIN := Lib.hid hin
 have HPN : Hid ((qac_ t.root []).length <= 134217728) := Lib.hid (Nat.le_trans (qbr_ t.root []).1 hh)
 have HRN : Hid (∀ x ∈ (qan_ t.root).1, 0 <= x.1 /\ x.1 <= 4294967295) := Lib.hid (qjy_ hin.root)
 have HMO : Hid (mostOf t.root = (qan_ t.root).1.foldl (fun m x => max m x.1) 0) := Lib.hid rfl
 have HERR : Hid ((qan_ t.root).2 ≠ 0 -> (qan_ t.root).1 = []) := Lib.hid qja_
 have HALL : Hid ((qan_ t.root).2 = 0 -> (qan_ t.root).1 = (qac_ t.root []).filterMap (hOf t.root)) := Lib.hid qfy_
 have HPL : Hid (∀ q ∈ qac_ t.root [], q.length <= 134217728) := Lib.hid (fun q hq => by have := (qbr_ t.root []).2 q hq; simp at this; omega)
 obtain ⟨R, hR⟩ : ∃ R, t.root = R := ⟨_, rfl⟩
 rw [hR] at HNW HC HERR HALL HPN HPL HRN HMO ⊢
 obtain ⟨MO, hMO⟩ : ∃ MO, mostOf R = MO := ⟨_, rfl⟩
 rw [hMO] at HMO ⊢
 clear hMO
 obtain ⟨RS, hRS⟩ : ∃ RS, qan_ R = RS := ⟨_, rfl⟩
 rw [hRS] at HC HERR HALL HRN HMO ⊢
 clear hR hRS hin hh
 obtain ⟨rl, er⟩ := RS
 simp only at HC HERR HALL HRN HMO ⊢
 obtain ⟨boot, ra, rc, rs, ⟨nm, pa, pc, ps, ka, kc, ks⟩⟩ := t
 simp only [tbox, Tr.val, Tr.rv, Nd.val, Nd.pv, Nd.kv, Nd.name, Nd.pa, Nd.pc, Nd.props, Nd.ka, Nd.kc, Nd.kids] at HNA HNW HC ⊢
 have HB0 := Lib.hid (hal (.cells #[.int .u32 boot, .slice ra rs.length rc, .string nm, .slice pa ps.length pc, .slice ka ks.length kc] 29))
 have HG0 := Lib.hid (heap_alloc_new w (.cells #[.int .u32 boot, .slice ra rs.length rc, .string nm, .slice pa ps.length pc, .slice ka ks.length kc] 29))
 have HS0 : Hid ((w.alloc (.cells #[.int .u32 boot, .slice ra rs.length rc, .string nm, .slice pa ps.length pc, .slice ka ks.length kc] 29)).heap.size = w.heap.size + 1) := Lib.hid (by simp)
 clear hal
 refine (callsIn_wide (n := 0)).1 ?_
 refine callsIn_of_wp_marks Tryz.func176 rfl trivial ?_ rfl
 simp only [Tryz.ntmps176, List.size_toArray, List.length_cons, List.length_nil, Nat.reduceAdd, Nat.reduceSub, Array.replicate_succ, Array.replicate_zero, List.push_toArray, List.append_toArray, List.nil_append, List.cons_append]
 gi_wp2_with fail
 refine ⟨trivial, rfl, (callsIn_wide.2 (HC.out _)).mono ?_⟩
 rintro e w1 ⟨rfl, hb1⟩
 have HB1 := Lib.hid (HB0.out.trans (hb1.mono (by have := HS0.out; omega)))
 have HG1 := Lib.hid ((hb1.block _ (by have := HS0.out; omega)).trans HG0.out)
 have HS1 : Hid (w.heap.size + 1 <= w1.heap.size) := Lib.hid (by have := HS0.out; have := hb1.size; omega)
 clear hb1
 by_cases her : er = 0
 ·subst her
  have HL := Lib.hid (HALL.out rfl)
  obtain ⟨d0, d1, d2, d3, d4⟩ := qiw_ HG1.out (.cells #[.int .u32 0] 22)
  gi_wp2_with (refine ⟨trivial, rfl, (callsIn_wide.2 (HNA.out _)).mono ?_⟩; rintro e W4 ⟨rfl, hW4⟩)
  clear hW4 HNA d0 d1 d2 d3 d4
  obtain ⟨lb, hlb⟩ : ∃ lb, w1.heap.size = lb := ⟨_, rfl⟩
  have HLB := Lib.hid hlb
  obtain ⟨W2, hW2⟩ : ∃ W2, (w1.alloc (.cells #[.int .u32 0] 22)).alloc (.cells #[.int .u32 boot, .slice ra rs.length rc, .string nm, .slice pa ps.length pc, .slice ka ks.length kc] 29) = W2 := ⟨_, rfl⟩
  have z2 : W2.heap.size = lb + 2 := by rw [<- hW2]; simp [hlb]
  have b2 : Below lb w1 W2 := by rw [<- hW2, <- hlb]; exact ((Below.refl _ _).alloc (Nat.le_refl _) _).alloc (by simp) _
  have n1 : W2.heap[lb]? = some (.cells #[.int .u32 0] 22 (0, 0)) := by rw [<- hW2, Below.heap_alloc _ _ _ (by simp [hlb]), <- hlb]; exact heap_alloc_new _ _
  have n2 : W2.heap[lb + 1]? = some (.cells #[.int .u32 boot, .slice ra rs.length rc, .string nm, .slice pa ps.length pc, .slice ka ks.length kc] 29 (0, 0)) := by
   rw [<- hW2, <- hlb]
   have := heap_alloc_new (w1.alloc (.cells #[.int .u32 0] 22)) (.cells #[.int .u32 boot, .slice ra rs.length rc, .string nm, .slice pa ps.length pc, .slice ka ks.length kc] 29)
   rwa [World.size_alloc] at this
  rw [hW2]
  clear hW2
  rw [hlb] at HS1 ⊢
  have hbw2 : Below w.heap.size w W2 := HB1.out.trans (b2.mono (by have := HS1.out; omega))
  have HW := Lib.hid (HNW.out (lb + 1) W2 hbw2 n2)
  have HZ2 := Lib.hid z2
  have HI0 : Hid (W2.heap[lb]? = some (.cells #[.int .u32 (([] : List (Int × List Nat)).foldl (fun m x => max m x.1) 0)] 22 (0, 0)) /\ Below w.heap.size w W2) := Lib.hid ⟨n1, hbw2⟩
  clear z2 b2 n1 n2 hbw2 hlb HNW
  refine qb9_ (gf := 66) (lb := #[.pointer (some ⟨lb + 1, 0, none⟩)]) rfl (enters_of Tryz.func66 (by kernel_rfl) rfl) HW.out (Below.refl _ _) (by have := HZ2.out; have := HS1.out; omega) (fun Wx p args h => by obtain ⟨A, c, rfl, _⟩ := h; rfl) (lb + 2) (by have := HZ2.out; omega) (fun _ => False) (fun k h => h.elim)
   (fun M pre Wx => Wx.heap[lb]? = some (.cells #[.int .u32 (pre.foldl (fun m x => max m x.1) 0)] 22 (0, 0)) /\ Below w.heap.size w Wx) (fun c M pre Wx => False)
   (fun T T' s A C hs hB hT ht hst => ⟨(ht.same _ (by omega) (fun h => by have := (hT lb h).1; omega)).trans hs.1, hs.2.trans ((ht.below hT hB).mono (by have := HS1.out; omega))⟩)
   (fun c T T' s A C hs hB hT ht hst => hs) HI0.out ?round ?done ?stop
  case round =>
   rintro l2 M pre ⟨hv, p⟩ args Wr hM hu hsz hbn ⟨hmb, hbw⟩ ⟨A, c, rfl, hcel, hc1, hc2, hr1, hr2⟩ hpre
   have HIX : Hid (Wr.heap[lb]? = some (.cells #[.int .u32 (pre.foldl (fun m x => max m x.1) 0)] 22 (0, 0)) /\ Below w.heap.size w Wr) := Lib.hid ⟨hmb, hbw⟩
   have HNL : Hid (¬ M lb) := Lib.hid (fun h => by have := (hu lb h).1; omega)
   have HFL : Hid ((pre ++ [(hv, p)]).foldl (fun m x => max m x.1) 0 = max (pre.foldl (fun m x => max m x.1) 0) hv) := Lib.hid (by rw [List.foldl_append]; rfl)
   clear hmb hbw hcel hc1 hc2 hu hsz hbn hpre hM hr1 hr2
   gi_wp2
   refine ⟨HIX.out, Kp.refl _ _ _, ?_⟩
   rintro W3 ⟨hm3, hbw3⟩ ht3 hcl3 hfz3
   obtain ⟨m, hm⟩ : ∃ m, pre.foldl (fun m x => max m x.1) 0 = m := ⟨_, rfl⟩
   rw [hm] at hm3 HFL
   have c0 : W3.cell? ⟨lb, 0, none⟩ = some (.int .u32 m) := by rw [Lib.cell_of_heap hm3]; rfl
   have f0 := Lib.frozen_of_heap hm3 0
   have HM3 := Lib.hid hm3
   have HB3 := Lib.hid hbw3
   clear hm3 hbw3 ht3 hcl3 hfz3 hm
   gi_wp2
   exact ⟨Kp.setCell W3 (by have := HS1.out; omega) HNL.out 0 _, by rw [HFL.out]; simp [World.setCell, Array.getElem?_modify, HM3.out], HB3.out.setCell (p := ⟨lb, 0, none⟩) (by have := HS1.out; show w.heap.size <= lb; omega) _⟩
  case done =>
   rintro D M Wd hM hu hsz hD ⟨hmb, hbw⟩ hd
   have hDb := (hu D hD).1
   have c0 : Wd.cell? ⟨lb, 0, none⟩ = some (.int .u32 MO) := by rw [Lib.cell_of_heap hmb, HMO.out, HL.out]; rfl
   have HBF : Hid (Below w.heap.size w (Wd.putObj D (.deferred none))) := Lib.hid (hbw.trans ⟨rfl, rfl, rfl, by simp, fun k hk => World.putObj_heap_other (by have := HS1.out; omega)⟩)
   clear hmb hbw hu hsz hM
   gi_wp2
   refine ⟨by simp, .inl ⟨_, _, rfl, run_takeDeferred hd, ?_⟩⟩
   exact ⟨.tuple #[.int .u32 MO, .int .i64 0], by simp [results, Tryz.results176, go_sem], rfl, HBF.out⟩
  case stop =>
   rintro D c M pre Wd hM hu hsz hD hpre h hd
   exact h.elim
 ·have k1 : (er != 0) = true := by rw [bne_iff_ne]; exact her
  have hrl := HERR.out her
  subst hrl
  have HM0 : Hid (MO = 0) := Lib.hid HMO.out
  clear her
  gi_wp2
  exact ⟨.tuple #[.int .u32 0, .int .i64 er], by simp [results, Tryz.results176, go_sem], by rw [HM0.out], HB1.out⟩
end
theorem qo5_ {w : World} {r : Nat} {t : Tr} {own : Option Nat} {er : Int} (h : w.heap[r]? = some (rbox t own er)) (e : Int) : (w.setCell ⟨r, 6, none⟩ (.int .i64 e)).heap[r]? = some (rbox t own e) := by
 simp [World.setCell, Array.getElem?_modify, h, rbox]
theorem rbox_own {w : World} {r : Nat} {t : Tr} {own : Option Nat} {er : Int} (h : w.heap[r]? = some (rbox t own er)) (o : Option Nat) : (w.setCell ⟨r, 5, none⟩ (.map o)).heap[r]? = some (rbox t o er) := by
 simp [World.setCell, Array.getElem?_modify, h, rbox]
theorem qgt_ {w : World} {r : Nat} {t : Tr} {own : Option Nat} {er : Int} (h : w.heap[r]? = some (rbox t own er)) (j : Nat) : w.frozen? ⟨r, j, none⟩ = false := by
 unfold rbox at h
 exact Lib.frozen_of_heap h j
section
attribute [local go_sem] Oper.semAt_some
theorem qod_ {P : Program} {t e : TypeId} (ht : P.underlying t = some (.slice e)) (he : ∀ w, (Go.sizeOf e).run P w = .ok 1 w) (A : Option Addr) (n c : Nat) (L H M : Int) (l h : Nat) (hL : L = l) (hH : H = h) (hM : M = h) (hl : l <= h) (hh : h <= c) (W : World) :
  (Instr.slice t (.slice A n c) (some (.int .i64 L)) (some (.int .i64 H)) (some (.int .i64 M))).run P W = .ok (.slice (cutAt A h l) (h - l) (h - l)) W := by
 subst hL hH hM
 have ht' : P.underlying t = some (.slice (P.elem t)) := by simp [Program.elem, ht]
 have he' : P.elem t = e := by simp [Program.elem, ht]
 rw [run_slice_lhm W t _ _ _ ht' .i64 .i64 .i64 _ _ _ (by omega) (by omega) (by omega) (by omega), he', he]
 simp [Result.andThen, sliced, cutAt]
theorem qfi_ (w : World) : (Go.sizeOf 22).run Tryz.prog w = .ok 1 w := by kernel_rfl
def EncC (n k : Nat) (vs : List Value) (W : World) (j : Nat) (args : Array Value) : Prop := ∃ A, args = #[.slice A k k] /\ Cel W n A k ((vs.drop (j * k)).take k)
theorem Cel.chunk {w : World} {B n l k : Nat} {A : Option Addr} {xs : List Value} (h : Cel w B A n xs) (hk : l + k <= n) : Cel w B (cutAt A (l + k) l) k ((xs.drop l).take k) :=
 ⟨by rw [List.length_take, List.length_drop, h.1]; omega, fun h0 => by
  obtain ⟨b, o, e, hb, hcc⟩ := h.2 (by omega)
  subst e
  have e : cutAt (some ⟨b, o, none⟩) (l + k) l = some ⟨b, o + l, none⟩ := by
   unfold cutAt
   rw [if_neg (by omega)]
   simp [qbc_]
  exact ⟨b, o + l, e, hb, fun i hi => by rw [List.getElem?_take_of_lt hi, List.getElem?_drop, Nat.add_assoc]; exact hcc (l + i) (by omega)⟩⟩
theorem qeq_ (A : Option Addr) (n c k : Nat) (hk : 1 <= k) (w : World) : Calls Tryz.prog 114 #[.slice A n c, .int .i64 k] w fun e w' => e = .returned (.func (.func 145) #[] #[.pointer (some ⟨w.heap.size, 0, none⟩), .pointer (some ⟨w.heap.size + 1, 0, none⟩)]) /\ w' = (w.alloc (.cells #[.slice A n c] 87)).alloc (.cells #[.int .i64 k] 3) := by
 have q1 : decide ((k : Int) < 1) = false := decide_eq_false (by omega)
 refine (callsIn_wide (n := 0)).1 ?_
 refine callsIn_of_wp Tryz.func114 rfl trivial ?_ rfl
 simp only [Tryz.ntmps114, List.size_toArray, List.length_cons, List.length_nil, Nat.reduceAdd, Nat.reduceSub, Array.replicate_succ, Array.replicate_zero, List.push_toArray, List.append_toArray, List.nil_append, List.cons_append]
 gi_wp2
 go_ret
 exact ⟨rfl, rfl⟩
theorem qhb_ (A : Option Addr) (c L k m n kb : Nat) (vs : List Value) (w : World) (hcel : Cel w n A L vs) (hn : n <= w.heap.size) (hk : 1 <= k) (hL : L = m * k) (hc : L <= c /\ c <= 9223372036854775807 /\ L <= 140737488351232) :
  WalksX (fun W => W.heap[kb]? = some (.cells #[.slice A L c] 87 (0, 0)) /\ W.heap[kb + 1]? = some (.cells #[.int .i64 k] 3 (0, 0))) Tryz.prog 145 #[.pointer (some ⟨kb, 0, none⟩), .pointer (some ⟨kb + 1, 0, none⟩)] n (EncC n k vs) (List.range m) w := by
 intro ld J Jx W hW hJ hJx hJX hY h0
 have HCEL := Lib.hid (fun (wr : World) (hb : Below n W wr) => (hcel.below (hW.mono hn)).below hb)
 have HKW : Hid (∀ (T : Nat -> Prop) (s : List Nat) (wr : World), J T s wr -> wr.cell? ⟨kb, 0, none⟩ = some (.slice A L c) /\ wr.cell? ⟨kb + 1, 0, none⟩ = some (.int .i64 k)) := Lib.hid (fun T s wr h => ⟨by rw [Lib.cell_of_heap (hJX T s wr h).1]; rfl, by rw [Lib.cell_of_heap (hJX T s wr h).2]; rfl⟩)
 have HY := Lib.hid hY
 have HJ := Lib.hid hJ
 have HNW : Hid (n <= W.heap.size) := Lib.hid (Nat.le_trans hn hW.size)
 have HJ0 := Lib.hid h0
 have HL := Lib.hid hL
 have HST : Hid (∀ j, j < m -> List.range j ++ [j] = List.range (j + 1) /\ List.range (j + 1) <+: List.range m) := Lib.hid (fun j hj => ⟨List.range_succ.symm, by
  obtain ⟨d, rfl⟩ := Nat.exists_eq_add_of_le hj
  exact ⟨(List.range d).map (j + 1 + ·), (List.range_add ..).symm⟩⟩)
 obtain ⟨hl1, hl2, hl3⟩ := hc
 have hkL : m = 0 \/ k <= L := by
  rcases Nat.eq_zero_or_pos m with h | h
  ·exact .inl h
  ·exact .inr (by rw [hL]; exact Nat.le_mul_of_pos_left k h)
 clear hcel hn hW hY hJ hJx h0 hL hJX
 refine (callsIn_wide (n := 0)).1 ?_
 refine callsIn_of_wp Tryz.func145 rfl trivial ?_ rfl
 simp only [Tryz.ntmps145, List.size_toArray, List.length_cons, List.length_nil, Nat.reduceAdd, Nat.reduceSub, Array.replicate_succ, Array.replicate_zero, List.push_toArray, List.append_toArray, List.nil_append, List.cons_append]
 gi_wp2_with fail
 gi_loopw [4, 5] (fun i _ wr => ∃ j p : Nat, j <= m /\ p = j * k /\ i = .int .i64 (p : Int) /\ J (fun _ => False) (List.range j) wr /\ W.heap.size <= wr.heap.size /\ Below n W wr) (fun i _ _ => L - (intOf i).toNat)
 case atStart => exact ⟨0, 0, Nat.zero_le _, by omega, rfl, HJ0.out, Nat.le_refl _, Below.refl _ _⟩
 case round =>
  obtain ⟨j, p, hj, hp, rfl, hjj, hsz, hbw⟩ := hrel
  obtain ⟨d0, d1⟩ := HKW.out _ _ _ hjj
  by_cases hjm : j < m
  ·have hpk : p + k <= L := by
    rw [hp, HL.out, <- Nat.succ_mul]
    exact Nat.mul_le_mul_right k hjm
   have hpl : p < L := by omega
   obtain ⟨q1, q2⟩ := HST.out j hjm
   have hj2 : J (fun _ => False) (List.range j) wr.drew := HJ.out _ _ _ _ _ hjj hsz (fun _ h => h.elim) (Turn.of_below (Below.refl _ _).drew)
   have hbw2 : Below n W wr.drew := hbw.drew
   obtain ⟨fn, tmps, asg, bd, hyr, hR⟩ := HY.out (fun _ => False) (List.range j) j #[.slice (cutAt A (p + k) p) k k] wr.drew hj2 (fun _ h => h.elim) hsz hbw2 ⟨_, rfl, by rw [<- hp]; exact (HCEL.out _ hbw2).chunk hpk⟩ (by rw [q1]; exact q2)
   rw [q1] at hR
   have HR : Hid (RoundIn Fence.wide 0 Tryz.prog ld fn tmps asg bd wr.drew fun e W' => Kp n (fun _ => False) wr.drew W' /\ ((e = .returned (.bool true) /\ J (fun _ => False) (List.range (j + 1)) W' /\ W'.cell? ⟨kb, 0, none⟩ = some (.slice A L c) /\ W'.cell? ⟨kb + 1, 0, none⟩ = some (.int .i64 k)) \/ (e = .returned (.bool false) /\ Jx (fun _ => False) (List.range (j + 1)) W'))) := Lib.hid (RoundIn.mono hR (fun e W' ⟨h1, h2⟩ => ⟨h1, h2.imp (fun ⟨h3, h4⟩ => ⟨h3, h4, HKW.out _ _ _ h4⟩) id⟩))
   have HSZ := Lib.hid hsz
   have HBW := Lib.hid hbw2
   have HP : Hid (p + k = (j + 1) * k) := Lib.hid (by rw [Nat.succ_mul, hp])
   have HQ2 := Lib.hid q2
   obtain ⟨d2, d3⟩ := HKW.out _ _ _ hj2
   obtain ⟨q, hq⟩ : ∃ q, p + k = q := ⟨_, rfl⟩
   have hqk : q - p = k := by omega
   obtain ⟨r, hr⟩ : ∃ r, L - p = r := ⟨_, rfl⟩
   have R1 : ∀ W : World, (Instr.slice 87 (.slice A L c) (some (.int .i64 (p : Int))) none none).run Tryz.prog W = .ok (.slice (cutAt A c p) r (c - p)) W := fun W => by
    have h := qe9_ Tryz.underlying87 qfi_ A L c (p : Int) p rfl (by omega) W
    rwa [hr] at h
   have R2 : ∀ W : World, (Instr.slice 87 (.slice A L c) (some (.int .i64 (p : Int))) (some (.int .i64 (q : Int))) (some (.int .i64 (q : Int)))).run Tryz.prog W = .ok (.slice (cutAt A q p) k k) W := fun W => by
    have h := qod_ Tryz.underlying87 qfi_ A L c (p : Int) (q : Int) (q : Int) p q rfl rfl rfl (by omega) (by omega) W
    rwa [hqk] at h
   have e1 : IntKind.i64.wrap ((p : Int) + (k : Int)) = (q : Int) := by rw [IntWalk.i64_in _ (by omega)]; omega
   have e2 : min (k : Int) (r : Int) = (k : Int) := Int.min_eq_left (by omega)
   rw [hq] at hyr HP hpk
   have HJ2 := Lib.hid hj2
   clear hjj hbw hsz q1 q2 hR hbw2 hj2 hp
   gi_wp2_with fail
   refine qc2_ (S := fun W => W.cell? ⟨kb, 0, none⟩ = some (.slice A L c) /\ W.cell? ⟨kb + 1, 0, none⟩ = some (.int .i64 k)) (by kernel_rfl) ⟨d2, d3⟩ (fun hHeld => ?_)
   refine tkI 0 hHeld fun _ => ?_
   refine tkI 1 hHeld fun _ => ?_
   refine tkI 2 hHeld fun _ => ?_
   refine tkI 3 hHeld fun _ => ?_
   refine tkI 4 hHeld fun _ => ?_
   refine tkI 5 hHeld fun _ => ?_
   refine tkI 6 hHeld fun _ => ?_
   refine qcg_ (by kernel_rfl) ?_ _
   clear hHeld
   gi_wp2_with (refine ⟨rfl, RoundIn.mono HR.out ?_⟩; clear HR hyr; rintro e W4 ⟨hk4, (⟨rfl, hj4, d4, d5⟩ | ⟨rfl, hx4⟩)⟩)
   ·go_roundw
    case rel => exact ⟨j + 1, q, by omega, HP.out, by first | rfl | go_num, hj4, Nat.le_trans HSZ.out hk4.below.size, HBW.out.trans hk4.below⟩
    case measure => simp [intOf]; omega
   ·gi_wp2
    refine bodyPost_ret (v := .tuple #[]) (by simp [results, Tryz.results145, go_sem]) rfl ?_
    exact ⟨⟨_, rfl⟩, fun _ => False, fun _ h => h.elim, Nat.le_trans HSZ.out hk4.below.size, .inr ⟨_, HQ2.out, hx4⟩⟩
  ·obtain rfl : j = m := by omega
   obtain rfl : p = L := by rw [hp, HL.out]
   have HJE := Lib.hid hjj
   have HSZ := Lib.hid hsz
   clear hjj hbw hsz hp hjm
   gi_wp2
   go_end0
   exact ⟨⟨_, rfl⟩, fun _ => False, fun _ h => h.elim, HSZ.out, .inl HJE.out⟩
end
end Go.Proofs.YtcfinbapfhhpgaaGreatDoor
