/-
  Base, part 2: what the proofs of this claim lean on.
-/
import Derived.Test.YtijhjlpkbnajpaaBase1
import Derived.Lib.ConvBytes
import Derived.Deep.RegionHeld3
import Derived.Deep.Strs
import Derived.Lib.SmallJoins
import Derived.Below
import Derived.BigQuiet
import Derived.Deep.QuietTactic

/-! The document's blob, a node's first statement, whose operations come in several orders: what is known while some of them have come. -/
namespace Go.Proofs.Ytijhjlpkbnajpaa
open Go.RowKit
set_option linter.unusedVariables false
set_option linter.unusedSimpArgs false

/-- A text's bytes. -/
def strB (s : ByteArray) : List Int := s.data.toList.map fun b => (b.toNat : Int)
theorem strB_length (s : ByteArray) : (strB s).length = s.size := by simp [strB]
theorem strB_byte (s : ByteArray) : ∀ z ∈ strB s, 0 ≤ z ∧ z < 256 := by
  intro z hz
  obtain ⟨b, _, rfl⟩ := List.mem_map.1 hz
  have := b.toNat_lt
  omega

/-- An empty row that the call has made. -/
def EmptyRow (W : World) (B : Nat) (u : Value) : Prop := ∃ g, u = .slice (some ⟨g, 0, none⟩) 0 0 ∧ W.ownsRow B 5 1 u 0 []
/-- The row that []byte(s) has made: it bears a mark. -/
def MarkRow (W : World) (B : Nat) (s : ByteArray) (u : Value) : Prop :=
  ∃ g cap cs, u = .slice (some ⟨g, 0, none⟩) s.size cap ∧ B ≤ g ∧ W.heap[g]? = some (.cells cs 5 (cs.size, cs.size + 1)) ∧ cs.size = cap ∧ s.size ≤ cap ∧ cap ≤ 9223372036854775807 ∧ cs.toList.take s.size = u8s (strB s)
/-- A small row, by its bytes. -/
def SmallRow (W : World) (n : Nat) (zs : List Int) (u : Value) : Prop := ∃ g, u = .slice (some ⟨g, 0, none⟩) n n ∧ Shows W W.heap.size (some ⟨g, 0, none⟩) n zs

section
variable {W W' : World} {B : Nat} {u : Value} {s : ByteArray} {n : Nat} {zs : List Int}
theorem EmptyRow.on (h : EmptyRow W B u) (hb : Below W.heap.size W W') : EmptyRow W' B u := by
  obtain ⟨g, rfl, h⟩ := h
  exact ⟨g, rfl, own_on h hb⟩
theorem MarkRow.on (h : MarkRow W B s u) (hb : Below W.heap.size W W') : MarkRow W' B s u := by
  obtain ⟨g, cap, cs, h1, h2, h3, h4⟩ := h
  exact ⟨g, cap, cs, h1, h2, (hb.block g (Array.getElem?_eq_some_iff.1 h3).1).trans h3, h4⟩
theorem SmallRow.on (h : SmallRow W n zs u) (hb : Below W.heap.size W W') : SmallRow W' n zs u := by
  obtain ⟨g, h1, h2⟩ := h
  exact ⟨g, h1, (h2.below hb).more hb.size⟩
theorem SmallRow.new (W : World) (zs : List Int) (n : Nat) (cs : Array Value) (hn : zs.length = n) (hz : ∀ z ∈ zs, 0 ≤ z ∧ z < 256) (hcs : cs = (u8s zs).toArray) (t : TypeId) : SmallRow (W.alloc (.cells cs t)) n zs (.slice (some ⟨W.heap.size, 0, none⟩) n n) :=
  ⟨_, rfl, (shows_lit W zs n cs hn hz hcs t).more (by simp)⟩
theorem EmptyRow.new (W : World) (hB : B ≤ W.heap.size) : EmptyRow (W.alloc (.cells #[] 5)) B (.slice (some ⟨W.heap.size, 0, none⟩) 0 0) :=
  ⟨_, rfl, World.ownsRow_made W #[] 0 hB (Nat.zero_le _) rfl⟩
end

/-- append onto an empty row: a new one. -/
theorem run_append_empty (W : World) (B : Nat) (u : Value) (h : EmptyRow W B u) (hB : B ≤ W.heap.size) (n : Nat) (zs : List Int) (x : Value) (hx : SmallRow W n zs x) (h0 : 0 < n) (hn : n ≤ 100) (ty : TypeId) :
    ∃ v' W', (Builtin.append_ #[64, 64] ty #[u, x]).run Try.prog W = .ok v' W' ∧ W'.ownsRow B 5 1 v' n (u8s zs) ∧ Below W.heap.size W W' := by
  obtain ⟨i0, hi0, hz0, hz1, hz2⟩ := info_parts info_u8
  obtain ⟨g, rfl, hown⟩ := h
  obtain ⟨g2, rfl, hsh⟩ := hx
  obtain ⟨b, o, e, _, hc⟩ := hsh.at_ h0
  obtain ⟨rfl, rfl⟩ : b = g2 ∧ o = 0 := by injection e with e; injection e with e1 e2; exact ⟨e1.symm, e2.symm⟩
  have hl := hsh.1
  have hr := run_append_grow (P := Try.prog) W 64 ty 5 i0 (.int .u8 0) Try.underlying64 hi0 hz0 ⟨g, 0, none⟩ 0 0 [] (by simp) (by simp) ⟨b, 0, none⟩ n n (u8s zs) (by simp [hz1, hl])
    (fun j u hu => by
      rw [List.getElem?_map] at hu
      have hj : j < zs.length := by
        rcases Nat.lt_or_ge j zs.length with h | h
        · exact h
        · rw [List.getElem?_eq_none h] at hu; cases hu
      rw [List.getElem?_eq_getElem hj] at hu
      have := hc j (by omega)
      rw [Nat.zero_add] at this
      rw [addr_add, Nat.zero_add, this, ← Option.some.inj hu]
      simp [List.getD, List.getElem?_eq_getElem hj]) (by omega) (by omega) (by rw [hz2]; exact growslice_fits (by omega) (by omega))
  have hge := grownCap_ge W (0 + n) 0 5
  have hcm : grownCap W (0 + n) 0 5 ≤ maxLen := grownCap_le_maxLen W (0 + n) 0 5 (by unfold maxLen; omega)
  refine ⟨_, _, hr, ?_, (Below.refl _ W).drew.alloc (by simp) _⟩
  rw [Nat.zero_add] at hge hcm ⊢
  refine ⟨by simp [hl], .inr ⟨W.heap.size, _, _, rfl, hB, heap_alloc_new W.drew _, hge, hcm, ?_, ?_⟩⟩
  · have hz1' : (Value.int IntKind.u8 0).cells.size = 1 := rfl
    simp only [Array.size_append, List.size_toArray, size_zeroCells, hz1', List.length_nil, List.length_map, hl]
    omega
  · simp [hl]

/-- []byte(s). -/
theorem run_bytes_marked (W : World) (B : Nat) (hB : B ≤ W.heap.size) (s : ByteArray) (hs : s.size ≤ 140737488351232) :
    ∃ v' W', (convert 9 64 (.string s)).run Try.prog W = .ok v' W' ∧ MarkRow W' B s v' ∧ Below W.heap.size W W' := by
  have hge := grownCap_ge W s.size 0 5
  have hcm : grownCap W s.size 0 5 ≤ maxLen := grownCap_le_maxLen W s.size 0 5 (by unfold maxLen; omega)
  have hsz : (Lib.bytesCells W 5 s).size = grownCap W s.size 0 5 := by
    simp only [Lib.bytesCells, Array.size_append, Array.size_map, Array.size_replicate]
    have : s.data.size = s.size := rfl
    omega
  refine ⟨_, _, Lib.run_convert_string_bytes W _ _ 5 s Try.underlying9 Try.underlying64 Try.underlying5, ⟨_, _, _, rfl, hB, Lib.bytesWorld_at_new W _ s, hsz, hge, hcm, ?_⟩, ⟨rfl, rfl, rfl, by rw [Lib.bytesWorld_size]; omega, fun i hi => Lib.bytesWorld_at_old W _ s i hi⟩⟩
  have hl : s.data.toList.length = s.size := by simp
  rw [← hl]
  simp only [Lib.bytesCells, Array.toList_append, Array.toList_map, u8s, strB, List.map_map]
  rw [List.take_append_of_le_length (by simp), List.take_of_length_le (by simp)]
  rfl

/-- append of one nought onto the row that []byte(s) has made. -/
theorem own_ne {W : World} {B n : Nat} {v : Value} {xs : List Value} {g : Nat} (h : W.ownsRow B 5 1 v n xs) (hg : ∀ cur t, W.heap[g]? ≠ some (.cells cur t (0, 0))) : v.ownBlock = none ∨ v.ownBlock ≠ some g := by
  rcases h.2 with ⟨rfl, _⟩ | ⟨g', cap, cur, rfl, _, hh, _⟩
  · exact .inl rfl
  · refine .inr fun e => ?_
    have e' : g' = g := by simpa [Value.ownBlock] using e
    subst e'
    exact hg _ _ hh
theorem run_append_marked (W : World) (B : Nat) (s : ByteArray) (u : Value) (h : MarkRow W B s u) (hB : B ≤ W.heap.size) (hs : s.size ≤ 140737488351200) (x : Value) (hx : SmallRow W 1 [0] x) (ty : TypeId) :
    ∃ A c g W', (Builtin.append_ #[64, 64] ty #[u, x]).run Try.prog W = .ok (.slice A (s.size + 1) c) W' ∧ Shows W' W'.heap.size A (s.size + 1) (strB s ++ [0]) ∧ W.grownBy W' (some g) ∧ B ≤ g ∧ (∀ cur t, W.heap[g]? ≠ some (.cells cur t (0, 0))) := by
  obtain ⟨i0, hi0, hz0, hz1, hz2⟩ := info_parts info_u8
  obtain ⟨g, cap, cs, rfl, hg0, hg, hcs, hsc, hcm, htk⟩ := h
  obtain ⟨g2, rfl, hsh⟩ := hx
  obtain ⟨b, o, e, _, hc⟩ := hsh.at_ (by omega)
  obtain ⟨rfl, rfl⟩ : b = g2 ∧ o = 0 := by injection e with e; injection e with e1 e2; exact ⟨e1.symm, e2.symm⟩
  have hc0 : W.cell? ⟨b, 0, none⟩ = some (.int .u8 0) := by simpa using hc 0 (by omega)
  have hne : ∀ cur t, W.heap[g]? ≠ some (.cells cur t (0, 0)) := fun cur t e => by rw [hg] at e; injection e with e; injection e with _ _ e; injection e with _ e; omega
  have hz : ∀ z ∈ strB s ++ [0], 0 ≤ z ∧ z < 256 := fun z hz => by
    rcases List.mem_append.1 hz with h | h
    · exact strB_byte s z h
    · simp at h; subst h; omega
  have hlz : (strB s ++ [0]).length = s.size + 1 := by simp [strB_length]
  have cell : ∀ i, i < s.size → W.cell? ⟨g, i, none⟩ = some (.int .u8 ((strB s).getD i 0)) := fun i hi => by
    have e : W.cell? ⟨g, i, none⟩ = cs[i]? := by simp [World.cell?, hg]
    have h1 : (u8s (strB s))[i]? = cs[i]? := by rw [← htk, List.getElem?_take_of_lt hi, Array.getElem?_toList]
    rw [e, ← h1, List.getElem?_map]
    have hi' : i < (strB s).length := by rw [strB_length]; exact hi
    simp [List.getD, List.getElem?_eq_getElem hi']
  by_cases hroom : s.size + 1 ≤ cap
  · have hcn : W.cell? ⟨g, s.size, none⟩ = some cs[s.size] := by simp [World.cell?, hg, show s.size < cs.size by omega]
    have hfn : W.frozen? ⟨g, s.size, none⟩ = false := by
      simp only [World.frozen?, hg, Bool.and_eq_false_iff, decide_eq_false_iff_not]
      left
      omega
    have hst : (store (⟨g, s.size, none⟩ : Addr) (.int .u8 0)).run Try.prog W = .ok () (W.setCell ⟨g, s.size, none⟩ (.int .u8 0)) := by
      rw [run_store Try.prog W _ (.int .u8 0) _ rfl, hcn]
      simp [stored, hcn, hfn]
    have hfc := run_firstCells_some (P := Try.prog) W 1 1 ⟨b, 0, none⟩ 1 1 [.int .u8 0] rfl (fun j u hj => by
      match j, hj with
      | 0, hj => simp at hj; subst hj; rw [addr_add]; exact hc0)
    refine ⟨some ⟨g, 0, none⟩, cap, g, W.setCell ⟨g, s.size, none⟩ (.int .u8 0), ?_, ⟨hlz, hz, fun _ => ⟨g, 0, rfl, ?_, fun i hi => ?_⟩⟩, ?_, hg0, hne⟩
    · simp [Builtin.append_, run_underlying Try.underlying64, sizeOf, typeInfo, hi0, hz1, Builtin.lenOf, hroom, hfc, storeCells, addr_add, hst]
    · simp [World.setCell]; exact (Array.getElem?_eq_some_iff.1 hg).1
    · rw [Nat.zero_add]
      rcases Nat.lt_or_ge i s.size with h | h
      · rw [World.cell?_setCell_other _ _ _ _ (by intro e; injection e with _ e; omega), cell i h]
        have hi' : i < (strB s).length := by rw [strB_length]; exact h
        simp [List.getD, List.getElem?_append_left hi']
      · obtain rfl : i = s.size := by omega
        rw [World.cell?_setCell_same _ _ _ hcn]
        simp [List.getD, strB_length]
    · exact ⟨rfl, rfl, rfl, by simp [World.setCell], fun i hi hne' => Below.heap_setCell W ⟨g, s.size, none⟩ (.int .u8 0) i (fun e => hne' (by rw [e]))⟩
  · have hr := run_append_grow (P := Try.prog) W 64 ty 5 i0 (.int .u8 0) Try.underlying64 hi0 hz0 ⟨g, 0, none⟩ s.size cap (u8s (strB s)) (by simp [hz1, strB_length])
      (fun j u hu => by
        rw [List.getElem?_map] at hu
        have hj : j < (strB s).length := by
          rcases Nat.lt_or_ge j (strB s).length with h | h
          · exact h
          · rw [List.getElem?_eq_none h] at hu; cases hu
        rw [List.getElem?_eq_getElem hj] at hu
        have := cell j (by rw [← strB_length]; exact hj)
        rw [addr_add, Nat.zero_add, this, ← Option.some.inj hu]
        simp [List.getD, List.getElem?_eq_getElem hj])
      ⟨b, 0, none⟩ 1 1 [.int .u8 0] (by simp [hz1]) (fun j u hj => by
        match j, hj with
        | 0, hj => simp at hj; subst hj; rw [addr_add]; exact hc0) (by omega) (by omega) (by rw [hz2]; exact growslice_fits (by omega) (by omega))
    have hge := grownCap_ge W (s.size + 1) cap 5
    refine ⟨_, _, g, _, hr, ⟨hlz, hz, fun _ => ⟨W.heap.size, 0, rfl, by simp, fun i hi => ?_⟩⟩, ⟨rfl, rfl, rfl, by simp, fun i hi _ => heap_alloc_old W.drew _ hi⟩, hg0, hne⟩
    rw [Nat.zero_add, cell_of_row _ W.heap.size i _ 5 (0, 0) (heap_alloc_new W.drew _)]
    have hi' : i < (strB s ++ [0]).length := by omega
    have e : ((u8s (strB s)).toArray ++ [Value.int IntKind.u8 0].toArray) = (u8s (strB s ++ [0])).toArray := by simp
    rw [e, Array.getElem?_append_left (by simp [strB_length]; omega)]
    have e2 : (u8s (strB s ++ [0]))[i]? = some (.int .u8 ((strB s ++ [0])[i])) := by rw [List.getElem?_map, List.getElem?_eq_getElem hi']; rfl
    rw [List.getElem?_toArray, e2]
    simp [List.getD, List.getElem?_eq_getElem hi']

/-- What is known while some of a node's first operations have come: b0, b2, b3, b4, b7, b8: whether the empty row, it again, the token's row, the token appended, the name's row, the nought's row, are there. -/
structure NF (W0 W : World) (B : Nat) (nm : ByteArray) (b0 b2 b3 b4 b7 b8 : Bool) (u19 u21 u22 u23 u26 u27 : Value) : Prop where
  below : Below B W0 W
  size : B ≤ W.heap.size
  i20 : b2 = true → b0 = true
  i42 : b4 = true → b2 = true
  i43 : b4 = true → b3 = true
  f0 : b0 = true → EmptyRow W B u19
  f2 : b2 = true → EmptyRow W B u21
  f3 : b3 = true → SmallRow W 4 [0, 0, 0, 1] u22
  f4 : b4 = true → W.ownsRow B 5 1 u23 4 (u8s [0, 0, 0, 1])
  f7 : b7 = true → MarkRow W B nm u26
  f8 : b8 = true → SmallRow W 1 [0] u27

section
variable {W0 W W' : World} {B : Nat} {nm : ByteArray} {b0 b2 b3 b4 b7 b8 : Bool} {u19 u21 u22 u23 u26 u27 : Value}
theorem NF.on (h : NF W0 W B nm b0 b2 b3 b4 b7 b8 u19 u21 u22 u23 u26 u27) (hb : Below W.heap.size W W') : NF W0 W' B nm b0 b2 b3 b4 b7 b8 u19 u21 u22 u23 u26 u27 :=
  ⟨h.below.trans (hb.mono h.size), Nat.le_trans h.size hb.size, h.i20, h.i42, h.i43, fun e => (h.f0 e).on hb, fun e => (h.f2 e).on hb, fun e => (h.f3 e).on hb, fun e => own_on (h.f4 e) hb, fun e => (h.f7 e).on hb, fun e => (h.f8 e).on hb⟩
theorem NF.start (hb : Below B W0 W) (hs : B ≤ W.heap.size) : NF W0 W B nm false false false false false false u19 u21 u22 u23 u26 u27 :=
  ⟨hb, hs, (fun h => by cases h), (fun h => by cases h), (fun h => by cases h), (fun h => by cases h), (fun h => by cases h), (fun h => by cases h), (fun h => by cases h), (fun h => by cases h), (fun h => by cases h)⟩
theorem NF.op0 (h : NF W0 W B nm false b2 b3 b4 b7 b8 u19 u21 u22 u23 u26 u27) : NF W0 (W.alloc (.cells #[] 5)) B nm true b2 b3 b4 b7 b8 (.slice (some ⟨W.heap.size, 0, none⟩) 0 0) u21 u22 u23 u26 u27 := by
  have k := h.on ((Below.refl _ W).alloc (Nat.le_refl _) (.cells #[] 5))
  exact ⟨k.below, k.size, fun _ => rfl, k.i42, k.i43, fun _ => EmptyRow.new W h.size, k.f2, k.f3, k.f4, k.f7, k.f8⟩
theorem NF.op2 (h : NF W0 W B nm true false b3 b4 b7 b8 u19 u21 u22 u23 u26 u27) : NF W0 W B nm true true b3 b4 b7 b8 u19 u19 u22 u23 u26 u27 :=
  ⟨h.below, h.size, fun _ => rfl, fun _ => rfl, h.i43, h.f0, fun _ => h.f0 rfl, h.f3, h.f4, h.f7, h.f8⟩
theorem NF.op3 (h : NF W0 W B nm b0 b2 false b4 b7 b8 u19 u21 u22 u23 u26 u27) : NF W0 (W.alloc (.cells #[.int .u8 0, .int .u8 0, .int .u8 0, .int .u8 1] 5)) B nm b0 b2 true b4 b7 b8 u19 u21 (.slice (some ⟨W.heap.size, 0, none⟩) 4 4) u23 u26 u27 := by
  have k := h.on ((Below.refl _ W).alloc (Nat.le_refl _) (.cells #[.int .u8 0, .int .u8 0, .int .u8 0, .int .u8 1] 5))
  exact ⟨k.below, k.size, k.i20, k.i42, fun _ => rfl, k.f0, k.f2, fun _ => SmallRow.new W [0, 0, 0, 1] 4 _ rfl (by simp) rfl _, k.f4, k.f7, k.f8⟩
theorem NF.op4 (h : NF W0 W B nm b0 true true false b7 b8 u19 u21 u22 u23 u26 u27) (ty : TypeId) : ∃ v' W', (Builtin.append_ #[64, 64] ty #[u21, u22]).run Try.prog W = .ok v' W' ∧ NF W0 W' B nm b0 true true true b7 b8 u19 u21 u22 v' u26 u27 := by
  obtain ⟨v', W', h1, h2, h3⟩ := run_append_empty W B u21 (h.f2 rfl) h.size 4 [0, 0, 0, 1] u22 (h.f3 rfl) (by omega) (by omega) ty
  have k := h.on h3
  exact ⟨v', W', h1, k.below, k.size, k.i20, fun _ => rfl, fun _ => rfl, k.f0, k.f2, k.f3, fun _ => h2, k.f7, k.f8⟩
theorem NF.op7 (h : NF W0 W B nm b0 b2 b3 b4 false b8 u19 u21 u22 u23 u26 u27) (hs : nm.size ≤ 140737488351232) : ∃ v' W', (convert 9 64 (.string nm)).run Try.prog W = .ok v' W' ∧ NF W0 W' B nm b0 b2 b3 b4 true b8 u19 u21 u22 u23 v' u27 := by
  obtain ⟨v', W', h1, h2, h3⟩ := run_bytes_marked W B h.size nm hs
  have k := h.on h3
  exact ⟨v', W', h1, k.below, k.size, k.i20, k.i42, k.i43, k.f0, k.f2, k.f3, k.f4, fun _ => h2, k.f8⟩
theorem NF.op8 (h : NF W0 W B nm b0 b2 b3 b4 b7 false u19 u21 u22 u23 u26 u27) : NF W0 (W.alloc (.cells #[.int .u8 0] 5)) B nm b0 b2 b3 b4 b7 true u19 u21 u22 u23 u26 (.slice (some ⟨W.heap.size, 0, none⟩) 1 1) := by
  have k := h.on ((Below.refl _ W).alloc (Nat.le_refl _) (.cells #[.int .u8 0] 5))
  exact ⟨k.below, k.size, k.i20, k.i42, k.i43, k.f0, k.f2, k.f3, k.f4, k.f7, fun _ => SmallRow.new W [0] 1 _ rfl (by simp) rfl _⟩
/-- append of nil onto the empty row: the same. -/
theorem run_append_nil0 (W : World) (u : Value) (h : EmptyRow W B u) (ty : TypeId) : (Builtin.append_ #[64, 64] ty #[u, .slice none 0 0]).run Try.prog W = .ok u W := by
  obtain ⟨i0, hi0, hz0, hz1, hz2⟩ := info_parts info_u8
  obtain ⟨g, rfl, _⟩ := h
  simp [Builtin.append_, run_underlying Try.underlying64, sizeOf, typeInfo, hi0, Builtin.lenOf, Builtin.firstCells, storeCells]
end

section
variable {P : Program} {ops : Array Oper} {Q : Exit → Act → World → Prop} {S : World → Prop}
/-- Operations that come in whatever order: what is known is kept by each that may come. -/
theorem phase (I : Act → Nat → Array Bool → Act → World → Prop) {a0 : Act} : ∀ {fuel : Nat} {L : Array Bool} {a : Act} {w : World}, I a0 fuel L a w →
    (∀ n L a w, I a0 n L a w → (∀ m, m < n → ∀ L' a' w', I a0 m L' a' w' → wpAnyH P .any ops Q S m L' a' w') → wpAnyH P .any ops Q S n L a w) → wpAnyH P .any ops Q S fuel L a w := by
  intro fuel
  induction fuel using Nat.strongRecOn with
  | _ n ih =>
    intro L a w h hstep
    exact hstep n L a w h (fun m hm L' a' w' h' => ih m hm h' hstep)
theorem phase0 (I : Act → Nat → Array Bool → Act → World → Prop) {a0 : Act} {fuel : Nat} {L : Array Bool} {w : World} (h : I a0 fuel L a0 w)
    (hs : ∀ n L a w, I a0 n L a w → (∀ m, m < n → ∀ L' a' w', I a0 m L' a' w' → wpAnyH P .any ops Q S m L' a' w') → wpAnyH P .any ops Q S n L a w) : wpAnyH P .any ops Q S fuel L a0 w := phase I h hs
theorem any_step {n : Nat} {L : Array Bool} {a : Act} {w : World} (hne : Region.ready .any ops L ≠ []) (h : ∀ i ∈ Region.ready .any ops L, wpOp P ops Q i (fun a' w' => S w' ∧ wpAnyH P .any ops Q S n (L.setIfInBounds i true) a' w') a w) : wpAnyH P .any ops Q S (n + 1) L a w :=
  ⟨fun h0 => absurd h0 hne, h⟩
/-- One operation, by its number. -/
theorem one_op {l : List Oper} {n i : Nat} {o : Oper} {L : Array Bool} {a : Act} {w : World} (ho : l[i]? = some o) (hg : Region.wanted o (yielded l.toArray a.tmps) = true)
    (h : ∀ K : Act → World → Prop, Shut (∀ a w, S w → (S w → wpAnyH P .any l.toArray Q S n (L.setIfInBounds i true) a w) → K a w) → Oper.wp P o a w K Q) : wpOp P l.toArray Q i (fun a' w' => S w' ∧ wpAnyH P .any l.toArray Q S n (L.setIfInBounds i true) a' w') a w :=
  AllReadyH.cons (by simpa using ho) (fun K hK => by rw [if_pos hg]; exact h K hK) AllReadyH.nil i (List.mem_singleton.2 rfl)
/-- What an operation that is ready waits for has come. -/
theorem came {l : List Oper} {i j : Nat} {o : Oper} {L : Array Bool} {g : Ground} (ho : l[i]? = some o) (hi : i ∈ Region.ready .any l.toArray L) (he : { on := j, ground := g } ∈ o.after) (hb : Region.binds .any { on := j, ground := g } = true) : L.getD j false = true := by
  obtain ⟨_, o', ho', h⟩ := mem_ready.1 hi
  rw [List.getElem?_toArray, ho] at ho'
  injection ho' with e
  subst e
  exact h _ he hb
theorem not_come {i : Nat} {L : Array Bool} (hi : i ∈ Region.ready .any ops L) : L.getD i true = false := (mem_ready.1 hi).1
theorem ready_ne {l : List Nat} (h : l.isEmpty = false) : l ≠ [] := by
  rintro rfl
  cases h
theorem ready_lt {i : Nat} {L : Array Bool} (hi : i ∈ Region.ready .any ops L) : i < ops.size := by
  obtain ⟨_, o, ho, _⟩ := mem_ready.1 hi
  exact (Array.getElem?_eq_some_iff.1 ho).1
end

/-- A frame in which six temporaries have come. -/
def Six (a : Act) (u19 u21 u22 u23 u26 u27 : Value) : Act := (((((a.put (some 19) u19).put (some 21) u21).put (some 22) u22).put (some 23) u23).put (some 26) u26).put (some 27) u27
section
variable (a : Act) (u19 u21 u22 u23 u26 u27 v : Value)
theorem put_put (t : Nat) (x : Value) : (a.put (some t) x).put (some t) v = a.put (some t) v := by simp [Act.put]
theorem put_swap (t t' : Nat) (x : Value) (h : t ≠ t') : (a.put (some t) x).put (some t') v = (a.put (some t') v).put (some t) x :=
  Act.put_comm a x v (fun d e e' => by injection e with e; injection e' with e'; exact h (e.trans e'.symm))
theorem six19 : (Six a u19 u21 u22 u23 u26 u27).put (some 19) v = Six a v u21 u22 u23 u26 u27 := by
  unfold Six
  rw [put_swap _ _ 27 19 _ (by decide), put_swap _ _ 26 19 _ (by decide), put_swap _ _ 23 19 _ (by decide), put_swap _ _ 22 19 _ (by decide), put_swap _ _ 21 19 _ (by decide), put_put]
theorem six21 : (Six a u19 u21 u22 u23 u26 u27).put (some 21) v = Six a u19 v u22 u23 u26 u27 := by
  unfold Six
  rw [put_swap _ _ 27 21 _ (by decide), put_swap _ _ 26 21 _ (by decide), put_swap _ _ 23 21 _ (by decide), put_swap _ _ 22 21 _ (by decide), put_put]
theorem six22 : (Six a u19 u21 u22 u23 u26 u27).put (some 22) v = Six a u19 u21 v u23 u26 u27 := by
  unfold Six
  rw [put_swap _ _ 27 22 _ (by decide), put_swap _ _ 26 22 _ (by decide), put_swap _ _ 23 22 _ (by decide), put_put]
theorem six23 : (Six a u19 u21 u22 u23 u26 u27).put (some 23) v = Six a u19 u21 u22 v u26 u27 := by
  unfold Six
  rw [put_swap _ _ 27 23 _ (by decide), put_swap _ _ 26 23 _ (by decide), put_put]
theorem six26 : (Six a u19 u21 u22 u23 u26 u27).put (some 26) v = Six a u19 u21 u22 u23 v u27 := by
  unfold Six
  rw [put_swap _ _ 27 26 _ (by decide), put_put]
theorem six27 : (Six a u19 u21 u22 u23 u26 u27).put (some 27) v = Six a u19 u21 u22 u23 u26 v := by
  unfold Six
  rw [put_put]
theorem six_at19 (h : 19 < a.tmps.size) : (Six a u19 u21 u22 u23 u26 u27).eval (.tmp 19) = u19 := by
  simp [Six, Act.put, Act.eval, h]
theorem six_at21 (h : 21 < a.tmps.size) : (Six a u19 u21 u22 u23 u26 u27).eval (.tmp 21) = u21 := by
  simp [Six, Act.put, Act.eval, h]
theorem six_at22 (h : 22 < a.tmps.size) : (Six a u19 u21 u22 u23 u26 u27).eval (.tmp 22) = u22 := by
  simp [Six, Act.put, Act.eval, h]
theorem six_at23 (h : 23 < a.tmps.size) : (Six a u19 u21 u22 u23 u26 u27).eval (.tmp 23) = u23 := by
  simp [Six, Act.put, Act.eval, h]
theorem six_at26 (h : 26 < a.tmps.size) : (Six a u19 u21 u22 u23 u26 u27).eval (.tmp 26) = u26 := by
  simp [Six, Act.put, Act.eval, h]
theorem six_at27 (h : 27 < a.tmps.size) : (Six a u19 u21 u22 u23 u26 u27).eval (.tmp 27) = u27 := by
  simp [Six, Act.put, Act.eval, h]
theorem six_far (t : Nat) (h19 : t ≠ 19) (h21 : t ≠ 21) (h22 : t ≠ 22) (h23 : t ≠ 23) (h26 : t ≠ 26) (h27 : t ≠ 27) : (Six a u19 u21 u22 u23 u26 u27).eval (.tmp t) = a.eval (.tmp t) := by
  simp [Six, Act.put, Act.eval, Array.getElem?_setIfInBounds_ne, Ne.symm h19, Ne.symm h21, Ne.symm h22, Ne.symm h23, Ne.symm h26, Ne.symm h27]
end
theorem wp_run {P : Program} {o : Oper} {a : Act} {w w' : World} {v : Value} {K : Act → World → Prop} {Q : Exit → Act → World → Prop} (h : (execOp a.eval o).run P w = .ok (.value v) w') (hK : K (a.put o.dst v) w') : Oper.wp P o a w K Q := by
  unfold Oper.wp
  rw [h]
  exact hK
theorem conv_run {P : Program} {a : Act} {w w' : World} {x v : Value} {x0 : Operand} {t t' : TypeId} {d : Option Tmp} {ty : TypeId} {pos : String} {af : Array Edge} {gd : Option (Nat × Bool)} (hx : a.eval x0 = x) (h : (convert t t' x).run P w = .ok v w') : (execOp a.eval { dst := d, op := Op.convert t t' x0, type := ty, pos := pos, after := af, guard := gd }).run P w = .ok (.value v) w' := by
  unfold execOp
  simp only [hx, Sem.run_bind, h, Result.andThen_ok, Sem.run_pure]

theorem own_base {w : World} {b b' : Nat} {e : TypeId} {sz : Nat} {v : Value} {n : Nat} {xs : List Value} (h : w.ownsRow b e sz v n xs) (hb : b' ≤ b) : w.ownsRow b' e sz v n xs := by
  refine ⟨h.1, ?_⟩
  rcases h.2 with h | ⟨g, cap, cur, h1, h2, h3⟩
  · exact .inl h
  · exact .inr ⟨g, cap, cur, h1, Nat.le_trans hb h2, h3⟩

/-- While bytes are put behind bytes: the row is the call's own, and what was there is as it was. -/
def Mid (B : Nat) (W0 W : World) (v : Value) (zs : List Int) : Prop := W.ownsRow B 5 1 v zs.length (u8s zs) ∧ Below B W0 W ∧ B ≤ W.heap.size ∧ ∀ z ∈ zs, 0 ≤ z ∧ z < 256
theorem Mid.on {B : Nat} {W0 W W' : World} {v : Value} {zs : List Int} (h : Mid B W0 W v zs) (hb : Below W.heap.size W W') : Mid B W0 W' v zs :=
  ⟨own_on h.1 hb, h.2.1.trans (hb.mono h.2.2.1), Nat.le_trans h.2.2.1 hb.size, h.2.2.2⟩
theorem Mid.drew {B : Nat} {W0 W : World} {v : Value} {zs : List Int} (h : Mid B W0 W v zs) : Mid B W0 W.drew v zs := ⟨h.1, h.2.1.drew, h.2.2⟩
/-- A block of another kind than bytes. -/
def Other (W : World) (g : Nat) (cs : Array Value) (t : TypeId) : Prop := t ≠ 5 ∧ W.heap[g]? = some (.cells cs t (0, 0))
theorem Other.on {W W' : World} {g : Nat} {cs : Array Value} {t : TypeId} (h : Other W g cs t) (hb : Below W.heap.size W W') : Other W' g cs t := ⟨h.1, (hb.block g (Array.getElem?_eq_some_iff.1 h.2).1).trans h.2⟩
theorem Other.new (W : World) (cs : Array Value) (t : TypeId) (ht : t ≠ 5) : Other (W.alloc (.cells cs t)) W.heap.size cs t := ⟨ht, heap_alloc_new W _⟩
theorem Other.cell {W : World} {g : Nat} {cs : Array Value} {t : TypeId} (h : Other W g cs t) (i : Nat) : W.cell? ⟨g, i, none⟩ = cs[i]? := cell_of_row W g i cs t (0, 0) h.2
theorem Other.ne {W : World} {g B n : Nat} {cs : Array Value} {t : TypeId} {v : Value} {xs : List Value} (h : Other W g cs t) (ho : W.ownsRow B 5 1 v n xs) : some g ≠ v.ownBlock := by
  rcases ho.2 with ⟨rfl, _⟩ | ⟨g', cap, cur, rfl, _, hh, _⟩
  · intro e; cases e
  · intro e
    have e' : g = g' := by simpa [Value.ownBlock] using e
    subst e'
    rw [h.2] at hh
    injection hh with hh
    injection hh with _ ht
    exact h.1 ht
theorem Mid.append {B : Nat} {W0 W : World} {v : Value} {zs : List Int} (h : Mid B W0 W v zs) {B' m : Nat} {A : Option Addr} {ys : List Int} (c : Nat) (hs : Shows W B' A m ys) (hbig : zs.length + ys.length ≤ 140737488351232) (ty : TypeId) :
    ∃ v' W', (Builtin.append_ #[64, 64] ty #[v, .slice A m c]).run Try.prog W = .ok v' W' ∧ Mid B W0 W' v' (zs ++ ys) ∧ (∀ g cs t, Other W g cs t → Other W' g cs t) := by
  obtain ⟨i0, hi0, hz0, hz1, hz2⟩ := info_parts info_u8
  obtain ⟨v', W', h1, h2, h3, _⟩ := run_append_shown W i0 hi0 hz0 hz1 hz2 B v _ _ h.1 B' A m c ys hs (by rw [← hs.1]; exact hbig) h.2.2.1 ty
  have hb := h.2.1.grown h3 h.2.2.1 (fun q hq => (h.1.lt q hq).1)
  have hsz : B ≤ W'.heap.size := Nat.le_trans h.2.2.1 h3.size
  refine ⟨v', W', h1, ⟨?_, hb, hsz, fun z hz => (List.mem_append.1 hz).elim (h.2.2.2 z) (hs.2.1 z)⟩, fun g cs t ho => ⟨ho.1, (h3.block g (Array.getElem?_eq_some_iff.1 ho.2).1 (ho.ne h.1)).trans ho.2⟩⟩
  rw [List.length_append, hs.1, u8s, List.map_append]
  exact h2
/-- Four bytes in a new block. -/
theorem four_new (W : World) (a b c d : Int) (h : ∀ z ∈ [a, b, c, d], 0 ≤ z ∧ z < 256) : Shows (W.alloc (.cells #[.int .u8 a, .int .u8 b, .int .u8 c, .int .u8 d] 5)) (W.heap.size + 1) (some ⟨W.heap.size, 0, none⟩) 4 [a, b, c, d] :=
  shows_lit W [a, b, c, d] 4 _ rfl h rfl _
end Go.Proofs.Ytijhjlpkbnajpaa

/-! Layer 3: a node as it lies in memory: its name, its properties, the nodes right below it, with their addresses. -/
namespace Go.Proofs.Ytijhjlpkbnajpaa
open Go.RowKit Go.ChangeShapes Go.WideShapes Go.Deep
set_option linter.unusedVariables false

/-- A property as it lies: its name, and the slice that is its value. -/
structure PV where
  name : ByteArray
  addr : Option Addr
  cap : Nat
  zs : List Int

def PV.val (p : PV) : Value := .slice p.addr p.zs.length p.cap

inductive Nd where
  | mk (name : ByteArray) (pa : Option Addr) (pc : Nat) (props : List PV) (ka : Option Addr) (kc : Nat) (kids : List Nd)

namespace Nd
def name : Nd → ByteArray | .mk n _ _ _ _ _ _ => n
def pa : Nd → Option Addr | .mk _ a _ _ _ _ _ => a
def pc : Nd → Nat | .mk _ _ c _ _ _ _ => c
def props : Nd → List PV | .mk _ _ _ l _ _ _ => l
def ka : Nd → Option Addr | .mk _ _ _ _ a _ _ => a
def kc : Nd → Nat | .mk _ _ _ _ _ c _ => c
def kids : Nd → List Nd | .mk _ _ _ _ _ _ l => l
def pv (n : Nd) : Value := .slice n.pa n.props.length n.pc
def kv (n : Nd) : Value := .slice n.ka n.kids.length n.kc
def val (n : Nd) : Value := .agg #[.string n.name, n.pv, n.kv]

theorem ind {p : Nd → Prop} (h : ∀ n, (∀ k ∈ n.kids, p k) → p n) (n : Nd) : p n := by
  have : ∀ m : Nat, ∀ n : Nd, SizeOf.sizeOf n ≤ m → p n := by
    intro m
    induction m with
    | zero => intro n hn; cases n; simp at hn
    | succ m ih =>
      intro n hn
      refine h n fun k hk => ih k ?_
      have h1 := List.sizeOf_lt_of_mem hk
      cases n with
      | mk a b c d e f g => simp only [Nd.mk.sizeOf_spec] at hn; simp only [kids] at h1; omega
  exact this _ n (Nat.le_refl _)
end Nd

/-- The property's name is a text, its value's bytes lie below block B. -/
def PV.In (w : World) (B : Nat) (p : PV) : Prop := (p.name.size ≤ 140737488351232 ∧ p.zs.length ≤ 140737488351232) ∧ Shows w B p.addr p.zs.length p.zs ∧ p.zs.length ≤ p.cap ∧ p.cap ≤ 9223372036854775807

/-- The cells of a row of properties. -/
def PRow (w : World) (B : Nat) (a : Option Addr) (l : List PV) : Prop :=
  0 < l.length → ∃ b o, a = some ⟨b, o, none⟩ ∧ b < B ∧ ∀ i (h : i < l.length), w.cell? ⟨b, o + i * 2, none⟩ = some (.string l[i].name) ∧ w.cell? ⟨b, o + i * 2 + 1, none⟩ = some l[i].val
def KRow (w : World) (B : Nat) (a : Option Addr) (l : List Nd) : Prop :=
  0 < l.length → ∃ b o, a = some ⟨b, o, none⟩ ∧ b < B ∧ ∀ i (h : i < l.length), w.cell? ⟨b, o + i * 3, none⟩ = some (.string l[i].name) ∧ w.cell? ⟨b, o + i * 3 + 1, none⟩ = some l[i].pv ∧ w.cell? ⟨b, o + i * 3 + 2, none⟩ = some l[i].kv

/-- The node lies in w, below block B. -/
inductive Nd.In (w : World) (B : Nat) : Nd → Prop where
  | mk (n : Nd) (h1 : n.name.size ≤ 140737488351232 ∧ n.props.length * 40 ≤ 140737488351232 ∧ n.kids.length * 64 ≤ 140737488351232) (h2 : n.props.length ≤ n.pc) (h3 : n.pc ≤ 9223372036854775807) (h4 : n.kids.length ≤ n.kc) (h5 : n.kc ≤ 9223372036854775807)
      (hp : PRow w B n.pa n.props) (hv : ∀ p ∈ n.props, p.In w B) (hk : KRow w B n.ka n.kids) (hk' : ∀ k ∈ n.kids, Nd.In w B k) : Nd.In w B n

section
variable {w w' : World} {B B' : Nat}
theorem PV.In.keep {p : PV} (h : p.In w B) (hk : ∀ a : Addr, a.block < B → w'.cell? a = w.cell? a) : p.In w' B := ⟨h.1, h.2.1.keep hk, h.2.2⟩
theorem PV.In.more {p : PV} (h : p.In w B) (hB : B ≤ B') : p.In w B' := ⟨h.1, h.2.1.more hB, h.2.2⟩
theorem PRow.keep {a : Option Addr} {l : List PV} (h : PRow w B a l) (hk : ∀ a : Addr, a.block < B → w'.cell? a = w.cell? a) : PRow w' B a l := fun h0 => by
  obtain ⟨b, o, e, hb, hc⟩ := h h0
  exact ⟨b, o, e, hb, fun i hi => ⟨(hk _ hb).trans (hc i hi).1, (hk _ hb).trans (hc i hi).2⟩⟩
theorem KRow.keep {a : Option Addr} {l : List Nd} (h : KRow w B a l) (hk : ∀ a : Addr, a.block < B → w'.cell? a = w.cell? a) : KRow w' B a l := fun h0 => by
  obtain ⟨b, o, e, hb, hc⟩ := h h0
  exact ⟨b, o, e, hb, fun i hi => ⟨(hk _ hb).trans (hc i hi).1, (hk _ hb).trans (hc i hi).2.1, (hk _ hb).trans (hc i hi).2.2⟩⟩
theorem PRow.more {a : Option Addr} {l : List PV} (h : PRow w B a l) (hB : B ≤ B') : PRow w B' a l := fun h0 => by
  obtain ⟨b, o, e, hb, hc⟩ := h h0
  exact ⟨b, o, e, by omega, hc⟩
theorem KRow.more {a : Option Addr} {l : List Nd} (h : KRow w B a l) (hB : B ≤ B') : KRow w B' a l := fun h0 => by
  obtain ⟨b, o, e, hb, hc⟩ := h h0
  exact ⟨b, o, e, by omega, hc⟩

theorem Nd.In.name_le {n : Nd} (h : n.In w B) : n.name.size ≤ 140737488351232 ∧ n.props.length * 40 ≤ 140737488351232 ∧ n.kids.length * 64 ≤ 140737488351232 := by cases h; assumption
theorem Nd.In.plen {n : Nd} (h : n.In w B) : n.props.length ≤ n.pc ∧ n.pc ≤ 9223372036854775807 := by cases h; exact ⟨by assumption, by assumption⟩
theorem Nd.In.klen {n : Nd} (h : n.In w B) : n.kids.length ≤ n.kc ∧ n.kc ≤ 9223372036854775807 := by cases h; exact ⟨by assumption, by assumption⟩
theorem Nd.In.prow {n : Nd} (h : n.In w B) : PRow w B n.pa n.props := by cases h; assumption
theorem Nd.In.krow {n : Nd} (h : n.In w B) : KRow w B n.ka n.kids := by cases h; assumption
theorem Nd.In.prop {n : Nd} (h : n.In w B) {p : PV} (hp : p ∈ n.props) : p.In w B := by cases h with | mk _ h1 h2 h3 h4 h5 h6 h7 h8 h9 => exact h7 p hp
theorem Nd.In.kid {n : Nd} (h : n.In w B) {k : Nd} (hk : k ∈ n.kids) : k.In w B := by cases h with | mk _ h1 h2 h3 h4 h5 h6 h7 h8 h9 => exact h9 k hk

theorem Nd.In.keep {n : Nd} (hk : ∀ a : Addr, a.block < B → w'.cell? a = w.cell? a) : n.In w B → n.In w' B :=
  Nd.ind (p := fun n => n.In w B → n.In w' B) (fun n ih h => .mk n h.name_le h.plen.1 h.plen.2 h.klen.1 h.klen.2 (h.prow.keep hk) (fun p hp => (h.prop hp).keep hk) (h.krow.keep hk) (fun k hk' => ih k hk' (h.kid hk'))) n
theorem Nd.In.more {n : Nd} (hB : B ≤ B') : n.In w B → n.In w B' :=
  Nd.ind (p := fun n => n.In w B → n.In w B') (fun n ih h => .mk n h.name_le h.plen.1 h.plen.2 h.klen.1 h.klen.2 (h.prow.more hB) (fun p hp => (h.prop hp).more hB) (h.krow.more hB) (fun k hk' => ih k hk' (h.kid hk'))) n
theorem Nd.In.under {n : Nd} (h : n.In w B) (hb : Below B w w') : n.In w' B := h.keep fun _ hp => hb.cell hp
/-- What a call that lays only new blocks leaves of a node. -/
theorem Nd.In.on {n : Nd} (h : n.In w w.heap.size) (hb : Below w.heap.size w w') : n.In w' w'.heap.size := (h.under hb).more hb.size

/-- The i-th property's cells. -/
theorem Nd.In.pcell {n : Nd} (h : n.In w B) {i : Nat} (hi : i < n.props.length) : ∃ b o, n.pa = some ⟨b, o, none⟩ ∧ b < B ∧ w.cell? ⟨b, o + i * 2, none⟩ = some (.string n.props[i].name) ∧ w.cell? ⟨b, o + i * 2 + 1, none⟩ = some n.props[i].val := by
  obtain ⟨b, o, e, hb, hc⟩ := h.prow (by omega)
  exact ⟨b, o, e, hb, hc i hi⟩
theorem Nd.In.kcell {n : Nd} (h : n.In w B) {i : Nat} (hi : i < n.kids.length) : ∃ b o, n.ka = some ⟨b, o, none⟩ ∧ b < B ∧ w.cell? ⟨b, o + i * 3, none⟩ = some (.string n.kids[i].name) ∧ w.cell? ⟨b, o + i * 3 + 1, none⟩ = some n.kids[i].pv ∧ w.cell? ⟨b, o + i * 3 + 2, none⟩ = some n.kids[i].kv := by
  obtain ⟨b, o, e, hb, hc⟩ := h.krow (by omega)
  exact ⟨b, o, e, hb, hc i hi⟩
end

/-! ### A value that came in is such a node -/

theorem two_of {α : Type} {l : List α} (h : l.length = 2) : ∃ a b, l = [a, b] := by
  match l, h with
  | [a, b], _ => exact ⟨a, b, rfl⟩
theorem three_of {α : Type} {l : List α} (h : l.length = 3) : ∃ a b c, l = [a, b, c] := by
  match l, h with
  | [a, b, c], _ => exact ⟨a, b, c, rfl⟩
theorem five_of {α : Type} {l : List α} (h : l.length = 5) : ∃ a b c d e, l = [a, b, c, d, e] := by
  match l, h with
  | [a, b, c, d, e], _ => exact ⟨a, b, c, d, e, rfl⟩

theorem Try.cellsNode : Try.prog.cellsOf 27 = 3 := by kernel_rfl
theorem Try.cellsProp : Try.prog.cellsOf 66 = 2 := by kernel_rfl
theorem Try.cellsStr : Try.prog.cellsOf 9 = 1 := by kernel_rfl
theorem Try.cellsByte : Try.prog.cellsOf 5 = 1 := by kernel_rfl
theorem Try.cellsBytes : Try.prog.cellsOf 64 = 1 := by kernel_rfl
theorem Try.cellsProps : Try.prog.cellsOf 24 = 1 := by kernel_rfl
theorem Try.cellsNodes : Try.prog.cellsOf 25 = 1 := by kernel_rfl

instance : Inhabited PV := ⟨⟨⟨#[]⟩, none, 0, []⟩⟩
instance : Inhabited Nd := ⟨.mk ⟨#[]⟩ none 0 [] none 0 []⟩

section
variable {H : Type} {enc : TypeId × Value → H} {w : World} {base : Nat} {spare : Nat → Bool} {held : Bool}

theorem weights_mem {P : Program} {e : TypeId} {d : DataW H} : ∀ {l : List (DataW H)}, d ∈ l → ∀ {z : Nat}, z ∈ DataW.weights P e d → z ∈ DataW.weightsAll P e l
  | x :: l, hd, z, hz => by
    rw [DataW.weightsAll]
    rcases List.mem_cons.1 hd with rfl | h
    · exact List.mem_append_left _ hz
    · exact List.mem_append_right _ (weights_mem h hz)

theorem open_pv {fuel : Nat} {cs : List Value} {x : DataW H × List MemPlace} (h : DataW.trod enc Try.prog w base spare held fuel 66 cs = some x) (hw : ∀ z ∈ DataW.weights Try.prog 66 x.1, z ≤ 140737488351232) :
    ∃ p : PV, cs = [.string p.name, p.val] ∧ p.In w w.heap.size := by
  obtain ⟨y0, y1, n, rfl, hl, h0, h1⟩ := trod_struct2 Try.underlying66 h
  rw [Try.cellsProp] at hl
  obtain ⟨c0, c1, rfl⟩ : ∃ c0 c1, cs = [c0, c1] := by
    exact two_of hl
  rw [Try.cellsStr] at h0
  rw [Try.cellsBytes] at h1
  obtain ⟨s, e0, rfl, hs⟩ := DataW.trod_string Try.underlying9 h0
  simp only [List.drop_zero, List.take_succ_cons, List.take_zero, List.cons.injEq, and_true] at e0
  subst e0
  have hs' : s.size ≤ 140737488351232 := hw s.size (by
    simp only [DataW.weights, DataW.weightsEach, Try.underlying66, List.map_cons, List.map_nil]
    exact List.mem_append_left _ (by simp))
  rcases open_ints Try.underlying64 Try.underlying5 Try.cellsByte h1 with ⟨e1, _⟩ | ⟨a, len, cap, zs, e1, hb, hlc, hm, hz, rfl, hcell, hwf⟩
  · simp only [List.drop_succ_cons, List.drop_zero, List.take_succ_cons, List.take_zero, List.cons.injEq, and_true] at e1
    subst e1
    exact ⟨⟨s, none, 0, []⟩, rfl, ⟨hs', by simp⟩, Shows.nil _ _, Nat.le_refl _, by simp⟩
  · simp only [List.drop_succ_cons, List.drop_zero, List.take_succ_cons, List.take_zero, List.cons.injEq, and_true] at e1
    subst e1
    have hle : len ≤ zs.length := by rw [hz]; split <;> omega
    have hl' : (zs.take len).length = len := by rw [List.length_take]; omega
    have hb' : zs.length * Try.prog.bytesOf 5 ≤ 140737488351232 := hw _ (by
      simp only [DataW.weights, DataW.weightsEach, Try.underlying66, Try.underlying64, List.map_cons, List.map_nil]
      refine List.mem_append_right _ (List.mem_append_left _ (List.mem_cons.2 (.inl ?_)))
      simp only [lits, List.length_map, List.length_take, List.length_drop]
      congr 1
      omega)
    have e1 : Try.prog.bytesOf 5 = 1 := by kernel_rfl
    rw [e1] at hb'
    refine ⟨⟨s, some a, cap, zs.take len⟩, by rw [PV.val, hl'], ⟨hs', by simp only [hl']; omega⟩, ?_, by rw [hl']; exact hlc, hm⟩
    refine ⟨rfl, fun z hz' => ?_, fun hn => ?_⟩
    · have h2 := bounds_u8 (hwf z (List.mem_of_mem_take hz'))
      omega
    · rw [hl'] at hn
      obtain ⟨b, o, spot⟩ := a
      have hc := hcell 0 (by omega)
      have hspot : spot = none := by simpa [Addr.add] using World.cell?_spot hc
      subst hspot
      refine ⟨b, o, rfl, ?_, fun i hi => ?_⟩
      · rw [addr_add] at hc
        exact World.block_lt_of_cell? w _ hc
      · rw [hl'] at hi
        have hci := hcell i (by omega)
        rw [addr_add] at hci
        rw [hci]
        refine congrArg (fun z => some (Value.int .u8 z)) ?_
        simp [List.getD, List.getElem?_take_of_lt hi]

/-- The elements of a row that came in, one by one. -/
theorem open_row {α : Type} [Inhabited α] {t e : TypeId} {c : Nat} (f : α → List Value) (good : α → Prop) {fuel : Nat} {cs : List Value} {x : DataW H × List MemPlace} (ht : Try.prog.underlying t = some (.slice e)) (hc : Try.prog.cellsOf e = c) (hc0 : 0 < c)
    (hlen : ∀ p, (f p).length = c) (each : ∀ (n : Nat) (cs : List Value) (y : DataW H × List MemPlace), SizeOf.sizeOf y.1 < SizeOf.sizeOf x.1 → DataW.trod enc Try.prog w base spare held n e cs = some y → (∀ z ∈ DataW.weights Try.prog e y.1, z ≤ 140737488351232) → ∃ p : α, cs = f p ∧ good p)
    (h : DataW.trod enc Try.prog w base spare held fuel t cs = some x) (hw : ∀ z ∈ DataW.weights Try.prog t x.1, z ≤ 140737488351232) :
    ∃ (a : Option Addr) (cap : Nat) (l : List α), cs = [.slice a l.length cap] ∧ l.length ≤ cap ∧ cap ≤ 9223372036854775807 ∧ l.length * Try.prog.bytesOf e ≤ 140737488351232 ∧ (∀ p ∈ l, good p) ∧
      (0 < l.length → ∃ b o, a = some ⟨b, o, none⟩ ∧ b < w.heap.size ∧ ∀ i (h : i < l.length), ∀ j, j < c → w.cell? ⟨b, o + i * c + j, none⟩ = (f l[i])[j]?) := by
  rcases open_slice ht h with ⟨rfl, _⟩ | ⟨a, len, cap, m, n, D, Pl, rfl, hb, hl, hm, hmm, rfl, hi⟩
  · exact ⟨none, 0, [], rfl, Nat.le_refl _, by simp, by simp, by simp, fun h => absurd h (by simp)⟩
  · have hlm : len ≤ m := by rw [hmm]; split <;> omega
    have sz : ∀ i, i < len → SizeOf.sizeOf (D i) < SizeOf.sizeOf (DataW.slice ((List.range len).map D) ((List.range (m - len)).map fun j => D (len + j))) := fun i hi' => by
      have hmem : D i ∈ (List.range len).map D := List.mem_map.2 ⟨i, List.mem_range.2 hi', rfl⟩
      have := List.sizeOf_lt_of_mem hmem
      simp only [DataW.slice.sizeOf_spec]
      omega
    have hw1 : (len + (m - len)) * Try.prog.bytesOf e ≤ 140737488351232 := hw _ (by
      simp only [DataW.weights, ht]
      refine List.mem_cons.2 (.inl ?_)
      simp)
    have hw2 : len * Try.prog.bytesOf e ≤ 140737488351232 := Nat.le_trans (Nat.mul_le_mul_right _ (by omega)) hw1
    have hwi : ∀ i, i < len → ∀ z ∈ DataW.weights Try.prog e (D i), z ≤ 140737488351232 := fun i hi' z hz => hw z (by
      simp only [DataW.weights, ht]
      exact List.mem_cons.2 (.inr (List.mem_append_left _ (weights_mem (List.mem_map.2 ⟨i, List.mem_range.2 hi', rfl⟩) hz))))
    obtain ⟨F, hF⟩ := choose_lt (α := α) (n := len) (p := fun i p => w.cells? base (a.add (i * Try.prog.cellsOf e)) (Try.prog.cellsOf e) = some (f p) ∧ good p) (fun i hi' => by
      obtain ⟨cs', h1, h2⟩ := hi i (by omega)
      obtain ⟨p, rfl, hg⟩ := each n cs' _ (sz i hi') h2 (hwi i hi')
      exact ⟨p, h1, hg⟩)
    refine ⟨some a, cap, (List.range len).map F, by simp, by simpa using hl, hm, by simpa using hw2, ?_, fun h0 => ?_⟩
    · intro p hp
      obtain ⟨i, hi', rfl⟩ := List.mem_map.1 hp
      exact (hF i (List.mem_range.1 hi')).2
    · simp only [List.length_map, List.length_range] at h0 ⊢
      obtain ⟨b, o, spot⟩ := a
      have cell : ∀ i, i < len → ∀ j, j < c → w.cell? ((⟨b, o, spot⟩ : Addr).add (i * c + j)) = (f (F i))[j]? := fun i hi' j hj => by
        obtain ⟨_, _, h3⟩ := World.cells?_some (hF i hi').1
        rw [hc] at h3
        rw [← Go.Deep.add_add]
        exact h3 j hj
      have c0 := cell 0 h0 0 hc0
      rw [List.getElem?_eq_getElem (by rw [hlen]; exact hc0)] at c0
      have hspot : spot = none := by simpa [Addr.add] using World.cell?_spot c0
      subst hspot
      refine ⟨b, o, rfl, World.block_lt_of_cell? w _ (by rw [addr_add] at c0; exact c0), fun i hi' j hj => ?_⟩
      have := cell i hi' j hj
      rw [addr_add, ← Nat.add_assoc] at this
      simpa using this

theorem Try.bytesNode : Try.prog.bytesOf 27 = 64 := by kernel_rfl
theorem Try.bytesProp : Try.prog.bytesOf 66 = 40 := by kernel_rfl

theorem open_nd : ∀ (m fuel : Nat) (cs : List Value) (x : DataW H × List MemPlace), SizeOf.sizeOf x.1 ≤ m → DataW.trod enc Try.prog w base spare held fuel 27 cs = some x →
    (∀ z ∈ DataW.weights Try.prog 27 x.1, z ≤ 140737488351232) → ∃ n : Nd, cs = [.string n.name, n.pv, n.kv] ∧ n.In w w.heap.size := by
  intro m
  induction m with
  | zero => intro fuel cs x hx; exfalso; obtain ⟨d, pl⟩ := x; cases d <;> simp at hx
  | succ m ih =>
    intro fuel cs x hx h hw
    obtain ⟨y0, y1, y2, n, rfl, hl, h0, h1, h2⟩ := trod_struct3 Try.underlying27 h
    rw [Try.cellsNode] at hl
    obtain ⟨c0, c1, c2, rfl⟩ : ∃ c0 c1 c2, cs = [c0, c1, c2] := by
      exact three_of hl
    rw [Try.cellsStr] at h0
    rw [Try.cellsProps] at h1
    rw [Try.cellsNodes] at h2
    simp only [List.drop_zero, List.drop_succ_cons, List.take_succ_cons, List.take_zero] at h0 h1 h2
    simp only [DataW.weights, DataW.weightsEach, Try.underlying27, List.map_cons, List.map_nil] at hw
    have hw0 := fun z hz => hw z (List.mem_append_left _ hz)
    have hw1 := fun z hz => hw z (List.mem_append_right _ (List.mem_append_left _ hz))
    have hw2 := fun z hz => hw z (List.mem_append_right _ (List.mem_append_right _ (List.mem_append_left _ hz)))
    obtain ⟨s, e0, rfl, hs⟩ := DataW.trod_string Try.underlying9 h0
    simp only [List.cons.injEq, and_true] at e0
    subst e0
    have hs' : s.size ≤ 140737488351232 := hw0 s.size (by simp [DataW.weights])
    obtain ⟨pa, pc, props, e1, hp1, hp2, hp3, hpg, hprow⟩ := open_row (c := 2) (fun p : PV => [.string p.name, p.val]) (fun p => p.In w w.heap.size) Try.underlying24 Try.cellsProp (by omega) (fun _ => rfl) (fun n cs y _ hy hwy => open_pv hy hwy) h1 hw1
    obtain ⟨ka, kc, kids, e2, hk1, hk2, hk3, hkg, hkrow⟩ := open_row (c := 3) (fun k : Nd => [.string k.name, k.pv, k.kv]) (fun k => k.In w w.heap.size) Try.underlying25 Try.cellsNode (by omega) (fun _ => rfl)
      (fun n cs y hy hy' hwy => ih n cs y (by simp only [DataW.agg.sizeOf_spec, List.cons.sizeOf_spec] at hx; omega) hy' hwy) h2 hw2
    simp only [List.cons.injEq, and_true] at e1 e2
    subst e1 e2
    rw [Try.bytesProp] at hp3
    rw [Try.bytesNode] at hk3
    refine ⟨.mk s pa pc props ka kc kids, rfl, .mk _ ⟨hs', hp3, hk3⟩ hp1 hp2 hk1 hk2 (fun h0 => ?_) hpg (fun h0 => ?_) hkg⟩
    · obtain ⟨b, o, e, hb, hc⟩ := hprow h0
      exact ⟨b, o, e, hb, fun i hi => ⟨hc i hi 0 (by omega), hc i hi 1 (by omega)⟩⟩
    · obtain ⟨b, o, e, hb, hc⟩ := hkrow h0
      exact ⟨b, o, e, hb, fun i hi => ⟨hc i hi 0 (by omega), hc i hi 1 (by omega), hc i hi 2 (by omega)⟩⟩
end
end Go.Proofs.Ytijhjlpkbnajpaa

/-! Layer 3: how many nodes and properties there are; how much a node has. -/
namespace Go.Proofs.Ytijhjlpkbnajpaa
open Go.RowKit
set_option linter.unusedVariables false
set_option linter.unusedSimpArgs false

mutual
def nodesN : Nd → Nat
  | .mk _ _ _ _ _ _ ks => 1 + nodesL ks
def nodesL : List Nd → Nat
  | [] => 0
  | k :: l => nodesN k + nodesL l
end
mutual
def propsN : Nd → Nat
  | .mk _ _ _ ps _ _ ks => ps.length + propsL ks
def propsL : List Nd → Nat
  | [] => 0
  | k :: l => propsN k + propsL l
end
theorem nodesL_append : ∀ a b : List Nd, nodesL (a ++ b) = nodesL a + nodesL b
  | [], b => by simp [nodesL]
  | x :: a, b => by simp only [List.cons_append, nodesL, nodesL_append a b]; omega
theorem propsL_append : ∀ a b : List Nd, propsL (a ++ b) = propsL a + propsL b
  | [], b => by simp [propsL]
  | x :: a, b => by simp only [List.cons_append, propsL, propsL_append a b]; omega
theorem take_next {α : Type} (l : List α) (j : Nat) (h : j < l.length) : l.take (j + 1) = l.take j ++ [l[j]] := by
  rw [List.take_add_one, List.getElem?_eq_getElem h]; rfl
theorem nodesL_next (l : List Nd) (j : Nat) (h : j < l.length) : nodesL (l.take (j + 1)) = nodesL (l.take j) + nodesN l[j] := by
  rw [take_next l j h, nodesL_append]; simp [nodesL]
theorem propsL_next (l : List Nd) (j : Nat) (h : j < l.length) : propsL (l.take (j + 1)) = propsL (l.take j) + propsN l[j] := by
  rw [take_next l j h, propsL_append]; simp [propsL]

theorem wrap_add (a b : Int) : wrap64 (wrap64 a + wrap64 b) = wrap64 (a + b) := by simp only [wrap64]; omega
theorem wrap_add_of {a b c d : Int} (h1 : a = wrap64 c) (h2 : b = wrap64 d) : wrap64 (a + b) = wrap64 (c + d) := by rw [h1, h2, wrap_add]
theorem wrap_small {a : Int} (h0 : -9223372036854775808 ≤ a) (h1 : a ≤ 9223372036854775807) : wrap64 a = a := by simp only [wrap64]; omega

/-- What both functions that count answer of a node. -/
def Counted (e : Ending) (n : Nd) : Prop := e = .returned (.tuple #[.int .i64 (wrap64 (nodesN n)), .int .i64 (wrap64 (propsN n))])

set_option maxHeartbeats 2000000 in
theorem size_any : ∀ (n : Nd) (d : Int) (w : World), n.In w w.heap.size → 0 ≤ d → d ≤ 21 → Calls Try.prog 15 #[n.val, .int .i64 d] w fun e w' => (∃ x : Int, e = .returned (.int .i64 x)) ∧ Below w.heap.size w w' := by
  refine Nd.ind ?_
  intro n ih d w hin hd0 hd1
  obtain ⟨nm, pa, pc, ps, ka, kc, ks⟩ := n
  have HI := Lib.hid hin
  have IH := Lib.hid ih
  obtain ⟨hl, hm⟩ : ks.length ≤ kc ∧ kc ≤ 9223372036854775807 := hin.klen
  obtain ⟨hl2, hm2⟩ : ps.length ≤ pc ∧ pc ≤ 9223372036854775807 := hin.plen
  obtain ⟨hn, _⟩ : nm.size ≤ 140737488351232 ∧ _ := hin.name_le
  clear hin ih
  show Calls _ _ #[.agg #[.string nm, .slice pa ps.length pc, .slice ka ks.length kc], .int .i64 d] _ _
  go_enter Try.func15, Try.ntmps15
  go_wp2_with fail
  go_loopw [5, 15] (fun x i wr => ∃ k : Nat, k ≤ ps.length ∧ i = .int .i64 k ∧ (∃ a : Int, x = .int .i64 a) ∧ Below (w.heap.size + 1) (w.alloc (.cells #[Value.string nm, .slice pa ps.length pc, .slice ka ks.length kc] 27)) wr) (fun _ i _ => ps.length - (intOf i).toNat)
  case atStart => exact ⟨0, Nat.zero_le _, rfl, ⟨_, rfl⟩, Below.refl _ _⟩
  case round =>
    obtain ⟨k, hk, rfl, ⟨a, rfl⟩, hb⟩ := hrel
    have HB0 := Lib.hid hb
    have HB := Lib.hid (((Below.refl w.heap.size w).alloc (Nat.le_refl _) _).trans (hb.mono (Nat.le_succ _)))
    clear hb
    by_cases hlt : k < ps.length
    · obtain ⟨b, o, e, hb, c0, c1⟩ := (HI.out.under HB.out).pcell (i := k) hlt
      obtain rfl : pa = _ := e
      replace c0 : _ = some (Value.string ps[k].name) := c0
      replace c1 : _ = some (Value.slice ps[k].addr ps[k].zs.length ps[k].cap) := c1
      have hbox : wr.cell? ⟨w.heap.size, 1, none⟩ = some (.slice (some ⟨b, o, none⟩) ps.length pc) := (HB0.out.cell (Nat.lt_succ_self _)).trans (World.cell?_alloc_new _ _ _ _)
      go_wp2_with fail
      go_region
      go_wp2
      go_roundw
      case rel => exact ⟨k + 1, by omega, by go_num, ⟨_, rfl⟩, HB0.out.drew⟩
      case measure => simp [intOf]; omega
    · have hbox : wr.cell? ⟨w.heap.size, 2, none⟩ = some (.slice ka ks.length kc) := (HB0.out.cell (Nat.lt_succ_self _)).trans (World.cell?_alloc_new _ _ _ _)
      go_wp2_with fail
      clear hbox
      go_loopw [5, 40] (fun x i wr => ∃ k : Nat, k ≤ ks.length ∧ i = .int .i64 k ∧ (∃ a : Int, x = .int .i64 a) ∧ Below (w.heap.size + 1) (w.alloc (.cells #[Value.string nm, .slice pa ps.length pc, .slice ka ks.length kc] 27)) wr) (fun _ i _ => ks.length - (intOf i).toNat)
      case atStart => exact ⟨0, Nat.zero_le _, rfl, ⟨_, rfl⟩, HB0.out⟩
      case round =>
        clear HB HB0
        obtain ⟨k, hk, rfl, ⟨a, rfl⟩, hb⟩ := hrel
        have HB0 := Lib.hid hb
        have HB := Lib.hid (((Below.refl w.heap.size w).alloc (Nat.le_refl _) _).trans (hb.mono (Nat.le_succ _)))
        clear hb
        by_cases hlt' : k < ks.length
        · obtain ⟨b, o, e, hb, c0, c1, c2⟩ := (HI.out.under HB.out).kcell (i := k) hlt'
          obtain rfl : ka = _ := e
          replace c0 : _ = some (Value.string ks[k].name) := c0
          replace c1 : _ = some (Value.slice ks[k].pa ks[k].props.length ks[k].pc) := c1
          replace c2 : _ = some (Value.slice ks[k].ka ks[k].kids.length ks[k].kc) := c2
          have hbox : wr.cell? ⟨w.heap.size, 2, none⟩ = some (.slice (some ⟨b, o, none⟩) ks.length kc) := (HB0.out.cell (Nat.lt_succ_self _)).trans (World.cell?_alloc_new _ _ _ _)
          by_cases hd : 20 < d
          · go_wp2
            go_ret
            exact ⟨⟨_, rfl⟩, HB.out⟩
          · by_cases ha : 100000 < a
            · go_wp2
              go_ret
              exact ⟨⟨_, rfl⟩, HB.out⟩
            · go_wp2_with fail
              refine (IH.out ks[k] (List.getElem_mem hlt') _ _ (((HI.out.kid (List.getElem_mem hlt')).under HB.out).more HB.out.size) (by omega) (by omega)).mono ?_
              rintro e w' ⟨⟨x, rfl⟩, hb'⟩
              have HB3 := Lib.hid (HB0.out.trans (hb'.mono (by have := HB0.out.size; simpa using this)))
              clear hb'
              go_wp2
              go_roundw
              case rel => exact ⟨k + 1, by omega, by go_num, ⟨_, rfl⟩, HB3.out⟩
              case measure => simp [intOf]; omega
        · go_wp2
          go_ret
          exact ⟨⟨_, rfl⟩, HB.out⟩
end Go.Proofs.Ytijhjlpkbnajpaa

/-! The place of the first name that is s, in a list of names. -/
namespace Go.Proofs.Ytijhjlpkbnajpaa
open Go.RowKit
set_option linter.unusedVariables false
set_option linter.unusedSimpArgs false

/-- The place of the first name that is s; -1: none. -/
def idxOf : List ByteArray → ByteArray → Int
  | [], _ => -1
  | x :: l, s => if x = s then 0 else if idxOf l s < 0 then -1 else idxOf l s + 1

theorem idxOf_hit : ∀ (l : List ByteArray) (s : ByteArray) (k : Nat) (hk : k < l.length), l[k] = s → (∀ j (hj : j < k), l[j] ≠ s) → idxOf l s = k
  | x :: l, s, 0, hk, h, _ => by simp only [List.getElem_cons_zero] at h; simp [idxOf, h]
  | x :: l, s, k + 1, hk, h, h' => by
    have h0 : x ≠ s := by have := h' 0 (by omega); simpa using this
    have ih := idxOf_hit l s k (by simpa using hk) (by simpa using h) (fun j hj => by have := h' (j + 1) (by omega); simpa using this)
    rw [idxOf, if_neg h0, ih, if_neg (by omega)]
    omega
theorem idxOf_miss : ∀ (l : List ByteArray) (s : ByteArray), (∀ j (hj : j < l.length), l[j] ≠ s) → idxOf l s = -1
  | [], s, _ => rfl
  | x :: l, s, h => by
    have h0 : x ≠ s := by have := h 0 (by simp); simpa using this
    have ih := idxOf_miss l s (fun j hj => by have := h (j + 1) (by simpa using hj); simpa using this)
    rw [idxOf, if_neg h0, ih, if_pos (by omega)]

/-- None of the first k names is s. -/
def Missed (l : List ByteArray) (s : ByteArray) (k : Nat) : Prop := k ≤ l.length ∧ ∀ j (hj : j < l.length), j < k → l[j] ≠ s

theorem Missed.zero (l : List ByteArray) (s : ByteArray) : Missed l s 0 := ⟨Nat.zero_le _, fun _ _ h => absurd h (Nat.not_lt_zero _)⟩
theorem Missed.succ {l : List ByteArray} {s : ByteArray} {k : Nat} (h : Missed l s k) (hk : k < l.length) (hne : l[k] ≠ s) : Missed l s (k + 1) :=
  ⟨hk, fun j hj hlt => by
    rcases Nat.lt_succ_iff_lt_or_eq.1 hlt with h1 | rfl
    · exact h.2 j hj h1
    · exact hne⟩
theorem Missed.hit {l : List ByteArray} {s : ByteArray} {k : Nat} (h : Missed l s k) (hk : k < l.length) (he : l[k] = s) : idxOf l s = k := idxOf_hit l s k hk he (fun j hj => h.2 j (by omega) hj)
theorem Missed.all {l : List ByteArray} {s : ByteArray} {k : Nat} (h : Missed l s k) (hk : ¬ k < l.length) : idxOf l s = -1 := idxOf_miss l s (fun j hj => h.2 j hj (by omega))

theorem str_ne {x s : ByteArray} (h : x ≠ s) : (x.toList == s.toList) = false := by
  rw [beq_eq_false_iff_ne]
  intro e
  rw [Lib.toList_data, Lib.toList_data] at e
  exact h (WideShapes.bytes_inj e)

end Go.Proofs.Ytijhjlpkbnajpaa

/-! The document's blob: the names of properties, each once, in order. -/
namespace Go.Proofs.Ytijhjlpkbnajpaa
open Go.RowKit
set_option linter.unusedVariables false
set_option linter.unusedSimpArgs false

/-- Is a name there? -/
def hasT (l : List ByteArray) (s : ByteArray) : Bool := l.any fun x => decide (x = s)
theorem hasT_next (l : List ByteArray) (s : ByteArray) (j : Nat) (h : j < l.length) : hasT (l.take (j + 1)) s = (hasT (l.take j) s || decide (l[j] = s)) := by
  unfold hasT
  rw [take_next l j h, List.any_append]
  simp
/-- A name behind those ahead, if it isn't there. -/
def addT (l : List ByteArray) (s : ByteArray) : List ByteArray := if hasT l s = true then l else l ++ [s]
mutual
def textsN : Nd → List ByteArray → List ByteArray
  | .mk _ _ _ ps _ _ ks, l => textsL ks ((ps.map PV.name).foldl addT l)
def textsL : List Nd → List ByteArray → List ByteArray
  | [], l => l
  | k :: r, l => textsL r (textsN k l)
end
theorem textsL_append : ∀ (a b : List Nd) (l : List ByteArray), textsL (a ++ b) l = textsL b (textsL a l)
  | [], b, l => by simp [textsL]
  | x :: a, b, l => by simp only [List.cons_append, textsL, textsL_append a b]
theorem textsL_next (ks : List Nd) (j : Nat) (h : j < ks.length) (l : List ByteArray) : textsL (ks.take (j + 1)) l = textsN ks[j] (textsL (ks.take j) l) := by
  rw [take_next ks j h, textsL_append]; simp [textsL]
theorem addT_length (l : List ByteArray) (s : ByteArray) : (addT l s).length ≤ l.length + 1 := by
  unfold addT; split <;> simp
theorem fold_length : ∀ (ns l : List ByteArray), (ns.foldl addT l).length ≤ l.length + ns.length
  | [], l => by simp
  | s :: ns, l => by
    have h1 := addT_length l s
    have h2 := fold_length ns (addT l s)
    simp only [List.foldl_cons, List.length_cons]
    omega
theorem texts_length_all (l0 : List ByteArray) : True := trivial
theorem textsN_length : ∀ (n : Nd) (l : List ByteArray), (textsN n l).length ≤ l.length + propsN n := by
  refine Nd.ind ?_
  intro n ih l
  obtain ⟨nm, pa, pc, ps, ka, kc, ks⟩ := n
  have hl : ∀ (r : List Nd), (∀ k ∈ r, k ∈ ks) → ∀ l, (textsL r l).length ≤ l.length + propsL r := by
    intro r
    induction r with
    | nil => intro _ l; simp [textsL]
    | cons k r ihr =>
      intro hr l
      have h1 := ih k (hr k (by simp)) l
      have h2 := ihr (fun x hx => hr x (by simp [hx])) (textsN k l)
      simp only [textsL, propsL]
      omega
  have h1 := fold_length (ps.map PV.name) l
  have h2 := hl ks (fun _ h => h) ((ps.map PV.name).foldl addT l)
  simp only [textsN, propsN]
  simp only [List.length_map] at h1
  omega
theorem propsL_take (ks : List Nd) (j : Nat) : propsL (ks.take j) ≤ propsL ks := by
  conv => rhs; rw [← List.take_append_drop j ks, propsL_append]
  omega
theorem textsL_length (ks : List Nd) (l : List ByteArray) : (textsL ks l).length ≤ l.length + propsL ks := by
  induction ks generalizing l with
  | nil => simp [textsL]
  | cons k r ih =>
    have h1 := textsN_length k l
    have h2 := ih (textsN k l)
    simp only [textsL, propsL]
    omega

/-! ### Rows of texts -/
abbrev strs (l : List ByteArray) : List Value := l.map Value.string
theorem info_strD : (Try.prog.info? 9).map (fun i => (i.zero, i.size, i.bytes)) = some (some (.string ⟨#[]⟩), 1, 16) := by kernel_rfl

/-- A row of texts that the call owns, as a slice. -/
theorem own_slice {w : World} {base n : Nat} {t : TypeId} {v : Value} {xs : List Value} (h : w.ownsRow base t 1 v n xs) :
    ∃ A c, v = .slice A n c ∧ n ≤ c ∧ c ≤ 9223372036854775807 ∧ (0 < n → ∃ g, A = some ⟨g, 0, none⟩ ∧ v.ownBlock = some g ∧ g < w.heap.size ∧ ∀ k, k < n → w.cell? ⟨g, k, none⟩ = xs[k]?) := by
  obtain ⟨hl, ⟨rfl, rfl⟩ | ⟨g, cap, cur, rfl, hb, hg, hnc, hcm, hsz, htk⟩⟩ := h
  · exact ⟨none, 0, rfl, Nat.le_refl _, by omega, fun h => absurd h (Nat.lt_irrefl 0)⟩
  · refine ⟨_, cap, rfl, hnc, hcm, fun _ => ⟨g, rfl, rfl, (Array.getElem?_eq_some_iff.1 hg).1, fun k hk => ?_⟩⟩
    have e : w.cell? ⟨g, k, none⟩ = cur[k]? := by simp [World.cell?, hg]
    rw [e, ← htk, List.getElem?_take_of_lt (by omega), Array.getElem?_toList]

/-- What texts leaves: a row of its own, in the old one's block or a new one. -/
def TState (w0 : World) (B1 : Nat) (r0 : Option Nat) (wr : World) (v : Value) (l : List ByteArray) : Prop :=
  wr.ownsRow B1 9 1 v l.length (strs l) ∧ w0.grownBy wr r0 ∧ (v.ownBlock = r0 ∨ ∃ g, v.ownBlock = some g ∧ w0.heap.size ≤ g)
def TOut (w : World) (B1 : Nat) (v : Value) (l : List ByteArray) (e : Ending) (w' : World) : Prop := ∃ v', e = .returned v' ∧ TState w B1 v.ownBlock w' v' l

theorem TState.step {w0 wr w' : World} {B1 : Nat} {r0 : Option Nat} {v v' : Value} {l l' : List ByteArray} (h : TState w0 B1 r0 wr v l) (h' : TState wr B1 v.ownBlock w' v' l') : TState w0 B1 r0 w' v' l' := by
  obtain ⟨h1, h2, h3⟩ := h
  obtain ⟨k1, k2, k3⟩ := h'
  refine ⟨k1, ⟨k2.os.trans h2.os, k2.tape.trans h2.tape, k2.output.trans h2.output, Nat.le_trans h2.size k2.size, fun i hi hne => ?_⟩, ?_⟩
  · refine (k2.block i (Nat.lt_of_lt_of_le hi h2.size) ?_).trans (h2.block i hi hne)
    rcases h3 with e | ⟨g, e, hg⟩
    · rw [e]; exact hne
    · rw [e]; intro e2; injection e2 with e2; omega
  · rcases k3 with e | ⟨g, e, hg⟩
    · rw [e]; exact h3
    · exact .inr ⟨g, e, Nat.le_trans h2.size hg⟩
theorem TState.drewN {w0 wr : World} {B1 : Nat} {r0 : Option Nat} {v : Value} {l : List ByteArray} (h : TState w0 B1 r0 wr v l) (q : Nat) : TState w0 B1 r0 (wr.drewN q) v l :=
  ⟨h.1, ⟨h.2.1.os, h.2.1.tape, h.2.1.output, h.2.1.size, h.2.1.block⟩, h.2.2⟩
/-- Behind a new block. -/
theorem TState.box {w w' : World} {o : Obj} {B1 : Nat} {r0 : Option Nat} {v : Value} {l : List ByteArray} (h : TState (w.alloc o) B1 r0 w' v l) : TState w B1 r0 w' v l := by
  obtain ⟨h1, h2, h3⟩ := h
  refine ⟨h1, ⟨h2.os, h2.tape, h2.output, Nat.le_trans (by simp) h2.size, fun i hi hne => (h2.block i (by simp; omega) hne).trans (heap_alloc_old w o hi)⟩, ?_⟩
  rcases h3 with e | ⟨g, e, hg⟩
  · exact .inl e
  · exact .inr ⟨g, e, by simp at hg; omega⟩
/-- Cells of blocks that are another's. -/
theorem TState.cell {w0 wr : World} {B1 : Nat} {r0 : Option Nat} {v : Value} {l : List ByteArray} (h : TState w0 B1 r0 wr v l) {a : Addr} (ha : a.block < w0.heap.size) (hr : some a.block ≠ r0) : wr.cell? a = w0.cell? a :=
  World.cell?_of_block (h.2.1.block a.block ha hr)

end Go.Proofs.Ytijhjlpkbnajpaa

/-! The document's blob: where a text stands behind those ahead of it. -/
namespace Go.Proofs.Ytijhjlpkbnajpaa
open Go.RowKit
set_option linter.unusedVariables false
set_option linter.unusedSimpArgs false

/-- How many bytes texts are, each with a nought. -/
def textSize : List ByteArray → Nat
  | [] => 0
  | x :: r => x.size + 1 + textSize r
theorem textSize_append : ∀ a b : List ByteArray, textSize (a ++ b) = textSize a + textSize b
  | [], b => by simp [textSize]
  | x :: a, b => by simp only [List.cons_append, textSize, textSize_append a b]; omega
theorem textSize_next (l : List ByteArray) (j : Nat) (h : j < l.length) : textSize (l.take (j + 1)) = textSize (l.take j) + l[j].size + 1 := by
  rw [take_next l j h, textSize_append]; simp only [textSize]; omega
theorem textSize_take (l : List ByteArray) (j : Nat) : textSize (l.take j) ≤ textSize l := by
  conv => rhs; rw [← List.take_append_drop j l, textSize_append]
  omega
/-- Where a text stands. -/
def whereL : List ByteArray → ByteArray → Nat
  | [], _ => 0
  | x :: r, s => if x = s then 0 else x.size + 1 + whereL r s
theorem whereL_missed : ∀ (l : List ByteArray) (s : ByteArray) (k : Nat), Missed l s k → whereL l s = textSize (l.take k) + whereL (l.drop k) s
  | [], s, k, _ => by simp [whereL, textSize]
  | x :: l, s, 0, _ => by simp [textSize]
  | x :: l, s, k + 1, h => by
    have h0 : x ≠ s := by have := h.2 0 (by simp) (by omega); simpa using this
    have ih := whereL_missed l s k ⟨by have := h.1; simp at this; omega, fun j hj hlt => by have := h.2 (j + 1) (by simp; omega) (by omega); simpa using this⟩
    simp only [whereL, if_neg h0, List.take_succ_cons, List.drop_succ_cons, textSize, ih]
    omega
theorem whereL_hit {l : List ByteArray} {s : ByteArray} {k : Nat} (h : Missed l s k) (hk : k < l.length) (e : l[k] = s) : whereL l s = textSize (l.take k) := by
  rw [whereL_missed l s k h, List.drop_eq_getElem_cons hk]
  simp [whereL, e]
theorem whereL_all {l : List ByteArray} {s : ByteArray} {k : Nat} (h : Missed l s k) (hk : ¬ k < l.length) : whereL l s = textSize l := by
  rw [whereL_missed l s k h, List.drop_eq_nil_of_le (by omega), List.take_of_length_le (by omega)]
  simp [whereL]
theorem whereL_le (l : List ByteArray) (s : ByteArray) : whereL l s ≤ textSize l := by
  induction l with
  | nil => simp [whereL]
  | cons x r ih => simp only [whereL, textSize]; split <;> omega

/-- A slice's cells are these texts. -/
def TRow (w : World) (B : Nat) (A : Option Addr) (l : List ByteArray) : Prop :=
  0 < l.length → ∃ g, A = some ⟨g, 0, none⟩ ∧ g < B ∧ ∀ k (h : k < l.length), w.cell? ⟨g, k, none⟩ = some (.string l[k])
theorem TRow.keep {w w' : World} {B : Nat} {A : Option Addr} {l : List ByteArray} (h : TRow w B A l) (hk : ∀ a : Addr, a.block < B → w'.cell? a = w.cell? a) : TRow w' B A l := fun h0 => by
  obtain ⟨g, e, hg, hc⟩ := h h0
  exact ⟨g, e, hg, fun k hk' => (hk _ hg).trans (hc k hk')⟩
theorem TRow.under {w w' : World} {B : Nat} {A : Option Addr} {l : List ByteArray} (h : TRow w B A l) (hb : Below B w w') : TRow w' B A l := h.keep fun _ hp => hb.cell hp
theorem TRow.more {w : World} {B B' : Nat} {A : Option Addr} {l : List ByteArray} (h : TRow w B A l) (hB : B ≤ B') : TRow w B' A l := fun h0 => by
  obtain ⟨g, e, hg, hc⟩ := h h0
  exact ⟨g, e, by omega, hc⟩
/-- A row that texts left. -/
theorem trow_of_own {w : World} {base : Nat} {v : Value} {l : List ByteArray} (h : w.ownsRow base 9 1 v l.length (strs l)) : ∃ A c, v = .slice A l.length c ∧ l.length ≤ c ∧ c ≤ 9223372036854775807 ∧ TRow w w.heap.size A l := by
  obtain ⟨A, c, h1, h2, h3, h4⟩ := own_slice h
  refine ⟨A, c, h1, h2, h3, fun h0 => ?_⟩
  obtain ⟨g, e, _, hg, hc⟩ := h4 h0
  exact ⟨g, e, hg, fun k hk => by rw [hc k hk, List.getElem?_map, List.getElem?_eq_getElem hk]; rfl⟩

end Go.Proofs.Ytijhjlpkbnajpaa

/-! The document's blob: a node's tokens. -/
namespace Go.Proofs.Ytijhjlpkbnajpaa
open Go.RowKit
set_option linter.unusedVariables false
set_option linter.unusedSimpArgs false

/-- A property's token. -/
def propT (l : List ByteArray) (p : PV) : List Int := [0, 0, 0, 3] ++ (four p.zs.length ++ (four (whereL l p.name) ++ padL p.zs))
mutual
/-- A node's tokens. -/
def nodeN (l : List ByteArray) : Nd → List Int
  | .mk nm _ _ ps _ _ ks => [0, 0, 0, 1] ++ padL (strB nm ++ [0]) ++ ps.flatMap (propT l) ++ nodeL l ks ++ [0, 0, 0, 2]
def nodeL (l : List ByteArray) : List Nd → List Int
  | [] => []
  | k :: r => nodeN l k ++ nodeL l r
end
theorem nodeL_append (l : List ByteArray) : ∀ a b : List Nd, nodeL l (a ++ b) = nodeL l a ++ nodeL l b
  | [], b => by simp [nodeL]
  | x :: a, b => by simp only [List.cons_append, nodeL, nodeL_append l a b, List.append_assoc]
theorem nodeL_next (l : List ByteArray) (ks : List Nd) (j : Nat) (h : j < ks.length) : nodeL l (ks.take (j + 1)) = nodeL l (ks.take j) ++ nodeN l ks[j] := by
  rw [take_next ks j h, nodeL_append]; simp [nodeL]
theorem props_next (l : List ByteArray) (ps : List PV) (j : Nat) (h : j < ps.length) : (ps.take (j + 1)).flatMap (propT l) = (ps.take j).flatMap (propT l) ++ propT l ps[j] := by
  rw [take_next ps j h, List.flatMap_append]; simp

/-- How heavy a node is: no less than its tokens, or its properties' names. -/
def heftP (p : PV) : Nat := 16 + p.name.size + p.zs.length
mutual
def heftN : Nd → Nat
  | .mk nm _ _ ps _ _ ks => 16 + nm.size + (ps.map heftP).sum + heftL ks
def heftL : List Nd → Nat
  | [] => 0
  | k :: r => heftN k + heftL r
end
theorem heftL_append : ∀ a b : List Nd, heftL (a ++ b) = heftL a + heftL b
  | [], b => by simp [heftL]
  | x :: a, b => by simp only [List.cons_append, heftL, heftL_append a b]; omega
theorem heftL_next (ks : List Nd) (j : Nat) (h : j < ks.length) : heftL (ks.take (j + 1)) = heftL (ks.take j) + heftN ks[j] := by
  rw [take_next ks j h, heftL_append]; simp [heftL]
theorem heftL_take (ks : List Nd) (j : Nat) : heftL (ks.take j) ≤ heftL ks := by
  conv => rhs; rw [← List.take_append_drop j ks, heftL_append]
  omega
theorem heftP_take (ps : List PV) (j : Nat) : ((ps.take j).map heftP).sum ≤ (ps.map heftP).sum := by
  conv => rhs; rw [← List.take_append_drop j ps, List.map_append, List.sum_append]
  omega
theorem heftP_next (ps : List PV) (j : Nat) (h : j < ps.length) : ((ps.take (j + 1)).map heftP).sum = ((ps.take j).map heftP).sum + heftP ps[j] := by
  rw [take_next ps j h, List.map_append, List.sum_append]; simp
theorem propT_length (l : List ByteArray) (p : PV) : (propT l p).length ≤ heftP p := by
  have h1 := padN_lt p.zs.length
  simp only [propT, List.length_append, padL_length, heftP, four, List.length_cons, List.length_nil]
  omega
theorem props_length (l : List ByteArray) : ∀ ps : List PV, (ps.flatMap (propT l)).length ≤ (ps.map heftP).sum
  | [] => by simp
  | p :: r => by
    have h1 := propT_length l p
    have h2 := props_length l r
    simp only [List.flatMap_cons, List.length_append, List.map_cons, List.sum_cons]
    omega
theorem nodeN_length (l : List ByteArray) : ∀ n : Nd, (nodeN l n).length ≤ heftN n := by
  refine Nd.ind ?_
  intro n ih
  obtain ⟨nm, pa, pc, ps, ka, kc, ks⟩ := n
  have hl : ∀ (r : List Nd), (∀ k ∈ r, k ∈ ks) → (nodeL l r).length ≤ heftL r := by
    intro r
    induction r with
    | nil => intro _; simp [nodeL]
    | cons k r ihr =>
      intro hr
      have h1 := ih k (hr k (by simp))
      have h2 := ihr (fun x hx => hr x (by simp [hx]))
      simp only [nodeL, heftL, List.length_append]
      omega
  have h1 := hl ks (fun _ h => h)
  have h2 := props_length l ps
  have h3 := padN_lt (strB nm ++ [0]).length
  simp only [nodeN, heftN, List.length_append, padL_length, List.length_cons, List.length_nil] at h3 ⊢
  rw [strB_length] at h3 ⊢
  omega
theorem nodeL_length (l : List ByteArray) : ∀ ks : List Nd, (nodeL l ks).length ≤ heftL ks
  | [] => by simp [nodeL]
  | k :: r => by
    have h1 := nodeN_length l k
    have h2 := nodeL_length l r
    simp only [nodeL, heftL, List.length_append]
    omega

/-- Behind a node's first statement. -/
def First (B : Nat) (W0 W : World) (nm : ByteArray) (v : Value) : Prop := Mid B W0 W v ([0, 0, 0, 1] ++ padL (strB nm ++ [0]))

end Go.Proofs.Ytijhjlpkbnajpaa
