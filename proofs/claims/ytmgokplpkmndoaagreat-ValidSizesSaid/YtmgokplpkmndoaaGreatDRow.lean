/-
  The document's blob, a node's first statement, whose operations come in several orders: what is known while some of them have come.
-/
import Derived.Test.YtmgokplpkmndoaaGreatDCell
import Derived.Lib.ConvBytes
import Derived.Deep.RegionHeld3
namespace Go.Proofs.YtmgokplpkmndoaaGreat
open Go.RowKit
set_option linter.unusedVariables false
set_option linter.unusedSimpArgs false

/-- A text's bytes. -/
def strB (s : ByteArray) : List Int := s.data.toList.map fun b => (b.toNat : Int)
theorem strB_length (s : ByteArray) : (strB s).length = s.size := by simp [strB]
theorem strB_byte (s : ByteArray) : ∀ z ∈ strB s, 0 ≤ z ∧ z < 256 := by
  intro z hz
  obtain ⟨b, _, rfl⟩ := List.mem_map.1 hz
  have := b.toNat_lt
  omega

/-- An empty row that the call has made. -/
def EmptyRow (W : World) (B : Nat) (u : Value) : Prop := ∃ g, u = .slice (some ⟨g, 0, none⟩) 0 0 ∧ W.ownsRow B 5 1 u 0 []
/-- The row that []byte(s) has made: it bears a mark. -/
def MarkRow (W : World) (B : Nat) (s : ByteArray) (u : Value) : Prop :=
  ∃ g cap cs, u = .slice (some ⟨g, 0, none⟩) s.size cap ∧ B ≤ g ∧ W.heap[g]? = some (.cells cs 5 (cs.size, cs.size + 1)) ∧ cs.size = cap ∧ s.size ≤ cap ∧ cap ≤ 9223372036854775807 ∧ cs.toList.take s.size = u8s (strB s)
/-- A small row, by its bytes. -/
def SmallRow (W : World) (n : Nat) (zs : List Int) (u : Value) : Prop := ∃ g, u = .slice (some ⟨g, 0, none⟩) n n ∧ Shows W W.heap.size (some ⟨g, 0, none⟩) n zs

section
variable {W W' : World} {B : Nat} {u : Value} {s : ByteArray} {n : Nat} {zs : List Int}
theorem EmptyRow.on (h : EmptyRow W B u) (hb : Below W.heap.size W W') : EmptyRow W' B u := by
  obtain ⟨g, rfl, h⟩ := h
  exact ⟨g, rfl, own_on h hb⟩
theorem MarkRow.on (h : MarkRow W B s u) (hb : Below W.heap.size W W') : MarkRow W' B s u := by
  obtain ⟨g, cap, cs, h1, h2, h3, h4⟩ := h
  exact ⟨g, cap, cs, h1, h2, (hb.block g (Array.getElem?_eq_some_iff.1 h3).1).trans h3, h4⟩
theorem SmallRow.on (h : SmallRow W n zs u) (hb : Below W.heap.size W W') : SmallRow W' n zs u := by
  obtain ⟨g, h1, h2⟩ := h
  exact ⟨g, h1, (h2.below hb).more hb.size⟩
theorem SmallRow.new (W : World) (zs : List Int) (n : Nat) (cs : Array Value) (hn : zs.length = n) (hz : ∀ z ∈ zs, 0 ≤ z ∧ z < 256) (hcs : cs = (u8s zs).toArray) (t : TypeId) : SmallRow (W.alloc (.cells cs t)) n zs (.slice (some ⟨W.heap.size, 0, none⟩) n n) :=
  ⟨_, rfl, (shows_lit W zs n cs hn hz hcs t).more (by simp)⟩
theorem EmptyRow.new (W : World) (hB : B ≤ W.heap.size) : EmptyRow (W.alloc (.cells #[] 5)) B (.slice (some ⟨W.heap.size, 0, none⟩) 0 0) :=
  ⟨_, rfl, World.ownsRow_made W #[] 0 hB (Nat.zero_le _) rfl⟩
end

/-- append onto an empty row: a new one. -/
theorem run_append_empty (W : World) (B : Nat) (u : Value) (h : EmptyRow W B u) (hB : B ≤ W.heap.size) (n : Nat) (zs : List Int) (x : Value) (hx : SmallRow W n zs x) (h0 : 0 < n) (hn : n ≤ 100) (ty : TypeId) :
    ∃ v' W', (Builtin.append_ #[97, 97] ty #[u, x]).run Tryz.prog W = .ok v' W' ∧ W'.ownsRow B 5 1 v' n (u8s zs) ∧ Below W.heap.size W W' := by
  obtain ⟨i0, hi0, hz0, hz1, hz2⟩ := info_parts info_u8
  obtain ⟨g, rfl, hown⟩ := h
  obtain ⟨g2, rfl, hsh⟩ := hx
  obtain ⟨b, o, e, _, hc⟩ := hsh.at_ h0
  obtain ⟨rfl, rfl⟩ : b = g2 ∧ o = 0 := by injection e with e; injection e with e1 e2; exact ⟨e1.symm, e2.symm⟩
  have hl := hsh.1
  have hr := run_append_grow (P := Tryz.prog) W 97 ty 5 i0 (.int .u8 0) Tryz.underlying97 hi0 hz0 ⟨g, 0, none⟩ 0 0 [] (by simp) (by simp) ⟨b, 0, none⟩ n n (u8s zs) (by simp [hz1, hl])
    (fun j u hu => by
      rw [List.getElem?_map] at hu
      have hj : j < zs.length := by
        rcases Nat.lt_or_ge j zs.length with h | h
        · exact h
        · rw [List.getElem?_eq_none h] at hu; cases hu
      rw [List.getElem?_eq_getElem hj] at hu
      have := hc j (by omega)
      rw [Nat.zero_add] at this
      rw [addr_add, Nat.zero_add, this, ← Option.some.inj hu]
      simp [List.getD, List.getElem?_eq_getElem hj]) (by omega) (by omega) (by rw [hz2]; exact growslice_fits (by omega) (by omega))
  have hge := grownCap_ge W (0 + n) 0 5
  have hcm : grownCap W (0 + n) 0 5 ≤ maxLen := grownCap_le_maxLen W (0 + n) 0 5 (by unfold maxLen; omega)
  refine ⟨_, _, hr, ?_, (Below.refl _ W).drew.alloc (by simp) _⟩
  rw [Nat.zero_add] at hge hcm ⊢
  refine ⟨by simp [hl], .inr ⟨W.heap.size, _, _, rfl, hB, heap_alloc_new W.drew _, hge, hcm, ?_, ?_⟩⟩
  · have hz1' : (Value.int IntKind.u8 0).cells.size = 1 := rfl
    simp only [Array.size_append, List.size_toArray, size_zeroCells, hz1', List.length_nil, List.length_map, hl]
    omega
  · simp [hl]

/-- []byte(s). -/
theorem run_bytes_marked (W : World) (B : Nat) (hB : B ≤ W.heap.size) (s : ByteArray) (hs : s.size ≤ 140737488351232) :
    ∃ v' W', (convert 9 97 (.string s)).run Tryz.prog W = .ok v' W' ∧ MarkRow W' B s v' ∧ Below W.heap.size W W' := by
  have hge := grownCap_ge W s.size 0 5
  have hcm : grownCap W s.size 0 5 ≤ maxLen := grownCap_le_maxLen W s.size 0 5 (by unfold maxLen; omega)
  have hsz : (Lib.bytesCells W 5 s).size = grownCap W s.size 0 5 := by
    simp only [Lib.bytesCells, Array.size_append, Array.size_map, Array.size_replicate]
    have : s.data.size = s.size := rfl
    omega
  refine ⟨_, _, Lib.run_convert_string_bytes W _ _ 5 s Tryz.underlying9 Tryz.underlying97 Tryz.underlying5, ⟨_, _, _, rfl, hB, Lib.bytesWorld_at_new W _ s, hsz, hge, hcm, ?_⟩, ⟨rfl, rfl, rfl, by rw [Lib.bytesWorld_size]; omega, fun i hi => Lib.bytesWorld_at_old W _ s i hi⟩⟩
  have hl : s.data.toList.length = s.size := by simp
  rw [← hl]
  simp only [Lib.bytesCells, Array.toList_append, Array.toList_map, u8s, strB, List.map_map]
  rw [List.take_append_of_le_length (by simp), List.take_of_length_le (by simp)]
  rfl

/-- append of one nought onto the row that []byte(s) has made. -/
theorem own_ne {W : World} {B n : Nat} {v : Value} {xs : List Value} {g : Nat} (h : W.ownsRow B 5 1 v n xs) (hg : ∀ cur t, W.heap[g]? ≠ some (.cells cur t (0, 0))) : v.ownBlock = none ∨ v.ownBlock ≠ some g := by
  rcases h.2 with ⟨rfl, _⟩ | ⟨g', cap, cur, rfl, _, hh, _⟩
  · exact .inl rfl
  · refine .inr fun e => ?_
    have e' : g' = g := by simpa [Value.ownBlock] using e
    subst e'
    exact hg _ _ hh
theorem run_append_marked (W : World) (B : Nat) (s : ByteArray) (u : Value) (h : MarkRow W B s u) (hB : B ≤ W.heap.size) (hs : s.size ≤ 140737488351200) (x : Value) (hx : SmallRow W 1 [0] x) (ty : TypeId) :
    ∃ A c g W', (Builtin.append_ #[97, 97] ty #[u, x]).run Tryz.prog W = .ok (.slice A (s.size + 1) c) W' ∧ Shows W' W'.heap.size A (s.size + 1) (strB s ++ [0]) ∧ W.grownBy W' (some g) ∧ B ≤ g ∧ (∀ cur t, W.heap[g]? ≠ some (.cells cur t (0, 0))) := by
  obtain ⟨i0, hi0, hz0, hz1, hz2⟩ := info_parts info_u8
  obtain ⟨g, cap, cs, rfl, hg0, hg, hcs, hsc, hcm, htk⟩ := h
  obtain ⟨g2, rfl, hsh⟩ := hx
  obtain ⟨b, o, e, _, hc⟩ := hsh.at_ (by omega)
  obtain ⟨rfl, rfl⟩ : b = g2 ∧ o = 0 := by injection e with e; injection e with e1 e2; exact ⟨e1.symm, e2.symm⟩
  have hc0 : W.cell? ⟨b, 0, none⟩ = some (.int .u8 0) := by simpa using hc 0 (by omega)
  have hne : ∀ cur t, W.heap[g]? ≠ some (.cells cur t (0, 0)) := fun cur t e => by rw [hg] at e; injection e with e; injection e with _ _ e; injection e with _ e; omega
  have hz : ∀ z ∈ strB s ++ [0], 0 ≤ z ∧ z < 256 := fun z hz => by
    rcases List.mem_append.1 hz with h | h
    · exact strB_byte s z h
    · simp at h; subst h; omega
  have hlz : (strB s ++ [0]).length = s.size + 1 := by simp [strB_length]
  have cell : ∀ i, i < s.size → W.cell? ⟨g, i, none⟩ = some (.int .u8 ((strB s).getD i 0)) := fun i hi => by
    have e : W.cell? ⟨g, i, none⟩ = cs[i]? := by simp [World.cell?, hg]
    have h1 : (u8s (strB s))[i]? = cs[i]? := by rw [← htk, List.getElem?_take_of_lt hi, Array.getElem?_toList]
    rw [e, ← h1, List.getElem?_map]
    have hi' : i < (strB s).length := by rw [strB_length]; exact hi
    simp [List.getD, List.getElem?_eq_getElem hi']
  by_cases hroom : s.size + 1 ≤ cap
  · have hcn : W.cell? ⟨g, s.size, none⟩ = some cs[s.size] := by simp [World.cell?, hg, show s.size < cs.size by omega]
    have hfn : W.frozen? ⟨g, s.size, none⟩ = false := by
      simp only [World.frozen?, hg, Bool.and_eq_false_iff, decide_eq_false_iff_not]
      left
      omega
    have hst : (store (⟨g, s.size, none⟩ : Addr) (.int .u8 0)).run Tryz.prog W = .ok () (W.setCell ⟨g, s.size, none⟩ (.int .u8 0)) := by
      rw [run_store Tryz.prog W _ (.int .u8 0) _ rfl, hcn]
      simp [stored, hcn, hfn]
    have hfc := run_firstCells_some (P := Tryz.prog) W 1 1 ⟨b, 0, none⟩ 1 1 [.int .u8 0] rfl (fun j u hj => by
      match j, hj with
      | 0, hj => simp at hj; subst hj; rw [addr_add]; exact hc0)
    refine ⟨some ⟨g, 0, none⟩, cap, g, W.setCell ⟨g, s.size, none⟩ (.int .u8 0), ?_, ⟨hlz, hz, fun _ => ⟨g, 0, rfl, ?_, fun i hi => ?_⟩⟩, ?_, hg0, hne⟩
    · simp [Builtin.append_, run_underlying Tryz.underlying97, sizeOf, typeInfo, hi0, hz1, Builtin.lenOf, hroom, hfc, storeCells, addr_add, hst]
    · simp [World.setCell]; exact (Array.getElem?_eq_some_iff.1 hg).1
    · rw [Nat.zero_add]
      rcases Nat.lt_or_ge i s.size with h | h
      · rw [World.cell?_setCell_other _ _ _ _ (by intro e; injection e with _ e; omega), cell i h]
        have hi' : i < (strB s).length := by rw [strB_length]; exact h
        simp [List.getD, List.getElem?_append_left hi']
      · obtain rfl : i = s.size := by omega
        rw [World.cell?_setCell_same _ _ _ hcn]
        simp [List.getD, strB_length]
    · exact ⟨rfl, rfl, rfl, by simp [World.setCell], fun i hi hne' => Below.heap_setCell W ⟨g, s.size, none⟩ (.int .u8 0) i (fun e => hne' (by rw [e]))⟩
  · have hr := run_append_grow (P := Tryz.prog) W 97 ty 5 i0 (.int .u8 0) Tryz.underlying97 hi0 hz0 ⟨g, 0, none⟩ s.size cap (u8s (strB s)) (by simp [hz1, strB_length])
      (fun j u hu => by
        rw [List.getElem?_map] at hu
        have hj : j < (strB s).length := by
          rcases Nat.lt_or_ge j (strB s).length with h | h
          · exact h
          · rw [List.getElem?_eq_none h] at hu; cases hu
        rw [List.getElem?_eq_getElem hj] at hu
        have := cell j (by rw [← strB_length]; exact hj)
        rw [addr_add, Nat.zero_add, this, ← Option.some.inj hu]
        simp [List.getD, List.getElem?_eq_getElem hj])
      ⟨b, 0, none⟩ 1 1 [.int .u8 0] (by simp [hz1]) (fun j u hj => by
        match j, hj with
        | 0, hj => simp at hj; subst hj; rw [addr_add]; exact hc0) (by omega) (by omega) (by rw [hz2]; exact growslice_fits (by omega) (by omega))
    have hge := grownCap_ge W (s.size + 1) cap 5
    refine ⟨_, _, g, _, hr, ⟨hlz, hz, fun _ => ⟨W.heap.size, 0, rfl, by simp, fun i hi => ?_⟩⟩, ⟨rfl, rfl, rfl, by simp, fun i hi _ => heap_alloc_old W.drew _ hi⟩, hg0, hne⟩
    rw [Nat.zero_add, cell_of_row _ W.heap.size i _ 5 (0, 0) (heap_alloc_new W.drew _)]
    have hi' : i < (strB s ++ [0]).length := by omega
    have e : ((u8s (strB s)).toArray ++ [Value.int IntKind.u8 0].toArray) = (u8s (strB s ++ [0])).toArray := by simp
    rw [e, Array.getElem?_append_left (by simp [strB_length]; omega)]
    have e2 : (u8s (strB s ++ [0]))[i]? = some (.int .u8 ((strB s ++ [0])[i])) := by rw [List.getElem?_map, List.getElem?_eq_getElem hi']; rfl
    rw [List.getElem?_toArray, e2]
    simp [List.getD, List.getElem?_eq_getElem hi']

/-- What is known while some of a node's first operations have come: b0, b2, b3, b4, b7, b8: whether the empty row, it again, the token's row, the token appended, the name's row, the nought's row, are there. -/
structure NF (W0 W : World) (B : Nat) (nm : ByteArray) (b0 b2 b3 b4 b7 b8 : Bool) (u19 u21 u22 u23 u26 u27 : Value) : Prop where
  below : Below B W0 W
  size : B ≤ W.heap.size
  i20 : b2 = true → b0 = true
  i42 : b4 = true → b2 = true
  i43 : b4 = true → b3 = true
  f0 : b0 = true → EmptyRow W B u19
  f2 : b2 = true → EmptyRow W B u21
  f3 : b3 = true → SmallRow W 4 [0, 0, 0, 1] u22
  f4 : b4 = true → W.ownsRow B 5 1 u23 4 (u8s [0, 0, 0, 1])
  f7 : b7 = true → MarkRow W B nm u26
  f8 : b8 = true → SmallRow W 1 [0] u27

section
variable {W0 W W' : World} {B : Nat} {nm : ByteArray} {b0 b2 b3 b4 b7 b8 : Bool} {u19 u21 u22 u23 u26 u27 : Value}
theorem NF.on (h : NF W0 W B nm b0 b2 b3 b4 b7 b8 u19 u21 u22 u23 u26 u27) (hb : Below W.heap.size W W') : NF W0 W' B nm b0 b2 b3 b4 b7 b8 u19 u21 u22 u23 u26 u27 :=
  ⟨h.below.trans (hb.mono h.size), Nat.le_trans h.size hb.size, h.i20, h.i42, h.i43, fun e => (h.f0 e).on hb, fun e => (h.f2 e).on hb, fun e => (h.f3 e).on hb, fun e => own_on (h.f4 e) hb, fun e => (h.f7 e).on hb, fun e => (h.f8 e).on hb⟩
theorem NF.start (hb : Below B W0 W) (hs : B ≤ W.heap.size) : NF W0 W B nm false false false false false false u19 u21 u22 u23 u26 u27 :=
  ⟨hb, hs, (fun h => by cases h), (fun h => by cases h), (fun h => by cases h), (fun h => by cases h), (fun h => by cases h), (fun h => by cases h), (fun h => by cases h), (fun h => by cases h), (fun h => by cases h)⟩
theorem NF.op0 (h : NF W0 W B nm false b2 b3 b4 b7 b8 u19 u21 u22 u23 u26 u27) : NF W0 (W.alloc (.cells #[] 5)) B nm true b2 b3 b4 b7 b8 (.slice (some ⟨W.heap.size, 0, none⟩) 0 0) u21 u22 u23 u26 u27 := by
  have k := h.on ((Below.refl _ W).alloc (Nat.le_refl _) (.cells #[] 5))
  exact ⟨k.below, k.size, fun _ => rfl, k.i42, k.i43, fun _ => EmptyRow.new W h.size, k.f2, k.f3, k.f4, k.f7, k.f8⟩
theorem NF.op2 (h : NF W0 W B nm true false b3 b4 b7 b8 u19 u21 u22 u23 u26 u27) : NF W0 W B nm true true b3 b4 b7 b8 u19 u19 u22 u23 u26 u27 :=
  ⟨h.below, h.size, fun _ => rfl, fun _ => rfl, h.i43, h.f0, fun _ => h.f0 rfl, h.f3, h.f4, h.f7, h.f8⟩
theorem NF.op3 (h : NF W0 W B nm b0 b2 false b4 b7 b8 u19 u21 u22 u23 u26 u27) : NF W0 (W.alloc (.cells #[.int .u8 0, .int .u8 0, .int .u8 0, .int .u8 1] 5)) B nm b0 b2 true b4 b7 b8 u19 u21 (.slice (some ⟨W.heap.size, 0, none⟩) 4 4) u23 u26 u27 := by
  have k := h.on ((Below.refl _ W).alloc (Nat.le_refl _) (.cells #[.int .u8 0, .int .u8 0, .int .u8 0, .int .u8 1] 5))
  exact ⟨k.below, k.size, k.i20, k.i42, fun _ => rfl, k.f0, k.f2, fun _ => SmallRow.new W [0, 0, 0, 1] 4 _ rfl (by simp) rfl _, k.f4, k.f7, k.f8⟩
theorem NF.op4 (h : NF W0 W B nm b0 true true false b7 b8 u19 u21 u22 u23 u26 u27) (ty : TypeId) : ∃ v' W', (Builtin.append_ #[97, 97] ty #[u21, u22]).run Tryz.prog W = .ok v' W' ∧ NF W0 W' B nm b0 true true true b7 b8 u19 u21 u22 v' u26 u27 := by
  obtain ⟨v', W', h1, h2, h3⟩ := run_append_empty W B u21 (h.f2 rfl) h.size 4 [0, 0, 0, 1] u22 (h.f3 rfl) (by omega) (by omega) ty
  have k := h.on h3
  exact ⟨v', W', h1, k.below, k.size, k.i20, fun _ => rfl, fun _ => rfl, k.f0, k.f2, k.f3, fun _ => h2, k.f7, k.f8⟩
theorem NF.op7 (h : NF W0 W B nm b0 b2 b3 b4 false b8 u19 u21 u22 u23 u26 u27) (hs : nm.size ≤ 140737488351232) : ∃ v' W', (convert 9 97 (.string nm)).run Tryz.prog W = .ok v' W' ∧ NF W0 W' B nm b0 b2 b3 b4 true b8 u19 u21 u22 u23 v' u27 := by
  obtain ⟨v', W', h1, h2, h3⟩ := run_bytes_marked W B h.size nm hs
  have k := h.on h3
  exact ⟨v', W', h1, k.below, k.size, k.i20, k.i42, k.i43, k.f0, k.f2, k.f3, k.f4, fun _ => h2, k.f8⟩
theorem NF.op8 (h : NF W0 W B nm b0 b2 b3 b4 b7 false u19 u21 u22 u23 u26 u27) : NF W0 (W.alloc (.cells #[.int .u8 0] 5)) B nm b0 b2 b3 b4 b7 true u19 u21 u22 u23 u26 (.slice (some ⟨W.heap.size, 0, none⟩) 1 1) := by
  have k := h.on ((Below.refl _ W).alloc (Nat.le_refl _) (.cells #[.int .u8 0] 5))
  exact ⟨k.below, k.size, k.i20, k.i42, k.i43, k.f0, k.f2, k.f3, k.f4, k.f7, fun _ => SmallRow.new W [0] 1 _ rfl (by simp) rfl _⟩
/-- append of nil onto the empty row: the same. -/
theorem run_append_nil0 (W : World) (u : Value) (h : EmptyRow W B u) (ty : TypeId) : (Builtin.append_ #[97, 97] ty #[u, .slice none 0 0]).run Tryz.prog W = .ok u W := by
  obtain ⟨i0, hi0, hz0, hz1, hz2⟩ := info_parts info_u8
  obtain ⟨g, rfl, _⟩ := h
  simp [Builtin.append_, run_underlying Tryz.underlying97, sizeOf, typeInfo, hi0, Builtin.lenOf, Builtin.firstCells, storeCells]
end

section
variable {P : Program} {ops : Array Oper} {Q : Exit → Act → World → Prop} {S : World → Prop}
/-- Operations that come in whatever order: what is known is kept by each that may come. -/
theorem phase (I : Act → Nat → Array Bool → Act → World → Prop) {a0 : Act} : ∀ {fuel : Nat} {L : Array Bool} {a : Act} {w : World}, I a0 fuel L a w →
    (∀ n L a w, I a0 n L a w → (∀ m, m < n → ∀ L' a' w', I a0 m L' a' w' → wpAnyH P .any ops Q S m L' a' w') → wpAnyH P .any ops Q S n L a w) → wpAnyH P .any ops Q S fuel L a w := by
  intro fuel
  induction fuel using Nat.strongRecOn with
  | _ n ih =>
    intro L a w h hstep
    exact hstep n L a w h (fun m hm L' a' w' h' => ih m hm h' hstep)
theorem phase0 (I : Act → Nat → Array Bool → Act → World → Prop) {a0 : Act} {fuel : Nat} {L : Array Bool} {w : World} (h : I a0 fuel L a0 w)
    (hs : ∀ n L a w, I a0 n L a w → (∀ m, m < n → ∀ L' a' w', I a0 m L' a' w' → wpAnyH P .any ops Q S m L' a' w') → wpAnyH P .any ops Q S n L a w) : wpAnyH P .any ops Q S fuel L a0 w := phase I h hs
theorem any_step {n : Nat} {L : Array Bool} {a : Act} {w : World} (hne : Region.ready .any ops L ≠ []) (h : ∀ i ∈ Region.ready .any ops L, wpOp P ops Q i (fun a' w' => S w' ∧ wpAnyH P .any ops Q S n (L.setIfInBounds i true) a' w') a w) : wpAnyH P .any ops Q S (n + 1) L a w :=
  ⟨fun h0 => absurd h0 hne, h⟩
/-- One operation, by its number. -/
theorem one_op {l : List Oper} {n i : Nat} {o : Oper} {L : Array Bool} {a : Act} {w : World} (ho : l[i]? = some o) (hg : Region.wanted o (yielded l.toArray a.tmps) = true)
    (h : ∀ K : Act → World → Prop, Shut (∀ a w, S w → (S w → wpAnyH P .any l.toArray Q S n (L.setIfInBounds i true) a w) → K a w) → Oper.wp P o a w K Q) : wpOp P l.toArray Q i (fun a' w' => S w' ∧ wpAnyH P .any l.toArray Q S n (L.setIfInBounds i true) a' w') a w :=
  AllReadyH.cons (by simpa using ho) (fun K hK => by rw [if_pos hg]; exact h K hK) AllReadyH.nil i (List.mem_singleton.2 rfl)
/-- What an operation that is ready waits for has come. -/
theorem came {l : List Oper} {i j : Nat} {o : Oper} {L : Array Bool} {g : Ground} (ho : l[i]? = some o) (hi : i ∈ Region.ready .any l.toArray L) (he : { on := j, ground := g } ∈ o.after) (hb : Region.binds .any { on := j, ground := g } = true) : L.getD j false = true := by
  obtain ⟨_, o', ho', h⟩ := mem_ready.1 hi
  rw [List.getElem?_toArray, ho] at ho'
  injection ho' with e
  subst e
  exact h _ he hb
theorem not_come {i : Nat} {L : Array Bool} (hi : i ∈ Region.ready .any ops L) : L.getD i true = false := (mem_ready.1 hi).1
theorem ready_ne {l : List Nat} (h : l.isEmpty = false) : l ≠ [] := by
  rintro rfl
  cases h
theorem ready_lt {i : Nat} {L : Array Bool} (hi : i ∈ Region.ready .any ops L) : i < ops.size := by
  obtain ⟨_, o, ho, _⟩ := mem_ready.1 hi
  exact (Array.getElem?_eq_some_iff.1 ho).1
end

/-- A frame in which six temporaries have come. -/
def Six (a : Act) (u19 u21 u22 u23 u26 u27 : Value) : Act := (((((a.put (some 19) u19).put (some 21) u21).put (some 22) u22).put (some 23) u23).put (some 26) u26).put (some 27) u27
section
variable (a : Act) (u19 u21 u22 u23 u26 u27 v : Value)
theorem put_put (t : Nat) (x : Value) : (a.put (some t) x).put (some t) v = a.put (some t) v := by simp [Act.put]
theorem put_swap (t t' : Nat) (x : Value) (h : t ≠ t') : (a.put (some t) x).put (some t') v = (a.put (some t') v).put (some t) x :=
  Act.put_comm a x v (fun d e e' => by injection e with e; injection e' with e'; exact h (e.trans e'.symm))
theorem six19 : (Six a u19 u21 u22 u23 u26 u27).put (some 19) v = Six a v u21 u22 u23 u26 u27 := by
  unfold Six
  rw [put_swap _ _ 27 19 _ (by decide), put_swap _ _ 26 19 _ (by decide), put_swap _ _ 23 19 _ (by decide), put_swap _ _ 22 19 _ (by decide), put_swap _ _ 21 19 _ (by decide), put_put]
theorem six21 : (Six a u19 u21 u22 u23 u26 u27).put (some 21) v = Six a u19 v u22 u23 u26 u27 := by
  unfold Six
  rw [put_swap _ _ 27 21 _ (by decide), put_swap _ _ 26 21 _ (by decide), put_swap _ _ 23 21 _ (by decide), put_swap _ _ 22 21 _ (by decide), put_put]
theorem six22 : (Six a u19 u21 u22 u23 u26 u27).put (some 22) v = Six a u19 u21 v u23 u26 u27 := by
  unfold Six
  rw [put_swap _ _ 27 22 _ (by decide), put_swap _ _ 26 22 _ (by decide), put_swap _ _ 23 22 _ (by decide), put_put]
theorem six23 : (Six a u19 u21 u22 u23 u26 u27).put (some 23) v = Six a u19 u21 u22 v u26 u27 := by
  unfold Six
  rw [put_swap _ _ 27 23 _ (by decide), put_swap _ _ 26 23 _ (by decide), put_put]
theorem six26 : (Six a u19 u21 u22 u23 u26 u27).put (some 26) v = Six a u19 u21 u22 u23 v u27 := by
  unfold Six
  rw [put_swap _ _ 27 26 _ (by decide), put_put]
theorem six27 : (Six a u19 u21 u22 u23 u26 u27).put (some 27) v = Six a u19 u21 u22 u23 u26 v := by
  unfold Six
  rw [put_put]
theorem six_at19 (h : 19 < a.tmps.size) : (Six a u19 u21 u22 u23 u26 u27).eval (.tmp 19) = u19 := by
  simp [Six, Act.put, Act.eval, h]
theorem six_at21 (h : 21 < a.tmps.size) : (Six a u19 u21 u22 u23 u26 u27).eval (.tmp 21) = u21 := by
  simp [Six, Act.put, Act.eval, h]
theorem six_at22 (h : 22 < a.tmps.size) : (Six a u19 u21 u22 u23 u26 u27).eval (.tmp 22) = u22 := by
  simp [Six, Act.put, Act.eval, h]
theorem six_at23 (h : 23 < a.tmps.size) : (Six a u19 u21 u22 u23 u26 u27).eval (.tmp 23) = u23 := by
  simp [Six, Act.put, Act.eval, h]
theorem six_at26 (h : 26 < a.tmps.size) : (Six a u19 u21 u22 u23 u26 u27).eval (.tmp 26) = u26 := by
  simp [Six, Act.put, Act.eval, h]
theorem six_at27 (h : 27 < a.tmps.size) : (Six a u19 u21 u22 u23 u26 u27).eval (.tmp 27) = u27 := by
  simp [Six, Act.put, Act.eval, h]
theorem six_far (t : Nat) (h19 : t ≠ 19) (h21 : t ≠ 21) (h22 : t ≠ 22) (h23 : t ≠ 23) (h26 : t ≠ 26) (h27 : t ≠ 27) : (Six a u19 u21 u22 u23 u26 u27).eval (.tmp t) = a.eval (.tmp t) := by
  simp [Six, Act.put, Act.eval, Array.getElem?_setIfInBounds_ne, Ne.symm h19, Ne.symm h21, Ne.symm h22, Ne.symm h23, Ne.symm h26, Ne.symm h27]
end
theorem wp_run {P : Program} {o : Oper} {a : Act} {w w' : World} {v : Value} {K : Act → World → Prop} {Q : Exit → Act → World → Prop} (h : (execOp a.eval o).run P w = .ok (.value v) w') (hK : K (a.put o.dst v) w') : Oper.wp P o a w K Q := by
  unfold Oper.wp
  rw [h]
  exact hK
theorem conv_run {P : Program} {a : Act} {w w' : World} {x v : Value} {x0 : Operand} {t t' : TypeId} {d : Option Tmp} {ty : TypeId} {pos : String} {af : Array Edge} {gd : Option (Nat × Bool)} (hx : a.eval x0 = x) (h : (convert t t' x).run P w = .ok v w') : (execOp a.eval { dst := d, op := Op.convert t t' x0, type := ty, pos := pos, after := af, guard := gd }).run P w = .ok (.value v) w' := by
  unfold execOp
  simp only [hx, Sem.run_bind, h, Result.andThen_ok, Sem.run_pure]

theorem own_base {w : World} {b b' : Nat} {e : TypeId} {sz : Nat} {v : Value} {n : Nat} {xs : List Value} (h : w.ownsRow b e sz v n xs) (hb : b' ≤ b) : w.ownsRow b' e sz v n xs := by
  refine ⟨h.1, ?_⟩
  rcases h.2 with h | ⟨g, cap, cur, h1, h2, h3⟩
  · exact .inl h
  · exact .inr ⟨g, cap, cur, h1, Nat.le_trans hb h2, h3⟩

/-- While bytes are put behind bytes: the row is the call's own, and what was there is as it was. -/
def Mid (B : Nat) (W0 W : World) (v : Value) (zs : List Int) : Prop := W.ownsRow B 5 1 v zs.length (u8s zs) ∧ Below B W0 W ∧ B ≤ W.heap.size ∧ ∀ z ∈ zs, 0 ≤ z ∧ z < 256
theorem Mid.on {B : Nat} {W0 W W' : World} {v : Value} {zs : List Int} (h : Mid B W0 W v zs) (hb : Below W.heap.size W W') : Mid B W0 W' v zs :=
  ⟨own_on h.1 hb, h.2.1.trans (hb.mono h.2.2.1), Nat.le_trans h.2.2.1 hb.size, h.2.2.2⟩
theorem Mid.drew {B : Nat} {W0 W : World} {v : Value} {zs : List Int} (h : Mid B W0 W v zs) : Mid B W0 W.drew v zs := ⟨h.1, h.2.1.drew, h.2.2⟩
/-- A block of another kind than bytes. -/
def Other (W : World) (g : Nat) (cs : Array Value) (t : TypeId) : Prop := t ≠ 5 ∧ W.heap[g]? = some (.cells cs t (0, 0))
theorem Other.on {W W' : World} {g : Nat} {cs : Array Value} {t : TypeId} (h : Other W g cs t) (hb : Below W.heap.size W W') : Other W' g cs t := ⟨h.1, (hb.block g (Array.getElem?_eq_some_iff.1 h.2).1).trans h.2⟩
theorem Other.new (W : World) (cs : Array Value) (t : TypeId) (ht : t ≠ 5) : Other (W.alloc (.cells cs t)) W.heap.size cs t := ⟨ht, heap_alloc_new W _⟩
theorem Other.cell {W : World} {g : Nat} {cs : Array Value} {t : TypeId} (h : Other W g cs t) (i : Nat) : W.cell? ⟨g, i, none⟩ = cs[i]? := cell_of_row W g i cs t (0, 0) h.2
theorem Other.ne {W : World} {g B n : Nat} {cs : Array Value} {t : TypeId} {v : Value} {xs : List Value} (h : Other W g cs t) (ho : W.ownsRow B 5 1 v n xs) : some g ≠ v.ownBlock := by
  rcases ho.2 with ⟨rfl, _⟩ | ⟨g', cap, cur, rfl, _, hh, _⟩
  · intro e; cases e
  · intro e
    have e' : g = g' := by simpa [Value.ownBlock] using e
    subst e'
    rw [h.2] at hh
    injection hh with hh
    injection hh with _ ht
    exact h.1 ht
theorem Mid.append {B : Nat} {W0 W : World} {v : Value} {zs : List Int} (h : Mid B W0 W v zs) {B' m : Nat} {A : Option Addr} {ys : List Int} (c : Nat) (hs : Shows W B' A m ys) (hbig : zs.length + ys.length ≤ 140737488351232) (ty : TypeId) :
    ∃ v' W', (Builtin.append_ #[97, 97] ty #[v, .slice A m c]).run Tryz.prog W = .ok v' W' ∧ Mid B W0 W' v' (zs ++ ys) ∧ (∀ g cs t, Other W g cs t → Other W' g cs t) := by
  obtain ⟨i0, hi0, hz0, hz1, hz2⟩ := info_parts info_u8
  obtain ⟨v', W', h1, h2, h3, _⟩ := run_append_shown W i0 hi0 hz0 hz1 hz2 B v _ _ h.1 B' A m c ys hs (by rw [← hs.1]; exact hbig) h.2.2.1 ty
  have hb := h.2.1.grown h3 h.2.2.1 (fun q hq => (h.1.lt q hq).1)
  have hsz : B ≤ W'.heap.size := Nat.le_trans h.2.2.1 h3.size
  refine ⟨v', W', h1, ⟨?_, hb, hsz, fun z hz => (List.mem_append.1 hz).elim (h.2.2.2 z) (hs.2.1 z)⟩, fun g cs t ho => ⟨ho.1, (h3.block g (Array.getElem?_eq_some_iff.1 ho.2).1 (ho.ne h.1)).trans ho.2⟩⟩
  rw [List.length_append, hs.1, u8s, List.map_append]
  exact h2
/-- Four bytes in a new block. -/
theorem four_new (W : World) (a b c d : Int) (h : ∀ z ∈ [a, b, c, d], 0 ≤ z ∧ z < 256) : Shows (W.alloc (.cells #[.int .u8 a, .int .u8 b, .int .u8 c, .int .u8 d] 5)) (W.heap.size + 1) (some ⟨W.heap.size, 0, none⟩) 4 [a, b, c, d] :=
  shows_lit W [a, b, c, d] 4 _ rfl h rfl _
end Go.Proofs.YtmgokplpkmndoaaGreat
