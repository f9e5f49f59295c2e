/-
  Layer 11: the program's find: what is at a path below a spot.
-/
import Derived.Test.YtihlpcbebpnmkaaGreatDoorZText
namespace Go.Proofs.YtihlpcbebpnmkaaGreatDoor
open Go.RowKit
set_option linter.unusedVariables false
set_option linter.unusedSimpArgs false
attribute [local go_sem ↓] Go.wp_at_zero Go.wp_at_succ

theorem spot_box {V : World} {g : Nat} {a0 a1 : Value} {T : TypeId} (h : V.heap[g]? = some (.cells #[a0, a1] T (0, 0))) : V.cell? ⟨g, 0, none⟩ = some a0 ∧ V.cell? ⟨g, 1, none⟩ = some a1 ∧ V.frozen? ⟨g, 0, none⟩ = false ∧ V.frozen? ⟨g, 1, none⟩ = false := by
  refine ⟨?_, ?_, Lib.frozen_of_heap h 0, Lib.frozen_of_heap h 1⟩ <;> (rw [Lib.cell_of_heap h]; rfl)
theorem box2 {V : World} {g : Nat} {a0 a1 : Value} {T : TypeId} (h : V.heap[g]? = some (.cells #[a0, a1] T (0, 0))) (v0 v1 : Value) (Wf : World) (hW : (V.setCell ⟨g, 0, none⟩ v0).setCell ⟨g, 1, none⟩ v1 = Wf) :
    (Wf.cell? ⟨g, 0, none⟩ = some v0 ∧ Wf.cell? ⟨g, 1, none⟩ = some v1) ∧ Chg (fun q => q = g) V Wf ∧ Wf.heap[g]? = some (.cells #[v0, v1] T (0, 0)) := by
  have hb := heap_setCell_same _ g 1 _ _ v1 (heap_setCell_same _ g 0 _ _ v0 h)
  rw [hW] at hb
  replace hb : Wf.heap[g]? = some (.cells #[v0, v1] T (0, 0)) := hb
  refine ⟨⟨(spot_box hb).1, (spot_box hb).2.1⟩, ?_, hb⟩
  rw [← hW]
  exact ((Chg.refl (fun q => q = g) V).setCell (a := ⟨g, 0, none⟩) (.inl rfl) v0).setCell (a := ⟨g, 1, none⟩) (.inl rfl) v1
theorem trim_len (s : ByteArray) (p : List UInt8) : (⟨(Lib.trimPrefix s.data.toList p).toArray⟩ : ByteArray).size ≤ s.size := by
  show (Lib.trimPrefix s.data.toList p).toArray.size ≤ s.data.size
  rw [List.size_toArray]
  unfold Lib.trimPrefix
  split
  · rw [List.length_drop, Array.length_toList]; omega
  · rw [Array.length_toList]; omega

set_option maxRecDepth 20000 in
set_option maxHeartbeats 8000000 in
theorem find11_any (P : Value → Prop) (TV TK : Nat → Prop) (a b : Option Nat) (s : ByteArray) (w : World) (hs : Spots w P TV TK) (ha : ∀ g, a = some g → TV g) (hb : ∀ g, b = some g → TK g) (hz : s.size ≤ 268435456) :
    Calls Tryz.prog 93 #[.agg #[.map a, .map b], .string s] w fun e w' => (∃ (v : Value) (r : Bool), e = .returned (.tuple #[v, .bool r]) ∧ SpV TV TK v) ∧ Below w.heap.size w w' := by
  have HS := Lib.hid hs
  have HAB : Hid (SpV TV TK (.agg #[.map a, .map b])) := Lib.hid ⟨a, b, rfl, ha, hb⟩
  have HBK := Lib.hid hb
  have CC := Lib.hid (fun W => Go.Proofs.Tryz.strings_CutPrefix s ⟨#[47]⟩ W)
  obtain ⟨S1, hS1⟩ : ∃ S1 : ByteArray, S1 = ⟨(Lib.trimPrefix s.data.toList [47]).toArray⟩ := ⟨_, rfl⟩
  have hS1z : S1.size ≤ 268435456 := by rw [hS1]; have := trim_len s [47]; omega
  obtain ⟨r, hr⟩ : ∃ r, Lib.hasPrefix s.data.toList [47] = r := ⟨_, rfl⟩
  replace CC : Hid (∀ W : World, Calls Tryz.prog 117 #[.string s, .string ⟨#[47]⟩] W fun e w' => e = .returned (.tuple #[.string S1, .bool r]) ∧ w' = W) := Lib.hid (fun W => by rw [hS1, ← hr]; exact CC.out W)
  obtain ⟨l, l1, l2, l3, _, l4⟩ := split_any 47 S1 hS1z
  have CSP := Lib.hid l4
  have HLS : Hid (∀ x ∈ l, x.size ≤ 140737488351232) := Lib.hid (fun x hx => by have := l3 x hx; omega)
  obtain ⟨N, hN⟩ : ∃ N, l.length = N := ⟨_, rfl⟩
  have HN := Lib.hid hN
  rw [hN] at CSP l1 l2
  have hN2 : N ≤ 268435457 := by omega
  clear hs ha hb hz hS1 hr l3 l4 hN l2 hS1z
  obtain ⟨W0, hW0⟩ : ∃ W0, ((w.alloc (.cells #[.map a, .map b] 87)).alloc (.cells #[.map none, .map none] 87)) = W0 := ⟨_, rfl⟩
  have HB0 : Hid (Below w.heap.size w W0) := Lib.hid (by rw [← hW0]; exact ((Below.refl w.heap.size w).alloc (Nat.le_refl _) _).alloc (by simp) _)
  have HX0 : Hid (W0.heap[w.heap.size]? = some (.cells #[.map a, .map b] 87 (0, 0)) ∧ W0.heap[w.heap.size + 1]? = some (.cells #[.map none, .map none] 87 (0, 0))) := Lib.hid (by rw [← hW0]; exact ⟨heap_alloc2_old _ _ _, heap_alloc2_new _ _ _⟩)
  have HS0 : Hid (W0.heap.size = w.heap.size + 2) := Lib.hid (by rw [← hW0]; simp)
  have HNIL := Lib.hid (SpV.nil TV TK)
  go_enter Tryz.func93, Tryz.ntmps93
  go_wp2_with fail
  try rw [hW0]
  clear hW0
  refine (CC.out W0).mono ?_
  rintro e w' ⟨rfl, rfl⟩
  cases r
  · obtain ⟨z0, z1, f0, f1⟩ := spot_box HX0.out.2
    go_wp2_with fail
    clear z0 z1 f0 f1
    obtain ⟨⟨d0, d1⟩, hch, _⟩ := box2 HX0.out.2 (.map none) (.map none) _ rfl
    refine bodyPost_ret (v := .tuple #[.agg #[.map none, .map none], .bool false]) (by simp [results, Tryz.results93, go_sem, d0, d1]; try rfl) rfl ?_
    exact ⟨⟨_, _, rfl, HNIL.out⟩, HB0.out.trans (hch.below HB0.out.size (fun q e => by omega))⟩
  · rcases hE : S1.toList.isEmpty with _ | _
    · obtain ⟨b0, b1, _, _⟩ := spot_box HX0.out.1
      go_wp2_with fail
      refine (CSP.out _).mono ?_
      rintro e w2 ⟨rfl, rfl⟩
      clear b0 b1
      obtain ⟨g8, hg8⟩ : ∃ g8, w'.heap.size = g8 := ⟨_, rfl⟩
      have hz8 : (w'.alloc (.cells #[.map a, .map b] 87)).heap.size = g8 + 1 := by simp [hg8]
      obtain ⟨V2, hV2⟩ : ∃ V2, (w'.alloc (.cells #[.map a, .map b] 87)).alloc (.cells (l.map Value.string).toArray 9) = V2 := ⟨_, rfl⟩
      have HX2 : Hid (V2.heap[g8]? = some (.cells #[.map a, .map b] 87 (0, 0)) ∧ V2.heap[g8 + 1]? = some (.cells (l.map Value.string).toArray 9 (0, 0))) := Lib.hid (by rw [← hV2, ← hg8]; exact ⟨heap_alloc2_old _ _ _, heap_alloc2_new _ _ _⟩)
      have HB2 : Hid (Below w'.heap.size w' V2) := Lib.hid (by rw [← hV2]; exact ((Below.refl _ w').alloc (Nat.le_refl _) _).alloc (by simp) _)
      have HS2 : Hid (V2.heap.size = g8 + 2) := Lib.hid (by rw [← hV2]; simp [hg8])
      have HG8 : Hid (g8 = w.heap.size + 2) := Lib.hid (by rw [← hg8]; exact HS0.out)
      have HBV : Hid (Below w.heap.size w V2) := Lib.hid (HB0.out.trans (HB2.out.mono HB0.out.size))
      have HR2 := Lib.hid ((HB2.out.block (w.heap.size + 1) (by have := HS0.out; omega)).trans HX0.out.2)
      have HSP2 := Lib.hid ((HS.out.below HB0.out).below HB2.out)
      have HLT := Lib.hid HS.out.lt
      rw [hV2, hz8]
      clear hV2 hz8 HB2
      -- what is there while only the box g8 turns
      have HALL : Hid (∀ V : World, Chg (fun q => q = g8) V2 V → V.heap[w.heap.size + 1]? = some (.cells #[.map none, .map none] 87 (0, 0)) ∧ V.heap[g8 + 1]? = some (.cells (l.map Value.string).toArray 9 (0, 0)) ∧ Spots V P TV TK ∧ Below w.heap.size w V) := Lib.hid (fun V h => by
        have h1 := HG8.out
        have h2 := HS2.out
        exact ⟨(h.block _ (by omega) (by omega)).trans HR2.out, (h.block _ (by omega) (by omega)).trans HX2.out.2, HSP2.out.chg h (fun g hg e => by have := HLT.out g hg; omega), HBV.out.trans (h.below (by omega) (fun q e => by omega))⟩)
      go_wp2_with fail
      try rw [hg8]
      go_loopw [26, 10] (fun i x wr => ∃ (k : Nat) (va vb : Option Nat), k ≤ N ∧ i = .int .i64 k ∧ SpV TV TK (.agg #[.map va, .map vb]) ∧ wr.heap[g8]? = some (.cells #[.map va, .map vb] 87 (0, 0)) ∧ Chg (fun q => q = g8) V2 wr) (fun i _ _ => N - (intOf i).toNat)
      case atStart => exact ⟨0, a, b, Nat.zero_le _, rfl, HAB.out, HX2.out.1, Chg.refl _ _⟩
      case round =>
        obtain ⟨k, va, vb, hk, rfl, hv, hbx, hch⟩ := hrel
        obtain ⟨k1, k2, k3, k4⟩ := HALL.out wr hch
        have HCH := Lib.hid hch
        have HVV := Lib.hid hv
        by_cases hlt : k < N
        · have hkl : k < l.length := by rw [HN.out]; exact hlt
          have hc : wr.cell? ⟨g8 + 1, k, none⟩ = some (.string (l[k]'hkl)) := by
            rw [Lib.cell_of_heap k2]
            simp [List.getElem?_eq_getElem hkl]
          have hxz := HLS.out _ (List.getElem_mem hkl)
          generalize (l[k]'hkl) = x at *
          rcases hEx : x.toList.isEmpty with _ | _
          · obtain ⟨ua, ub, hu, hua, hub⟩ := hv
            simp only [Value.agg.injEq, Array.mk.injEq, List.cons.injEq, Value.map.injEq, and_true] at hu
            obtain ⟨rfl, rfl⟩ := hu
            obtain ⟨v2, hlook, hv2⟩ := look_kids k3 hub (s := x) hxz
            obtain ⟨xa, xb, rfl, hxa, hxb⟩ := hv2
            have HV2 : Hid (SpV TV TK (.agg #[.map xa, .map xb])) := Lib.hid ⟨xa, xb, rfl, hxa, hxb⟩
            obtain ⟨z0, z1, f0, f1⟩ := spot_box hbx
            have HBX := Lib.hid hbx
            clear k1 k2 k3 k4 hch hbx hua hub hxa hxb hkl hxz
            go_wp2_with fail
            clear z0 z1 f0 f1 hlook
            obtain ⟨_, hch2, hbx2⟩ := box2 HBX.out (.map xa) (.map xb) _ rfl
            have HFIN := Lib.hid (And.intro hbx2 (HCH.out.trans (F' := fun q => q = g8) hch2 (fun _ _ e => e)))
            clear hch2 hbx2
            go_roundw
            case rel => exact ⟨k + 1, xa, xb, by omega, by go_num, HV2.out, HFIN.out.1, HFIN.out.2⟩
            case measure => simp [intOf]; omega
          · clear hv hbx hch k2 k3 hkl hxz
            obtain ⟨z0, z1, f0, f1⟩ := spot_box k1
            go_wp2_with fail
            clear z0 z1 f0 f1
            obtain ⟨⟨d0, d1⟩, hch, _⟩ := box2 k1 (.map none) (.map none) _ rfl
            refine bodyPost_ret (v := .tuple #[.agg #[.map none, .map none], .bool false]) (by simp [results, Tryz.results93, go_sem, d0, d1]; try rfl) rfl ?_
            exact ⟨⟨_, _, rfl, HNIL.out⟩, k4.trans (hch.below k4.size (fun q e => by omega))⟩
        · obtain ⟨y0, y1, _, _⟩ := spot_box hbx
          clear hv hbx hch k2 k3
          obtain ⟨z0, z1, f0, f1⟩ := spot_box k1
          go_wp2_with fail
          clear z0 z1 f0 f1
          obtain ⟨⟨d0, d1⟩, hch, _⟩ := box2 k1 (.map va) (.map vb) _ rfl
          refine bodyPost_ret (v := .tuple #[.agg #[.map va, .map vb], .bool true]) (by simp [results, Tryz.results93, go_sem, d0, d1]; try rfl) rfl ?_
          exact ⟨⟨_, _, rfl, HVV.out⟩, k4.trans (hch.below k4.size (fun q e => by omega))⟩
    · obtain ⟨b0, b1, _, _⟩ := spot_box HX0.out.1
      obtain ⟨z0, z1, f0, f1⟩ := spot_box HX0.out.2
      go_wp2_with fail
      clear z0 z1 f0 f1
      obtain ⟨⟨d0, d1⟩, hch, _⟩ := box2 HX0.out.2 (.map a) (.map b) _ rfl
      refine bodyPost_ret (v := .tuple #[.agg #[.map a, .map b], .bool true]) (by simp [results, Tryz.results93, go_sem, d0, d1]; try rfl) rfl ?_
      exact ⟨⟨_, _, rfl, HAB.out⟩, HB0.out.trans (hch.below HB0.out.size (fun q e => by omega))⟩
end Go.Proofs.YtihlpcbebpnmkaaGreatDoor
