/-
  Base, part 5: what the proofs of this claim lean on.
-/
import Derived.Test.YtfekjihjifimcaaBase2
import Derived.Test.YtfekjihjifimcaaBase3
import Derived.Test.YtfekjihjifimcaaBase1
import Derived.BigQuiet
import Derived.Lib.AppendStr
import Derived.Deep.DrawnRows

/-! Layer 10: is no name there twice: the law's own question, and what a merge makes of it. -/
namespace Go.Proofs.Ytfekjihjifimcaa
open Go.RowKit
set_option linter.unusedVariables false
set_option linter.unusedSimpArgs false

mutual
def UniqN : PN → Prop
  | .mk _ ps ks => (ps.map Prod.fst).Nodup ∧ (ks.map PN.name).Nodup ∧ UniqL ks
def UniqL : List PN → Prop
  | [] => True
  | k :: r => UniqN k ∧ UniqL r
end
theorem uniqL_all : ∀ l : List PN, UniqL l ↔ ∀ k ∈ l, UniqN k
  | [] => by simp [UniqL]
  | k :: r => by rw [UniqL, uniqL_all r]; simp
theorem uniq_nd (n : Nd) : UniqN (pureN n) ↔ (n.props.map PV.name).Nodup ∧ (n.kids.map Nd.name).Nodup ∧ ∀ k ∈ n.kids, UniqN (pureN k) := by
  rw [pureN_mk, UniqN, uniqL_all, List.map_map, List.map_map]
  have e : n.kids.map (PN.name ∘ pureN) = n.kids.map Nd.name := List.map_congr_left fun k _ => by rw [Function.comp, pureN_mk]; rfl
  rw [e]
  simp only [List.mem_map, forall_exists_index, and_imp, forall_apply_eq_imp_iff₂]
  rfl

theorem idx_hit_of : ∀ (l : List ByteArray), l.Nodup → ∀ (i : Nat) (h : i < l.length), idxOf l l[i] = (i : Int)
  | x :: l, _, 0, _ => by rw [idxOf]; simp
  | x :: l, hn, i + 1, h => by
    rw [List.nodup_cons] at hn
    have hi : i < l.length := by simpa using h
    have ih := idx_hit_of l hn.2 i hi
    have hne : x ≠ l[i] := fun e => hn.1 (e ▸ List.getElem_mem hi)
    rw [List.getElem_cons_succ, idxOf, if_neg hne, ih, if_neg (by omega)]
    omega
theorem idx_lt : ∀ (l : List ByteArray) (s : ByteArray) (k : Nat), idxOf l s = (k : Int) → ∃ h : k < l.length, l[k] = s
  | [], s, k, h => by rw [idxOf] at h; omega
  | x :: l, s, k, h => by
    rw [idxOf] at h
    by_cases hx : x = s
    · rw [if_pos hx] at h
      obtain rfl : k = 0 := by omega
      exact ⟨by simp, hx⟩
    · rw [if_neg hx] at h
      by_cases h0 : idxOf l s < 0
      · rw [if_pos h0] at h; omega
      · rw [if_neg h0] at h
        obtain ⟨j, rfl⟩ : ∃ j, k = j + 1 := ⟨k - 1, by omega⟩
        obtain ⟨h1, h2⟩ := idx_lt l s j (by omega)
        exact ⟨by simpa using h1, by simpa using h2⟩
theorem idx_mem : ∀ (l : List ByteArray) (s : ByteArray), s ∈ l → 0 ≤ idxOf l s
  | x :: l, s, h => by
    rw [idxOf]
    by_cases hx : x = s
    · rw [if_pos hx]; exact Int.le_refl _
    · rw [if_neg hx]
      have h1 := idx_mem l s ((List.mem_cons.1 h).resolve_left (fun e => hx e.symm))
      rw [if_neg (by omega)]
      omega
theorem nodup_of_hits : ∀ (l : List ByteArray), (∀ (i : Nat) (h : i < l.length), idxOf l l[i] = (i : Int)) → l.Nodup
  | [], _ => List.nodup_nil
  | x :: l, hh => by
    rw [List.nodup_cons]
    refine ⟨fun hm => ?_, nodup_of_hits l fun i h => ?_⟩
    · obtain ⟨i, hi, e⟩ := List.getElem_of_mem hm
      have h := hh (i + 1) (by simpa using hi)
      rw [List.getElem_cons_succ, e, idxOf, if_pos rfl] at h
      omega
    · have h1 := hh (i + 1) (by simpa using h)
      rw [List.getElem_cons_succ, idxOf] at h1
      by_cases hx : x = l[i]
      · rw [if_pos hx] at h1; omega
      · rw [if_neg hx] at h1
        by_cases h0 : idxOf l l[i] < 0
        · rw [if_pos h0] at h1; omega
        · rw [if_neg h0] at h1; omega

set_option maxRecDepth 100000 in
set_option maxHeartbeats 8000000 in
theorem unique_any : ∀ (n : Nd) (w : World), n.In w w.heap.size →
    Calls Try.prog 11 #[n.val] w fun e w' => (∃ r : Bool, e = .returned (.bool r) ∧ (r = true ↔ UniqN (pureN n))) ∧ Below w.heap.size w w' := by
  refine Nd.ind ?_
  intro n ih w hin
  have HU := Lib.hid (uniq_nd n)
  have HF := Lib.hid (fun W hW s => reffind_any n s W hW _ rfl)
  have HG := Lib.hid (fun W hW s => refkid_any n s W hW _ rfl)
  have HI := Lib.hid hin
  have IH := Lib.hid ih
  obtain ⟨nm, pa, pc, ps, ka, kc, ks⟩ := n
  obtain ⟨hl1, hm1⟩ : ps.length ≤ pc ∧ pc ≤ 9223372036854775807 := hin.plen
  obtain ⟨hl2, hm2⟩ : ks.length ≤ kc ∧ kc ≤ 9223372036854775807 := hin.klen
  simp only [Nd.val, Nd.pv, Nd.kv, Nd.name, Nd.pa, Nd.pc, Nd.props, Nd.ka, Nd.kc, Nd.kids] at HF HG HU ⊢
  have HPM := Lib.hid (show (ps.map PV.name).length = ps.length from List.length_map _)
  have HKM := Lib.hid (show (ks.map Nd.name).length = ks.length from List.length_map _)
  have HB0 := Lib.hid ((Below.refl w.heap.size w).alloc (Nat.le_refl _) (.cells #[.string nm, .slice pa ps.length pc, .slice ka ks.length kc] 25))
  have BX : Hid (∀ W, Below (w.heap.size + 1) (w.alloc (.cells #[.string nm, .slice pa ps.length pc, .slice ka ks.length kc] 25)) W → W.cell? ⟨w.heap.size, 0, none⟩ = some (.string nm) ∧ W.cell? ⟨w.heap.size, 1, none⟩ = some (.slice pa ps.length pc) ∧ W.cell? ⟨w.heap.size, 2, none⟩ = some (.slice ka ks.length kc)) := Lib.hid (fun W h =>
    ⟨(h.cell (Nat.lt_succ_self _)).trans (World.cell?_alloc_new _ _ _ _), (h.cell (Nat.lt_succ_self _)).trans (World.cell?_alloc_new _ _ _ _), (h.cell (Nat.lt_succ_self _)).trans (World.cell?_alloc_new _ _ _ _)⟩)
  have IN := Lib.hid (fun W (h : Below (w.heap.size + 1) (w.alloc (.cells #[.string nm, .slice pa ps.length pc, .slice ka ks.length kc] 25)) W) => Nd.In.more (show w.heap.size ≤ W.heap.size by have := h.size; simp at this; omega) (Nd.In.under HI.out (HB0.out.trans (h.mono (Nat.le_succ _)))))
  clear hin ih
  go_enter Try.func11, Try.ntmps11
  go_wp2_with fail
  go_loopw [8] (fun i wr => ∃ k : Nat, k ≤ ps.length ∧ i = .int .i64 k ∧ Hid (∀ i (h : i < (ps.map PV.name).length), i < k → idxOf (ps.map PV.name) (ps.map PV.name)[i] = (i : Int)) ∧ Below (w.heap.size + 1) (w.alloc (.cells #[.string nm, .slice pa ps.length pc, .slice ka ks.length kc] 25)) wr) (fun i _ => ps.length - (intOf i).toNat)
  case atStart => exact ⟨0, Nat.zero_le _, rfl, Lib.hid (fun _ _ h => absurd h (Nat.not_lt_zero _)), Below.refl _ _⟩
  case round =>
    obtain ⟨k, hk, rfl, HH, hb⟩ := hrel
    have HB := Lib.hid hb
    have HZ := Lib.hid (HB0.out.trans (hb.mono (Nat.le_succ _)))
    by_cases hlt : k < ps.length
    · obtain ⟨b, o, e, hbb, c0, c1⟩ := (IN.out wr hb).pcell (i := k) hlt
      obtain rfl : pa = _ := e
      have hxm : (ps.map PV.name)[k]'(by rw [HPM.out]; exact hlt) = ps[k].name := List.getElem_map _
      have HXM := Lib.hid hxm
      replace c0 : _ = some (Value.string ps[k].name) := c0
      obtain ⟨s, hs⟩ : ∃ s, ps[k].name = s := ⟨_, rfl⟩
      rw [hs] at c0 hxm
      have HS := Lib.hid hs
      have HD := Lib.hid (Below.refl wr.heap.size wr).drew
      have HBD := Lib.hid (hb.drew)
      obtain ⟨r, hr⟩ : ∃ r, idxOf (ps.map PV.name) s = r := ⟨_, rfl⟩
      have CF := Lib.hid (HF.out wr.drew (IN.out _ HBD.out) s)
      rw [hr] at CF
      have HR := Lib.hid hr
      have HSB : Hid (∀ V, Below wr.heap.size wr V → (V.cell? ⟨w.heap.size, 0, none⟩ = some (.string nm) ∧ V.cell? ⟨w.heap.size, 1, none⟩ = some (.slice (some ⟨b, o, none⟩) ps.length pc) ∧ V.cell? ⟨w.heap.size, 2, none⟩ = some (.slice ka ks.length kc)) ∧ V.cell? ⟨b, o + k * 2, none⟩ = some (.string s)) := Lib.hid (fun V hV => ⟨BX.out V (hb.trans (hV.mono (by have := hb.size; simp at this; omega))), (hV.cell (p := ⟨b, o + k * 2, none⟩) hbb).trans c0⟩)
      clear c0 c1 hb hr hs hxm hbb
      go_wp2_with fail
      refine wp_region_held_drew (S := fun V => (V.cell? ⟨w.heap.size, 0, none⟩ = some (.string nm) ∧ V.cell? ⟨w.heap.size, 1, none⟩ = some (.slice (some ⟨b, o, none⟩) ps.length pc) ∧ V.cell? ⟨w.heap.size, 2, none⟩ = some (.slice ka ks.length kc)) ∧ V.cell? ⟨b, o + k * 2, none⟩ = some (.string s)) (by kernel_rfl) (HSB.out _ HD.out) (fun hHeld => ?_)
      refine held_take 0 rfl (by kernel_rfl) (by kernel_rfl) (by kernel_rfl) (fun _ _ _ h => h) (by rfl) hHeld (v := ?_) (fun w hSw => ?_) (fun _ => ?_)
      rotate_left
      · ((try dsimp only at hSw); go_simp; (try with_reducible rfl))
      simp only [Act.put, List.setIfInBounds_toArray, List.set_cons_zero, List.set_cons_succ]
      refine held_take 1 rfl (by kernel_rfl) (by kernel_rfl) (by kernel_rfl) (fun _ _ _ h => h) (by rfl) hHeld (v := ?_) (fun w hSw => ?_) (fun _ => ?_)
      rotate_left
      · ((try dsimp only at hSw); go_simp; (try with_reducible rfl))
      simp only [Act.put, List.setIfInBounds_toArray, List.set_cons_zero, List.set_cons_succ]
      refine held_take 2 rfl (by kernel_rfl) (by kernel_rfl) (by kernel_rfl) (fun _ _ _ h => h) (by rfl) hHeld (v := ?_) (fun w hSw => ?_) (fun _ => ?_)
      rotate_left
      · ((try dsimp only at hSw); go_simp; (try with_reducible rfl))
      simp only [Act.put, List.setIfInBounds_toArray, List.set_cons_zero, List.set_cons_succ]
      refine held_take 3 rfl (by kernel_rfl) (by kernel_rfl) (by kernel_rfl) (fun _ _ _ h => h) (by rfl) hHeld (v := ?_) (fun w hSw => ?_) (fun _ => ?_)
      rotate_left
      · ((try dsimp only at hSw); go_simp; (try with_reducible rfl))
      simp only [Act.put, List.setIfInBounds_toArray, List.set_cons_zero, List.set_cons_succ]
      refine held_take 4 rfl (by kernel_rfl) (by kernel_rfl) (by kernel_rfl) (fun _ _ _ h => h) (by rfl) hHeld (v := ?_) (fun w hSw => ?_) (fun _ => ?_)
      rotate_left
      · ((try dsimp only at hSw); go_simp; (try with_reducible rfl))
      simp only [Act.put, List.setIfInBounds_toArray, List.set_cons_zero, List.set_cons_succ]
      refine held_take 5 rfl (by kernel_rfl) (by kernel_rfl) (by kernel_rfl) (fun _ _ _ h => h) (by rfl) hHeld (v := ?_) (fun w hSw => ?_) (fun _ => ?_)
      rotate_left
      · ((try dsimp only at hSw); go_simp; (try with_reducible rfl))
      simp only [Act.put, List.setIfInBounds_toArray, List.set_cons_zero, List.set_cons_succ]
      refine held_take 6 rfl (by kernel_rfl) (by kernel_rfl) (by kernel_rfl) (fun _ _ _ h => h) (by rfl) hHeld (v := ?_) (fun w hSw => ?_) (fun _ => ?_)
      rotate_left
      · ((try dsimp only at hSw); go_simp; (try with_reducible rfl))
      simp only [Act.put, List.setIfInBounds_toArray, List.set_cons_zero, List.set_cons_succ]
      refine held_take 8 rfl (by kernel_rfl) (by kernel_rfl) (by kernel_rfl) (fun _ _ _ h => h) (by rfl) hHeld (v := ?_) (fun w hSw => ?_) (fun _ => ?_)
      rotate_left
      · ((try dsimp only at hSw); go_simp; (try with_reducible rfl))
      simp only [Act.put, List.setIfInBounds_toArray, List.set_cons_zero, List.set_cons_succ]
      refine held_call 7 (by kernel_rfl) rfl (by rfl) (fun K hK => ?_)
      go_simp
      refine CF.out.mono ?_
      rintro e w4 ⟨rfl, hb4⟩
      have HD4 := Lib.hid (HD.out.trans hb4)
      clear hb4
      dsimp only
      refine hK.out _ _ (HSB.out _ HD4.out) (fun hHeld => ?_)
      clear hK K
      refine held_take 9 rfl (by kernel_rfl) (by kernel_rfl) (by kernel_rfl) (fun _ _ _ h => h) (by rfl) hHeld (v := ?_) (fun w hSw => ?_) (fun _ => ?_)
      rotate_left
      · ((try dsimp only at hSw); go_simp; (try with_reducible rfl))
      simp only [Act.put, List.setIfInBounds_toArray, List.set_cons_zero, List.set_cons_succ]
      refine wpAnyH_done (by kernel_rfl) ?_ _
      clear hHeld
      have HB4 := Lib.hid (HB.out.trans (HD4.out.mono (by have := HB.out.size; simp at this; omega)))
      have HZ4 := Lib.hid (HZ.out.trans (HD4.out.mono (by have := HZ.out.size; omega)))
      by_cases hrk : r = (k : Int)
      · subst hrk
        have q1 : ((k : Int) != (k : Int)) = false := by simp
        have HH2 : Hid (∀ i (h : i < (ps.map PV.name).length), i < k + 1 → idxOf (ps.map PV.name) (ps.map PV.name)[i] = (i : Int)) := Lib.hid (fun i h hi => by
          rcases Nat.lt_succ_iff_lt_or_eq.1 hi with h1 | rfl
          · exact HH.out i h h1
          · rw [HXM.out, HS.out]; exact HR.out)
        go_wp2
        go_roundw
        case rel => exact ⟨k + 1, by omega, by go_num, HH2, HB4.out⟩
        case measure => simp [intOf]; omega
      · have q1 : (r != (k : Int)) = true := by rw [bne_iff_ne]; exact hrk
        have HNU : Hid (¬ (ps.map PV.name).Nodup) := Lib.hid (fun hn => hrk (by
          have := idx_hit_of _ hn k (by rw [HPM.out]; exact hlt)
          rw [HXM.out, HS.out, HR.out] at this
          exact this))
        clear hrk
        go_wp2
        go_ret
        exact ⟨⟨_, rfl, by rw [HU.out]; exact ⟨fun h => by (cases h), fun h => absurd h.1 HNU.out⟩⟩, HZ4.out⟩
    · obtain rfl : k = ps.length := by omega
      have HPN : Hid ((ps.map PV.name).Nodup) := Lib.hid (nodup_of_hits _ fun i h => HH.out i h (by rw [← HPM.out]; exact h))
      obtain ⟨x0, x1, x2⟩ := BX.out wr hb
      clear hb HH
      go_wp2_with fail
      clear x0 x1 x2
      have HBR := HB
      go_loopw [25] (fun i wr => ∃ k : Nat, k ≤ ks.length ∧ i = .int .i64 k ∧ Hid (∀ i (h : i < (ks.map Nd.name).length), i < k → idxOf (ks.map Nd.name) (ks.map Nd.name)[i] = (i : Int)) ∧ Hid (∀ i (h : i < ks.length), i < k → UniqN (pureN ks[i])) ∧ Below (w.heap.size + 1) (w.alloc (.cells #[.string nm, .slice pa ps.length pc, .slice ka ks.length kc] 25)) wr) (fun i _ => ks.length - (intOf i).toNat)
      case atStart => exact ⟨0, Nat.zero_le _, rfl, Lib.hid (fun _ _ h => absurd h (Nat.not_lt_zero _)), Lib.hid (fun _ _ h => absurd h (Nat.not_lt_zero _)), HBR.out⟩
      case round =>
        clear HB HZ HBR
        obtain ⟨k, hk, rfl, HH, HQ, hb⟩ := hrel
        have HB := Lib.hid hb
        have HZ := Lib.hid (HB0.out.trans (hb.mono (Nat.le_succ _)))
        by_cases hlt : k < ks.length
        · obtain ⟨b, o, e, hbb, c0, c1, c2⟩ := (IN.out wr hb).kcell (i := k) hlt
          have HKI := Lib.hid (fun V (hV : Below wr.heap.size wr V) => show ks[k].In V V.heap.size from ((IN.out wr hb).kid (List.getElem_mem hlt)).on hV)
          have HIH := Lib.hid (fun V (hV : Nd.In V V.heap.size ks[k]) => IH.out ks[k] (List.getElem_mem hlt) V hV)
          obtain rfl : ka = _ := e
          have HXM := Lib.hid (show (ks.map Nd.name)[k]'(by rw [HKM.out]; exact hlt) = ks[k].name from List.getElem_map _)
          have HMEM := Lib.hid (show ks[k] ∈ ks from List.getElem_mem hlt)
          replace c0 : _ = some (Value.string ks[k].name) := c0
          replace c1 : _ = some (Value.slice ks[k].pa ks[k].props.length ks[k].pc) := c1
          replace c2 : _ = some (Value.slice ks[k].ka ks[k].kids.length ks[k].kc) := c2
          obtain ⟨x, hx⟩ : ∃ x, ks[k] = x := ⟨_, rfl⟩
          have HX := Lib.hid hx
          rw [hx] at c0 c1 c2 HKI HIH HXM HMEM
          obtain ⟨xn, xpa, xpc, xps, xka, xkc, xks⟩ := x
          simp only [Nd.val, Nd.pv, Nd.kv, Nd.name, Nd.pa, Nd.pc, Nd.props, Nd.ka, Nd.kc, Nd.kids] at c0 c1 c2 HIH HXM
          have HD := Lib.hid (Below.refl wr.heap.size wr).drew
          have HBD := Lib.hid (hb.drew)
          obtain ⟨r, hr⟩ : ∃ r, idxOf (ks.map Nd.name) xn = r := ⟨_, rfl⟩
          have CF := Lib.hid (HG.out wr.drew (IN.out _ HBD.out) xn)
          rw [hr] at CF
          have HR := Lib.hid hr
          have HSB : Hid (∀ V, Below wr.heap.size wr V → (V.cell? ⟨w.heap.size, 0, none⟩ = some (.string nm) ∧ V.cell? ⟨w.heap.size, 1, none⟩ = some (.slice pa ps.length pc) ∧ V.cell? ⟨w.heap.size, 2, none⟩ = some (.slice (some ⟨b, o, none⟩) ks.length kc)) ∧ (V.cell? ⟨b, o + k * 3, none⟩ = some (.string xn) ∧ V.cell? ⟨b, o + k * 3 + 1, none⟩ = some (.slice xpa xps.length xpc) ∧ V.cell? ⟨b, o + k * 3 + 2, none⟩ = some (.slice xka xks.length xkc))) := Lib.hid (fun V hV => ⟨BX.out V (hb.trans (hV.mono (by have := hb.size; simp at this; omega))), (hV.cell (p := ⟨b, o + k * 3, none⟩) hbb).trans c0, (hV.cell (p := ⟨b, o + k * 3 + 1, none⟩) hbb).trans c1, (hV.cell (p := ⟨b, o + k * 3 + 2, none⟩) hbb).trans c2⟩)
          clear c0 c1 c2 hb hr hx hbb
          by_cases hrk : r = (k : Int)
          · subst hrk
            have q1 : ((k : Int) != (k : Int)) = false := by simp
            have HH2 : Hid (∀ i (h : i < (ks.map Nd.name).length), i < k + 1 → idxOf (ks.map Nd.name) (ks.map Nd.name)[i] = (i : Int)) := Lib.hid (fun i h hi => by
              rcases Nat.lt_succ_iff_lt_or_eq.1 hi with h1 | rfl
              · exact HH.out i h h1
              · rw [HXM.out]; exact HR.out)
            go_wp2_with fail
            refine wp_region_held_drew (S := fun V => (V.cell? ⟨w.heap.size, 0, none⟩ = some (.string nm) ∧ V.cell? ⟨w.heap.size, 1, none⟩ = some (.slice pa ps.length pc) ∧ V.cell? ⟨w.heap.size, 2, none⟩ = some (.slice (some ⟨b, o, none⟩) ks.length kc)) ∧ (V.cell? ⟨b, o + k * 3, none⟩ = some (.string xn) ∧ V.cell? ⟨b, o + k * 3 + 1, none⟩ = some (.slice xpa xps.length xpc) ∧ V.cell? ⟨b, o + k * 3 + 2, none⟩ = some (.slice xka xks.length xkc))) (by kernel_rfl) (HSB.out _ HD.out) (fun hHeld => ?_)
            refine held_take 0 rfl (by kernel_rfl) (by kernel_rfl) (by kernel_rfl) (fun _ _ _ h => h) (by rfl) hHeld (v := ?_) (fun w hSw => ?_) (fun _ => ?_)
            rotate_left
            · ((try dsimp only at hSw); go_simp; (try with_reducible rfl))
            simp only [Act.put, List.setIfInBounds_toArray, List.set_cons_zero, List.set_cons_succ]
            refine held_take 1 rfl (by kernel_rfl) (by kernel_rfl) (by kernel_rfl) (fun _ _ _ h => h) (by rfl) hHeld (v := ?_) (fun w hSw => ?_) (fun _ => ?_)
            rotate_left
            · ((try dsimp only at hSw); go_simp; (try with_reducible rfl))
            simp only [Act.put, List.setIfInBounds_toArray, List.set_cons_zero, List.set_cons_succ]
            refine held_take 2 rfl (by kernel_rfl) (by kernel_rfl) (by kernel_rfl) (fun _ _ _ h => h) (by rfl) hHeld (v := ?_) (fun w hSw => ?_) (fun _ => ?_)
            rotate_left
            · ((try dsimp only at hSw); go_simp; (try with_reducible rfl))
            simp only [Act.put, List.setIfInBounds_toArray, List.set_cons_zero, List.set_cons_succ]
            refine held_take 3 rfl (by kernel_rfl) (by kernel_rfl) (by kernel_rfl) (fun _ _ _ h => h) (by rfl) hHeld (v := ?_) (fun w hSw => ?_) (fun _ => ?_)
            rotate_left
            · ((try dsimp only at hSw); go_simp; (try with_reducible rfl))
            simp only [Act.put, List.setIfInBounds_toArray, List.set_cons_zero, List.set_cons_succ]
            refine held_take 4 rfl (by kernel_rfl) (by kernel_rfl) (by kernel_rfl) (fun _ _ _ h => h) (by rfl) hHeld (v := ?_) (fun w hSw => ?_) (fun _ => ?_)
            rotate_left
            · ((try dsimp only at hSw); go_simp; (try with_reducible rfl))
            simp only [Act.put, List.setIfInBounds_toArray, List.set_cons_zero, List.set_cons_succ]
            refine held_take 5 rfl (by kernel_rfl) (by kernel_rfl) (by kernel_rfl) (fun _ _ _ h => h) (by rfl) hHeld (v := ?_) (fun w hSw => ?_) (fun _ => ?_)
            rotate_left
            · ((try dsimp only at hSw); go_simp; (try with_reducible rfl))
            simp only [Act.put, List.setIfInBounds_toArray, List.set_cons_zero, List.set_cons_succ]
            refine held_take 6 rfl (by kernel_rfl) (by kernel_rfl) (by kernel_rfl) (fun _ _ _ h => h) (by rfl) hHeld (v := ?_) (fun w hSw => ?_) (fun _ => ?_)
            rotate_left
            · ((try dsimp only at hSw); go_simp; (try with_reducible rfl))
            simp only [Act.put, List.setIfInBounds_toArray, List.set_cons_zero, List.set_cons_succ]
            refine held_take 8 rfl (by kernel_rfl) (by kernel_rfl) (by kernel_rfl) (fun _ _ _ h => h) (by rfl) hHeld (v := ?_) (fun w hSw => ?_) (fun _ => ?_)
            rotate_left
            · ((try dsimp only at hSw); go_simp; (try with_reducible rfl))
            simp only [Act.put, List.setIfInBounds_toArray, List.set_cons_zero, List.set_cons_succ]
            refine held_call 7 (by kernel_rfl) rfl (by rfl) (fun K hK => ?_)
            go_simp
            refine CF.out.mono ?_
            rintro e w4 ⟨rfl, hb4⟩
            have HD4 := Lib.hid (HD.out.trans hb4)
            clear hb4
            dsimp only
            refine hK.out _ _ (HSB.out _ HD4.out) (fun hHeld => ?_)
            clear hK K
            refine held_take 9 rfl (by kernel_rfl) (by kernel_rfl) (by kernel_rfl) (fun _ _ _ h => h) (by rfl) hHeld (v := ?_) (fun w hSw => ?_) (fun _ => ?_)
            rotate_left
            · ((try dsimp only at hSw); go_simp; (try with_reducible rfl))
            simp only [Act.put, List.setIfInBounds_toArray, List.set_cons_zero, List.set_cons_succ]
            refine held_take 10 rfl (by kernel_rfl) (by kernel_rfl) (by kernel_rfl) (fun _ _ _ h => h) (by rfl) hHeld (v := ?_) (fun w hSw => ?_) (fun _ => ?_)
            rotate_left
            · ((try dsimp only at hSw); go_simp; (try with_reducible rfl))
            simp only [Act.put, List.setIfInBounds_toArray, List.set_cons_zero, List.set_cons_succ]
            refine held_take 11 rfl (by kernel_rfl) (by kernel_rfl) (by kernel_rfl) (fun _ _ _ h => h) (by rfl) hHeld (v := ?_) (fun w hSw => ?_) (fun _ => ?_)
            rotate_left
            · ((try dsimp only at hSw); go_simp; (try with_reducible rfl))
            simp only [Act.put, List.setIfInBounds_toArray, List.set_cons_zero, List.set_cons_succ]
            refine held_take 12 rfl (by kernel_rfl) (by kernel_rfl) (by kernel_rfl) (fun _ _ _ h => h) (by rfl) hHeld (v := ?_) (fun w hSw => ?_) (fun _ => ?_)
            rotate_left
            · ((try dsimp only at hSw); go_simp; (try with_reducible rfl))
            simp only [Act.put, List.setIfInBounds_toArray, List.set_cons_zero, List.set_cons_succ]
            refine held_take 13 rfl (by kernel_rfl) (by kernel_rfl) (by kernel_rfl) (fun _ _ _ h => h) (by rfl) hHeld (v := ?_) (fun w hSw => ?_) (fun _ => ?_)
            rotate_left
            · ((try dsimp only at hSw); go_simp; (try with_reducible rfl))
            simp only [Act.put, List.setIfInBounds_toArray, List.set_cons_zero, List.set_cons_succ]
            refine held_take 14 rfl (by kernel_rfl) (by kernel_rfl) (by kernel_rfl) (fun _ _ _ h => h) (by rfl) hHeld (v := ?_) (fun w hSw => ?_) (fun _ => ?_)
            rotate_left
            · ((try dsimp only at hSw); go_simp; (try with_reducible rfl))
            simp only [Act.put, List.setIfInBounds_toArray, List.set_cons_zero, List.set_cons_succ]
            refine held_take 15 rfl (by kernel_rfl) (by kernel_rfl) (by kernel_rfl) (fun _ _ _ h => h) (by rfl) hHeld (v := ?_) (fun w hSw => ?_) (fun _ => ?_)
            rotate_left
            · ((try dsimp only at hSw); go_simp; (try with_reducible rfl))
            simp only [Act.put, List.setIfInBounds_toArray, List.set_cons_zero, List.set_cons_succ]
            refine held_call 16 (by kernel_rfl) rfl (by rfl) (fun K hK => ?_)
            go_simp
            refine (HIH.out _ (HKI.out _ HD4.out)).mono ?_
            rintro e w5 ⟨⟨u, rfl, hu⟩, hb5⟩
            have HD5 := Lib.hid (HD4.out.trans (hb5.mono HD4.out.size))
            have HUU := Lib.hid hu
            clear hb5 hu
            dsimp only
            refine hK.out _ _ (HSB.out _ HD5.out) (fun hHeld => ?_)
            clear hK K
            refine held_take 17 rfl (by kernel_rfl) (by kernel_rfl) (by kernel_rfl) (fun _ _ _ h => h) (by rfl) hHeld (v := ?_) (fun w hSw => ?_) (fun _ => ?_)
            rotate_left
            · ((try dsimp only at hSw); go_simp; (try with_reducible rfl))
            simp only [Act.put, List.setIfInBounds_toArray, List.set_cons_zero, List.set_cons_succ]
            refine held_take 18 rfl (by kernel_rfl) (by kernel_rfl) (by kernel_rfl) (fun _ _ _ h => h) (by rfl) hHeld (v := ?_) (fun w hSw => ?_) (fun _ => ?_)
            rotate_left
            · ((try dsimp only at hSw); go_simp; (try with_reducible rfl))
            simp only [Act.put, List.setIfInBounds_toArray, List.set_cons_zero, List.set_cons_succ]
            refine wpAnyH_done (by kernel_rfl) ?_ _
            clear hHeld
            have HB5 := Lib.hid (HB.out.trans (HD5.out.mono (by have := HB.out.size; simp at this; omega)))
            have HZ5 := Lib.hid (HZ.out.trans (HD5.out.mono (by have := HZ.out.size; omega)))
            cases u
            · have HNU : Hid (¬ ∀ k ∈ ks, UniqN (pureN k)) := Lib.hid (fun h => by
                have := HUU.out.2 (h _ HMEM.out)
                cases this)
              go_wp2
              go_ret
              exact ⟨⟨_, rfl, by rw [HU.out]; exact ⟨fun h => by (cases h), fun h => absurd h.2.2 HNU.out⟩⟩, HZ5.out⟩
            · have HQ2 : Hid (∀ i (h : i < ks.length), i < k + 1 → UniqN (pureN ks[i])) := Lib.hid (fun i h hi => by
                rcases Nat.lt_succ_iff_lt_or_eq.1 hi with h1 | rfl
                · exact HQ.out i h h1
                · rw [HX.out]; exact HUU.out.1 rfl)
              go_wp2
              go_roundw
              case rel => exact ⟨k + 1, by omega, by go_num, HH2, HQ2, HB5.out⟩
              case measure => simp [intOf]; omega
          · have q1 : (r != (k : Int)) = true := by rw [bne_iff_ne]; exact hrk
            have HNU : Hid (¬ (ks.map Nd.name).Nodup) := Lib.hid (fun hn => hrk (by
              have := idx_hit_of _ hn k (by rw [HKM.out]; exact hlt)
              rw [HXM.out, HR.out] at this
              exact this))
            clear hrk
            go_wp2_with fail
            refine wp_region_held_drew (S := fun V => (V.cell? ⟨w.heap.size, 0, none⟩ = some (.string nm) ∧ V.cell? ⟨w.heap.size, 1, none⟩ = some (.slice pa ps.length pc) ∧ V.cell? ⟨w.heap.size, 2, none⟩ = some (.slice (some ⟨b, o, none⟩) ks.length kc)) ∧ (V.cell? ⟨b, o + k * 3, none⟩ = some (.string xn) ∧ V.cell? ⟨b, o + k * 3 + 1, none⟩ = some (.slice xpa xps.length xpc) ∧ V.cell? ⟨b, o + k * 3 + 2, none⟩ = some (.slice xka xks.length xkc))) (by kernel_rfl) (HSB.out _ HD.out) (fun hHeld => ?_)
            refine held_take 0 rfl (by kernel_rfl) (by kernel_rfl) (by kernel_rfl) (fun _ _ _ h => h) (by rfl) hHeld (v := ?_) (fun w hSw => ?_) (fun _ => ?_)
            rotate_left
            · ((try dsimp only at hSw); go_simp; (try with_reducible rfl))
            simp only [Act.put, List.setIfInBounds_toArray, List.set_cons_zero, List.set_cons_succ]
            refine held_take 1 rfl (by kernel_rfl) (by kernel_rfl) (by kernel_rfl) (fun _ _ _ h => h) (by rfl) hHeld (v := ?_) (fun w hSw => ?_) (fun _ => ?_)
            rotate_left
            · ((try dsimp only at hSw); go_simp; (try with_reducible rfl))
            simp only [Act.put, List.setIfInBounds_toArray, List.set_cons_zero, List.set_cons_succ]
            refine held_take 2 rfl (by kernel_rfl) (by kernel_rfl) (by kernel_rfl) (fun _ _ _ h => h) (by rfl) hHeld (v := ?_) (fun w hSw => ?_) (fun _ => ?_)
            rotate_left
            · ((try dsimp only at hSw); go_simp; (try with_reducible rfl))
            simp only [Act.put, List.setIfInBounds_toArray, List.set_cons_zero, List.set_cons_succ]
            refine held_take 3 rfl (by kernel_rfl) (by kernel_rfl) (by kernel_rfl) (fun _ _ _ h => h) (by rfl) hHeld (v := ?_) (fun w hSw => ?_) (fun _ => ?_)
            rotate_left
            · ((try dsimp only at hSw); go_simp; (try with_reducible rfl))
            simp only [Act.put, List.setIfInBounds_toArray, List.set_cons_zero, List.set_cons_succ]
            refine held_take 4 rfl (by kernel_rfl) (by kernel_rfl) (by kernel_rfl) (fun _ _ _ h => h) (by rfl) hHeld (v := ?_) (fun w hSw => ?_) (fun _ => ?_)
            rotate_left
            · ((try dsimp only at hSw); go_simp; (try with_reducible rfl))
            simp only [Act.put, List.setIfInBounds_toArray, List.set_cons_zero, List.set_cons_succ]
            refine held_take 5 rfl (by kernel_rfl) (by kernel_rfl) (by kernel_rfl) (fun _ _ _ h => h) (by rfl) hHeld (v := ?_) (fun w hSw => ?_) (fun _ => ?_)
            rotate_left
            · ((try dsimp only at hSw); go_simp; (try with_reducible rfl))
            simp only [Act.put, List.setIfInBounds_toArray, List.set_cons_zero, List.set_cons_succ]
            refine held_take 6 rfl (by kernel_rfl) (by kernel_rfl) (by kernel_rfl) (fun _ _ _ h => h) (by rfl) hHeld (v := ?_) (fun w hSw => ?_) (fun _ => ?_)
            rotate_left
            · ((try dsimp only at hSw); go_simp; (try with_reducible rfl))
            simp only [Act.put, List.setIfInBounds_toArray, List.set_cons_zero, List.set_cons_succ]
            refine held_take 8 rfl (by kernel_rfl) (by kernel_rfl) (by kernel_rfl) (fun _ _ _ h => h) (by rfl) hHeld (v := ?_) (fun w hSw => ?_) (fun _ => ?_)
            rotate_left
            · ((try dsimp only at hSw); go_simp; (try with_reducible rfl))
            simp only [Act.put, List.setIfInBounds_toArray, List.set_cons_zero, List.set_cons_succ]
            refine held_call 7 (by kernel_rfl) rfl (by rfl) (fun K hK => ?_)
            go_simp
            refine CF.out.mono ?_
            rintro e w4 ⟨rfl, hb4⟩
            have HD4 := Lib.hid (HD.out.trans hb4)
            clear hb4
            dsimp only
            refine hK.out _ _ (HSB.out _ HD4.out) (fun hHeld => ?_)
            clear hK K
            refine held_take 9 rfl (by kernel_rfl) (by kernel_rfl) (by kernel_rfl) (fun _ _ _ h => h) (by rfl) hHeld (v := ?_) (fun w hSw => ?_) (fun _ => ?_)
            rotate_left
            · ((try dsimp only at hSw); go_simp; (try with_reducible rfl))
            simp only [Act.put, List.setIfInBounds_toArray, List.set_cons_zero, List.set_cons_succ]
            refine held_take 10 rfl (by kernel_rfl) (by kernel_rfl) (by kernel_rfl) (fun _ _ _ h => h) (by rfl) hHeld (v := ?_) (fun w hSw => ?_) (fun _ => ?_)
            rotate_left
            · ((try dsimp only at hSw); go_simp; (try with_reducible rfl))
            simp only [Act.put, List.setIfInBounds_toArray, List.set_cons_zero, List.set_cons_succ]
            refine held_skip 11 rfl (by kernel_rfl) (by kernel_rfl) (by kernel_rfl) (fun _ _ _ h => h) (by rfl) hHeld (fun _ => ?_)
            simp only [Act.put, List.setIfInBounds_toArray, List.set_cons_zero, List.set_cons_succ]
            refine held_skip 12 rfl (by kernel_rfl) (by kernel_rfl) (by kernel_rfl) (fun _ _ _ h => h) (by rfl) hHeld (fun _ => ?_)
            simp only [Act.put, List.setIfInBounds_toArray, List.set_cons_zero, List.set_cons_succ]
            refine held_skip 13 rfl (by kernel_rfl) (by kernel_rfl) (by kernel_rfl) (fun _ _ _ h => h) (by rfl) hHeld (fun _ => ?_)
            simp only [Act.put, List.setIfInBounds_toArray, List.set_cons_zero, List.set_cons_succ]
            refine held_skip 14 rfl (by kernel_rfl) (by kernel_rfl) (by kernel_rfl) (fun _ _ _ h => h) (by rfl) hHeld (fun _ => ?_)
            simp only [Act.put, List.setIfInBounds_toArray, List.set_cons_zero, List.set_cons_succ]
            refine held_skip 15 rfl (by kernel_rfl) (by kernel_rfl) (by kernel_rfl) (fun _ _ _ h => h) (by rfl) hHeld (fun _ => ?_)
            simp only [Act.put, List.setIfInBounds_toArray, List.set_cons_zero, List.set_cons_succ]
            refine held_skip 16 rfl (by kernel_rfl) (by kernel_rfl) (by kernel_rfl) (fun _ _ _ h => h) (by rfl) hHeld (fun _ => ?_)
            simp only [Act.put, List.setIfInBounds_toArray, List.set_cons_zero, List.set_cons_succ]
            refine held_skip 17 rfl (by kernel_rfl) (by kernel_rfl) (by kernel_rfl) (fun _ _ _ h => h) (by rfl) hHeld (fun _ => ?_)
            simp only [Act.put, List.setIfInBounds_toArray, List.set_cons_zero, List.set_cons_succ]
            refine held_take 18 rfl (by kernel_rfl) (by kernel_rfl) (by kernel_rfl) (fun _ _ _ h => h) (by rfl) hHeld (v := ?_) (fun w hSw => ?_) (fun _ => ?_)
            rotate_left
            · ((try dsimp only at hSw); go_simp; (try with_reducible rfl))
            simp only [Act.put, List.setIfInBounds_toArray, List.set_cons_zero, List.set_cons_succ]
            refine wpAnyH_done (by kernel_rfl) ?_ _
            clear hHeld
            have HZ4 := Lib.hid (HZ.out.trans (HD4.out.mono (by have := HZ.out.size; omega)))
            go_wp2
            go_ret
            exact ⟨⟨_, rfl, by rw [HU.out]; exact ⟨fun h => by (cases h), fun h => absurd h.2.1 HNU.out⟩⟩, HZ4.out⟩
        · obtain rfl : k = ks.length := by omega
          have HKN : Hid ((ks.map Nd.name).Nodup) := Lib.hid (nodup_of_hits _ fun i h => HH.out i h (by rw [← HKM.out]; exact h))
          have HKA : Hid (∀ k ∈ ks, UniqN (pureN k)) := Lib.hid (fun x hx => by
            obtain ⟨i, hi, rfl⟩ := List.getElem_of_mem hx
            exact HQ.out i hi hi)
          clear hb
          go_wp2
          go_ret
          exact ⟨⟨_, rfl, by rw [HU.out]; exact ⟨fun _ => ⟨HPN.out, HKN.out, HKA.out⟩, fun _ => rfl⟩⟩, HZ.out⟩
end Go.Proofs.Ytfekjihjifimcaa

/-! Layer 10: what follows of a node laid over another: laid over twice is as once; what is there still; no name is there twice. -/
namespace Go.Proofs.Ytfekjihjifimcaa
open Go.RowKit
set_option linter.unusedVariables false
set_option linter.unusedSimpArgs false

theorem PN.ind {p : PN → Prop} (h : ∀ n ps ks, (∀ k ∈ ks, p k) → p (.mk n ps ks)) (n : PN) : p n := by
  have : ∀ m : Nat, ∀ n : PN, SizeOf.sizeOf n ≤ m → p n := by
    intro m
    induction m with
    | zero => intro n hn; cases n; simp at hn
    | succ m ih =>
      intro n hn
      cases n with
      | mk a b c =>
        refine h a b c fun k hk => ih k ?_
        have h1 := List.sizeOf_lt_of_mem hk
        simp only [PN.mk.sizeOf_spec] at hn
        omega
  exact this _ n (Nat.le_refl _)
theorem mergeN_name (b a : PN) : (mergeN b a).name = a.name := by cases b; rw [mergeN]; rfl

/-! ### Properties -/
def fstP (s : ByteArray) (l : List (ByteArray × List Int)) : Option (ByteArray × List Int) := l.find? fun x => decide (x.1 = s)
theorem putP_same : ∀ (l : List (ByteArray × List Int)) (p : ByteArray × List Int), fstP p.1 l = some p → putP l p = l
  | [], p, h => by cases h
  | x :: l, p, h => by
    rw [fstP] at h
    rw [putP]
    by_cases hx : x.1 = p.1
    · rw [List.find?_cons_of_pos (by simpa using hx)] at h
      rw [if_pos hx, Option.some.inj h]
    · rw [List.find?_cons_of_neg (by simpa using hx)] at h
      rw [if_neg hx, putP_same l p h]
theorem fst_put_same : ∀ (l : List (ByteArray × List Int)) (p : ByteArray × List Int), fstP p.1 (putP l p) = some p
  | [], p => by rw [putP, fstP, List.find?_cons_of_pos (by simp)]
  | x :: l, p => by
    rw [putP]
    by_cases hx : x.1 = p.1
    · rw [if_pos hx, fstP, List.find?_cons_of_pos (by simp)]
    · rw [if_neg hx, fstP, List.find?_cons_of_neg (by simpa using hx)]
      exact fst_put_same l p
theorem fst_put_other (s : ByteArray) : ∀ (l : List (ByteArray × List Int)) (p : ByteArray × List Int), p.1 ≠ s → fstP s (putP l p) = fstP s l
  | [], p, h => by rw [putP, fstP, List.find?_cons_of_neg (by simpa using h)]; rfl
  | x :: l, p, h => by
    rw [putP]
    by_cases hx : x.1 = p.1
    · rw [if_pos hx, fstP, fstP, List.find?_cons_of_neg (by simpa using h), List.find?_cons_of_neg (by simpa [hx] using h)]
    · rw [if_neg hx, fstP, fstP]
      by_cases hs : x.1 = s
      · rw [List.find?_cons_of_pos (by simpa using hs), List.find?_cons_of_pos (by simpa using hs)]
      · rw [List.find?_cons_of_neg (by simpa using hs), List.find?_cons_of_neg (by simpa using hs)]
        exact fst_put_other s l p h
theorem fst_puts_other (s : ByteArray) : ∀ (ps l : List (ByteArray × List Int)), s ∉ ps.map Prod.fst → fstP s (ps.foldl putP l) = fstP s l
  | [], l, _ => rfl
  | p :: ps, l, h => by
    rw [List.map_cons, List.mem_cons, not_or] at h
    rw [List.foldl_cons, fst_puts_other s ps _ h.2, fst_put_other s l p (fun e => h.1 e.symm)]
theorem fst_puts : ∀ (ps l : List (ByteArray × List Int)), (ps.map Prod.fst).Nodup → ∀ p ∈ ps, fstP p.1 (ps.foldl putP l) = some p
  | q :: ps, l, hn, p, hp => by
    rw [List.map_cons, List.nodup_cons] at hn
    rw [List.foldl_cons]
    rcases List.mem_cons.1 hp with rfl | hp
    · rw [fst_puts_other _ ps _ hn.1, fst_put_same]
    · exact fst_puts ps _ hn.2 p hp
theorem puts_same : ∀ (ps l : List (ByteArray × List Int)), (∀ p ∈ ps, fstP p.1 l = some p) → ps.foldl putP l = l
  | [], l, _ => rfl
  | p :: ps, l, h => by
    rw [List.foldl_cons, putP_same l p (h p (by simp))]
    exact puts_same ps l fun q hq => h q (by simp [hq])
theorem puts_twice (ps l : List (ByteArray × List Int)) (hn : (ps.map Prod.fst).Nodup) : ps.foldl putP (ps.foldl putP l) = ps.foldl putP l := puts_same _ _ (fst_puts ps l hn)
theorem fst_self : ∀ (ps : List (ByteArray × List Int)), (ps.map Prod.fst).Nodup → ∀ p ∈ ps, fstP p.1 ps = some p
  | q :: ps, hn, p, hp => by
    rw [List.map_cons, List.nodup_cons] at hn
    rcases List.mem_cons.1 hp with rfl | hp
    · rw [fstP, List.find?_cons_of_pos (by simp)]
    · have hne : q.1 ≠ p.1 := fun e => hn.1 (by rw [e]; exact List.mem_map_of_mem hp)
      rw [fstP, List.find?_cons_of_neg (by simpa using hne)]
      exact fst_self ps hn.2 p hp
theorem put_names : ∀ (l : List (ByteArray × List Int)) (p : ByteArray × List Int), (putP l p).map Prod.fst = l.map Prod.fst ∧ p.1 ∈ l.map Prod.fst ∨ (putP l p).map Prod.fst = l.map Prod.fst ++ [p.1] ∧ p.1 ∉ l.map Prod.fst
  | [], p => .inr ⟨rfl, by simp⟩
  | x :: l, p => by
    rw [putP]
    by_cases hx : x.1 = p.1
    · rw [if_pos hx]
      exact .inl ⟨by rw [List.map_cons, List.map_cons, hx], by simp [hx]⟩
    · rw [if_neg hx]
      rcases put_names l p with ⟨h1, h2⟩ | ⟨h1, h2⟩
      · exact .inl ⟨by rw [List.map_cons, h1]; rfl, by rw [List.map_cons]; exact List.mem_cons_of_mem _ h2⟩
      · exact .inr ⟨by rw [List.map_cons, h1]; rfl, by rw [List.map_cons, List.mem_cons, not_or]; exact ⟨fun e => hx e.symm, h2⟩⟩
theorem puts_names : ∀ (ps l : List (ByteArray × List Int)), (∃ t, (ps.foldl putP l).map Prod.fst = l.map Prod.fst ++ t) ∧ ((l.map Prod.fst).Nodup → ((ps.foldl putP l).map Prod.fst).Nodup)
  | [], l => ⟨⟨[], by simp⟩, id⟩
  | p :: ps, l => by
    obtain ⟨⟨t, ht⟩, hn⟩ := puts_names ps (putP l p)
    rw [List.foldl_cons]
    rcases put_names l p with ⟨h1, h2⟩ | ⟨h1, h2⟩
    · rw [h1] at ht hn
      exact ⟨⟨t, ht⟩, hn⟩
    · rw [h1] at ht hn
      refine ⟨⟨p.1 :: t, by rw [ht]; simp⟩, fun h => hn ?_⟩
      rw [List.nodup_append]
      exact ⟨h, by simp, fun a ha b hb e => by rw [List.mem_singleton.1 hb] at e; exact h2 (e ▸ ha)⟩

/-! ### Nodes -/
def fstK (s : ByteArray) (l : List PN) : Option PN := l.find? fun x => decide (x.name = s)
section
variable {f : PN → PN} (hf : ∀ x, (f x).name = x.name)
include hf
omit hf in
theorem updK_same : ∀ (l : List PN) (k x : PN), fstK k.name l = some x → f x = x → updK f k l = l
  | [], k, x, h, _ => by cases h
  | y :: l, k, x, h, hx => by
    rw [fstK] at h
    rw [updK]
    by_cases hy : y.name = k.name
    · rw [List.find?_cons_of_pos (by simpa using hy)] at h
      rw [if_pos hy, Option.some.inj h, hx]
    · rw [List.find?_cons_of_neg (by simpa using hy)] at h
      rw [if_neg hy, updK_same l k x h hx]
theorem fst_upd_same : ∀ (l : List PN) (k : PN), fstK k.name (updK f k l) = some (match fstK k.name l with | none => k | some x => f x)
  | [], k => by rw [updK, fstK, List.find?_cons_of_pos (by simp)]; rfl
  | y :: l, k => by
    rw [updK]
    by_cases hy : y.name = k.name
    · rw [if_pos hy, fstK, fstK, List.find?_cons_of_pos (by simpa [hf] using hy), List.find?_cons_of_pos (by simpa using hy)]
    · rw [if_neg hy, fstK, List.find?_cons_of_neg (by simpa using hy)]
      have := fst_upd_same l k
      rw [fstK] at this
      rw [this, fstK, fstK, List.find?_cons_of_neg (by simpa using hy)]
theorem fst_upd_other (s : ByteArray) : ∀ (l : List PN) (k : PN), k.name ≠ s → fstK s (updK f k l) = fstK s l
  | [], k, h => by rw [updK, fstK, List.find?_cons_of_neg (by simpa using h)]; rfl
  | y :: l, k, h => by
    rw [updK]
    by_cases hy : y.name = k.name
    · rw [if_pos hy, fstK, fstK, List.find?_cons_of_neg (by simpa [hf, hy] using h), List.find?_cons_of_neg (by simpa [hy] using h)]
    · rw [if_neg hy, fstK, fstK]
      by_cases hs : y.name = s
      · rw [List.find?_cons_of_pos (by simpa using hs), List.find?_cons_of_pos (by simpa using hs)]
      · rw [List.find?_cons_of_neg (by simpa using hs), List.find?_cons_of_neg (by simpa using hs)]
        exact fst_upd_other s l k h
theorem upd_names : ∀ (l : List PN) (k : PN), (updK f k l).map PN.name = l.map PN.name ∧ k.name ∈ l.map PN.name ∨ (updK f k l).map PN.name = l.map PN.name ++ [k.name] ∧ k.name ∉ l.map PN.name
  | [], k => .inr ⟨rfl, by simp⟩
  | y :: l, k => by
    rw [updK]
    by_cases hy : y.name = k.name
    · rw [if_pos hy]
      exact .inl ⟨by rw [List.map_cons, List.map_cons, hf], by simp [hy]⟩
    · rw [if_neg hy]
      rcases upd_names l k with ⟨h1, h2⟩ | ⟨h1, h2⟩
      · exact .inl ⟨by rw [List.map_cons, h1]; rfl, by rw [List.map_cons]; exact List.mem_cons_of_mem _ h2⟩
      · exact .inr ⟨by rw [List.map_cons, h1]; rfl, by rw [List.map_cons, List.mem_cons, not_or]; exact ⟨fun e => hy e.symm, h2⟩⟩
omit hf in
theorem upd_all {p : PN → Prop} : ∀ (l : List PN) (k : PN), (∀ x ∈ l, p x) → p k → (∀ x ∈ l, p (f x)) → ∀ x ∈ updK f k l, p x
  | [], k, _, hk, _, x, hx => by rw [updK] at hx; rw [List.mem_singleton.1 hx]; exact hk
  | y :: l, k, hl, hk, hfl, x, hx => by
    rw [updK] at hx
    by_cases hy : y.name = k.name
    · rw [if_pos hy] at hx
      rcases List.mem_cons.1 hx with rfl | hx
      · exact hfl y (by simp)
      · exact hl x (by simp [hx])
    · rw [if_neg hy] at hx
      rcases List.mem_cons.1 hx with rfl | hx
      · exact hl _ (by simp)
      · exact upd_all l k (fun z hz => hl z (by simp [hz])) hk (fun z hz => hfl z (by simp [hz])) x hx
end
theorem fst_merges_other (s : ByteArray) : ∀ (ks l : List PN), s ∉ ks.map PN.name → fstK s (mergeL ks l) = fstK s l
  | [], l, _ => by rw [mergeL]
  | k :: ks, l, h => by
    rw [List.map_cons, List.mem_cons, not_or] at h
    rw [mergeL, fst_merges_other s ks _ h.2, fst_upd_other (fun x => mergeN_name k x) s l k (fun e => h.1 e.symm)]
theorem fst_merges : ∀ (ks l : List PN), (ks.map PN.name).Nodup → ∀ k ∈ ks, fstK k.name (mergeL ks l) = some (match fstK k.name l with | none => k | some x => mergeN k x)
  | q :: ks, l, hn, k, hk => by
    rw [List.map_cons, List.nodup_cons] at hn
    rw [mergeL]
    rcases List.mem_cons.1 hk with rfl | hk
    · rw [fst_merges_other _ ks _ hn.1, fst_upd_same (fun x => mergeN_name k x)]
    · rw [fst_merges ks _ hn.2 k hk]
      have hne : q.name ≠ k.name := fun e => hn.1 (by rw [e]; exact List.mem_map_of_mem hk)
      rw [fst_upd_other (fun x => mergeN_name q x) _ l q hne]
theorem merges_same : ∀ (ks l : List PN), (∀ k ∈ ks, ∃ x, fstK k.name l = some x ∧ mergeN k x = x) → mergeL ks l = l
  | [], l, _ => by rw [mergeL]
  | k :: ks, l, h => by
    obtain ⟨x, h1, h2⟩ := h k (by simp)
    rw [mergeL, updK_same l k x h1 h2]
    exact merges_same ks l fun q hq => h q (by simp [hq])
theorem fstK_self : ∀ (ks : List PN), (ks.map PN.name).Nodup → ∀ k ∈ ks, fstK k.name ks = some k
  | q :: ks, hn, k, hk => by
    rw [List.map_cons, List.nodup_cons] at hn
    rcases List.mem_cons.1 hk with rfl | hk
    · rw [fstK, List.find?_cons_of_pos (by simp)]
    · have hne : q.name ≠ k.name := fun e => hn.1 (by rw [e]; exact List.mem_map_of_mem hk)
      rw [fstK, List.find?_cons_of_neg (by simpa using hne)]
      exact fstK_self ks hn.2 k hk
theorem uniq_mk {n : ByteArray} {ps : List (ByteArray × List Int)} {ks : List PN} (h : UniqN (.mk n ps ks)) : (ps.map Prod.fst).Nodup ∧ (ks.map PN.name).Nodup ∧ ∀ k ∈ ks, UniqN k := by
  rw [UniqN, uniqL_all] at h
  exact h
/-- A node laid over itself. -/
theorem merge_self : ∀ n : PN, UniqN n → mergeN n n = n := by
  refine PN.ind ?_
  intro n ps ks ih h
  obtain ⟨h1, h2, h3⟩ := uniq_mk h
  rw [mergeN]
  show PN.mk n (ps.foldl putP ps) (mergeL ks ks) = _
  rw [puts_same ps ps (fst_self ps h1), merges_same ks ks (fun k hk => ⟨k, fstK_self ks h2 k hk, ih k hk (h3 k hk)⟩)]
/-- Laid over twice is as once. -/
theorem merge_twice : ∀ b : PN, UniqN b → ∀ a, mergeN b (mergeN b a) = mergeN b a := by
  refine PN.ind ?_
  intro n ps ks ih h a
  obtain ⟨h1, h2, h3⟩ := uniq_mk h
  rw [mergeN, mergeN]
  show PN.mk a.name (ps.foldl putP (ps.foldl putP a.props)) (mergeL ks (mergeL ks a.kids)) = _
  rw [puts_twice ps _ h1, merges_same ks _ (fun k hk => ?_)]
  rw [fst_merges ks _ h2 k hk]
  cases hx : fstK k.name a.kids with
  | none => exact ⟨k, rfl, merge_self k (h3 k hk)⟩
  | some x => exact ⟨mergeN k x, rfl, ih k hk (h3 k hk) x⟩
/-- Nothing laid over is nothing. -/
theorem merge_nil (n : ByteArray) (a : PN) : mergeN (.mk n [] []) a = a := by
  cases a
  rw [mergeN, mergeL]
  rfl

/-! ### What is there still -/
theorem merges_names : ∀ (ks l : List PN), (∃ t, (mergeL ks l).map PN.name = l.map PN.name ++ t) ∧ ((l.map PN.name).Nodup → ((mergeL ks l).map PN.name).Nodup)
  | [], l => by rw [mergeL]; exact ⟨⟨[], by simp⟩, id⟩
  | k :: ks, l => by
    obtain ⟨⟨t, ht⟩, hn⟩ := merges_names ks (updK (fun x => mergeN k x) k l)
    rw [mergeL]
    rcases upd_names (f := fun x => mergeN k x) (fun x => mergeN_name k x) l k with ⟨h1, h2⟩ | ⟨h1, h2⟩
    · rw [h1] at ht hn
      exact ⟨⟨t, ht⟩, hn⟩
    · rw [h1] at ht hn
      refine ⟨⟨k.name :: t, by rw [ht]; simp⟩, fun h => hn ?_⟩
      rw [List.nodup_append]
      exact ⟨h, by simp, fun a ha b hb e => by rw [List.mem_singleton.1 hb] at e; exact h2 (e ▸ ha)⟩
theorem merge_uniq : ∀ b : PN, UniqN b → ∀ a, UniqN a → UniqN (mergeN b a) := by
  refine PN.ind ?_
  intro n ps ks ih h a ha
  obtain ⟨h1, h2, h3⟩ := uniq_mk h
  obtain ⟨an, aps, aks⟩ := a
  obtain ⟨g1, g2, g3⟩ := uniq_mk ha
  rw [mergeN]
  show UniqN (.mk an (ps.foldl putP aps) (mergeL ks aks))
  rw [UniqN, uniqL_all]
  refine ⟨(puts_names ps aps).2 g1, (merges_names ks aks).2 g2, ?_⟩
  have go : ∀ (r : List PN), (∀ k ∈ r, k ∈ ks) → ∀ l : List PN, (∀ k ∈ l, UniqN k) → ∀ k ∈ mergeL r l, UniqN k := by
    intro r
    induction r with
    | nil => intro _ l hl; rw [mergeL]; exact hl
    | cons k r ihr =>
      intro hr l hl
      rw [mergeL]
      have hk := hr k (by simp)
      exact ihr (fun x hx => hr x (by simp [hx])) _ (upd_all l k hl (h3 k hk) (fun x hx => ih k hk (h3 k hk) x (hl x hx)))
  exact go ks (fun _ h => h) aks g3
/-- Where the first one of a name is. -/
theorem fstP_idx : ∀ (l : List (ByteArray × List Int)) (s : ByteArray) (p : ByteArray × List Int), fstP s l = some p → ∃ (k : Nat) (h : k < l.length), idxOf (l.map Prod.fst) s = (k : Int) ∧ l[k] = p
  | [], s, p, h => by cases h
  | x :: l, s, p, h => by
    rw [fstP] at h
    rw [List.map_cons, idxOf]
    by_cases hx : x.1 = s
    · rw [List.find?_cons_of_pos (by simpa using hx)] at h
      exact ⟨0, by simp, by rw [if_pos hx]; rfl, Option.some.inj h⟩
    · rw [List.find?_cons_of_neg (by simpa using hx)] at h
      obtain ⟨k, h1, h2, h3⟩ := fstP_idx l s p h
      exact ⟨k + 1, by simpa using h1, by rw [if_neg hx, h2, if_neg (by omega)]; omega, by simpa using h3⟩
theorem fstK_idx (l : List PN) (s : ByteArray) (x : PN) (h : fstK s l = some x) : 0 ≤ idxOf (l.map PN.name) s := by
  refine idx_mem _ _ ?_
  have h1 := List.mem_of_find?_eq_some h
  have h2 := List.find?_some h
  simp only [decide_eq_true_eq] at h2
  rw [← h2]
  exact List.mem_map_of_mem h1
end Go.Proofs.Ytfekjihjifimcaa

/-! The bytes of ten numbers, and the ten numbers of bytes. -/
namespace Go.Proofs.Ytfekjihjifimcaa
open Go.RowKit
set_option linter.unusedVariables false
set_option linter.unusedSimpArgs false

/-- The bytes of the first k of the numbers. -/
def fours (f : Nat → Int) (k : Nat) : List Int := (List.range k).flatMap fun i => four (f i)
theorem fours_succ (f : Nat → Int) (k : Nat) : fours f (k + 1) = fours f k ++ four (f k) := by
  simp [fours, List.range_succ]
theorem fours_length (f : Nat → Int) : ∀ k, (fours f k).length = k * 4
  | 0 => rfl
  | k + 1 => by rw [fours_succ, List.length_append, fours_length f k]; simp [four]; omega
theorem fours_byte (f : Nat → Int) (hf : ∀ i, 0 ≤ f i ∧ f i ≤ 4294967295) (k : Nat) : ∀ z ∈ fours f k, 0 ≤ z ∧ z < 256 := by
  intro z hz
  obtain ⟨i, _, h⟩ := List.mem_flatMap.1 hz
  exact four_byte _ (hf i).1 (hf i).2 z h
theorem numTo_four (a b : List Int) (v : Int) (h0 : 0 ≤ v) : numTo (a ++ (four v ++ b)) a.length 4 = v := by
  have e : ∀ i, (a ++ (four v ++ b)).getD (a.length + i) 0 = (four v ++ b).getD i 0 := fun i => by
    simp [List.getD, List.getElem?_append_right]
  simp only [numTo, e]
  simp only [four, List.cons_append, List.nil_append, List.getD_cons_zero, List.getD_cons_succ]
  omega
theorem hcell_fours (f : Nat → Int) (hf : ∀ i, 0 ≤ f i ∧ f i ≤ 4294967295) (b : List Int) (k : Nat) (hk : k < 10) : hcell (fours f 10 ++ b) k = f k := by
  have h : ∀ m, k < m → m ≤ 10 → ∃ c, fours f m = fours f k ++ (four (f k) ++ c) := by
    intro m
    induction m with
    | zero => omega
    | succ m ih =>
      intro h1 h2
      rcases Nat.lt_or_ge k m with h | h
      · obtain ⟨c, hc⟩ := ih h (by omega)
        exact ⟨c ++ four (f m), by rw [fours_succ, hc]; simp⟩
      · obtain rfl : m = k := by omega
        exact ⟨[], by rw [fours_succ]; simp⟩
  obtain ⟨c, hc⟩ := h 10 hk (Nat.le_refl _)
  unfold hcell
  rw [hc, ← fours_length f k]
  simp only [List.append_assoc]
  exact numTo_four _ _ _ (hf k).1

end Go.Proofs.Ytfekjihjifimcaa

/-! Layer 3: what is asked of a node itself. -/
namespace Go.Proofs.Ytfekjihjifimcaa
open Go.RowKit
set_option linter.unusedVariables false
set_option linter.unusedSimpArgs false

/-- A property whose name is none. -/
def misP (p : PV) : Bool := !propB p.name
/-- May a node at that depth bear its name? -/
noncomputable def nameOk (n : Nd) (d : Int) : Bool := if d = 1 then n.name.toList.isEmpty else nodeB n.name
/-- The first error of a node itself. -/
noncomputable def aloneE (n : Nd) (d : Int) : Int :=
  if 16 < d then 6 else if nameOk n d = false then 5 else if n.props.any misP = true then 5 else if twiceB (n.props.map PV.name) = true then 9 else if twiceB (n.kids.map Nd.name) = true then 9 else 0

/-- None of the first k is bad. -/
def Good {α : Type} (f : α → Bool) (l : List α) (k : Nat) : Prop := ∀ j (hj : j < l.length), j < k → f l[j] = false
theorem Good.zero {α : Type} (f : α → Bool) (l : List α) : Good f l 0 := fun _ _ h => absurd h (Nat.not_lt_zero _)
theorem Good.succ {α : Type} {f : α → Bool} {l : List α} {k : Nat} (h : Good f l k) (hk : k < l.length) (he : f l[k] = false) : Good f l (k + 1) := fun j hj hlt => by
  rcases Nat.lt_succ_iff_lt_or_eq.1 hlt with h' | rfl
  · exact h j hj h'
  · exact he
theorem Good.all {α : Type} {f : α → Bool} {l : List α} {k : Nat} (h : Good f l k) (hk : ¬ k < l.length) : l.any f = false := by
  rw [List.any_eq_false]
  intro x hx
  obtain ⟨i, hi, rfl⟩ := List.getElem_of_mem hx
  rw [h i hi (by omega)]
  simp
theorem any_at {α : Type} {f : α → Bool} {l : List α} {k : Nat} (hk : k < l.length) (he : f l[k] = true) : l.any f = true := List.any_eq_true.2 ⟨_, List.getElem_mem hk, he⟩

end Go.Proofs.Ytfekjihjifimcaa

/-! Layer 3: a tree as it lies in memory; whether there are too many. -/
namespace Go.Proofs.Ytfekjihjifimcaa
open Go.RowKit Go.ChangeShapes Go.WideShapes Go.Deep
set_option linter.unusedVariables false
set_option linter.unusedSimpArgs false

/-- A tree as it lies: its reserves' slice, and its root. -/
structure Tr where
  boot : Int
  ra : Option Addr
  rc : Nat
  rs : List (Int × Int)
  root : Nd

def Tr.rv (t : Tr) : Value := .slice t.ra t.rs.length t.rc
def Tr.val (t : Tr) : Value := .agg #[.int .u32 t.boot, t.rv, .string t.root.name, t.root.pv, t.root.kv]

/-- The cells of a row of reserves. -/
def RRow (w : World) (B : Nat) (a : Option Addr) (l : List (Int × Int)) : Prop :=
  0 < l.length → ∃ b o, a = some ⟨b, o, none⟩ ∧ b < B ∧ ∀ i (h : i < l.length), w.cell? ⟨b, o + i * 2, none⟩ = some (.int .u64 l[i].1) ∧ w.cell? ⟨b, o + i * 2 + 1, none⟩ = some (.int .u64 l[i].2)

structure Tr.In (w : World) (B : Nat) (t : Tr) : Prop where
  boot : 0 ≤ t.boot ∧ t.boot ≤ 4294967295
  len : t.rs.length ≤ t.rc ∧ t.rc ≤ 9223372036854775807 ∧ t.rs.length * 16 ≤ 140737488351232
  row : RRow w B t.ra t.rs
  nums : ∀ r ∈ t.rs, (0 ≤ r.1 ∧ r.1 ≤ 18446744073709551615) ∧ (0 ≤ r.2 ∧ r.2 ≤ 18446744073709551615)
  root : t.root.In w B

section
variable {w w' : World} {B B' : Nat}
theorem RRow.keep {a : Option Addr} {l : List (Int × Int)} (h : RRow w B a l) (hk : ∀ a : Addr, a.block < B → w'.cell? a = w.cell? a) : RRow w' B a l := fun h0 => by
  obtain ⟨b, o, e, hb, hc⟩ := h h0
  exact ⟨b, o, e, hb, fun i hi => ⟨(hk _ hb).trans (hc i hi).1, (hk _ hb).trans (hc i hi).2⟩⟩
theorem RRow.more {a : Option Addr} {l : List (Int × Int)} (h : RRow w B a l) (hB : B ≤ B') : RRow w B' a l := fun h0 => by
  obtain ⟨b, o, e, hb, hc⟩ := h h0
  exact ⟨b, o, e, by omega, hc⟩
theorem Tr.In.under {t : Tr} (h : t.In w B) (hb : Below B w w') : t.In w' B := ⟨h.boot, h.len, h.row.keep (fun _ hp => hb.cell hp), h.nums, h.root.under hb⟩
theorem Tr.In.more {t : Tr} (h : t.In w B) (hB : B ≤ B') : t.In w B' := ⟨h.boot, h.len, h.row.more hB, h.nums, h.root.more hB⟩
theorem Tr.In.on {t : Tr} (h : t.In w w.heap.size) (hb : Below w.heap.size w w') : t.In w' w'.heap.size := (h.under hb).more hb.size
theorem Tr.In.rcell {t : Tr} (h : t.In w B) {i : Nat} (hi : i < t.rs.length) : ∃ b o, t.ra = some ⟨b, o, none⟩ ∧ b < B ∧ w.cell? ⟨b, o + i * 2, none⟩ = some (.int .u64 t.rs[i].1) ∧ w.cell? ⟨b, o + i * 2 + 1, none⟩ = some (.int .u64 t.rs[i].2) := by
  obtain ⟨b, o, e, hb, hc⟩ := h.row (by omega)
  exact ⟨b, o, e, hb, hc i hi⟩
end

theorem Try.cellsRes : Try.prog.cellsOf 71 = 2 := by kernel_rfl
theorem Try.cellsRess : Try.prog.cellsOf 36 = 1 := by kernel_rfl
theorem Try.cellsU64 : Try.prog.cellsOf 69 = 1 := by kernel_rfl
theorem Try.cellsU32 : Try.prog.cellsOf 35 = 1 := by kernel_rfl
theorem Try.cellsTree : Try.prog.cellsOf 38 = 5 := by kernel_rfl
theorem Try.bytesRes : Try.prog.bytesOf 71 = 16 := by kernel_rfl

section
variable {H : Type} {enc : TypeId × Value → H} {w : World} {base : Nat} {spare : Nat → Bool} {held : Bool}

theorem open_res {fuel : Nat} {cs : List Value} {x : DataW H × List MemPlace} (h : DataW.trod enc Try.prog w base spare held fuel 71 cs = some x) :
    ∃ r : Int × Int, cs = [.int .u64 r.1, .int .u64 r.2] ∧ (0 ≤ r.1 ∧ r.1 ≤ 18446744073709551615) ∧ (0 ≤ r.2 ∧ r.2 ≤ 18446744073709551615) := by
  obtain ⟨y0, y1, n, rfl, hl, h0, h1⟩ := trod_struct2 Try.underlying71 h
  rw [Try.cellsRes] at hl
  obtain ⟨c0, c1, rfl⟩ : ∃ c0 c1, cs = [c0, c1] := by
    exact two_of hl
  rw [Try.cellsU64] at h0 h1
  obtain ⟨a, e0, _, w0⟩ := DataW.trod_int Try.underlying69 h0
  obtain ⟨c, e1, _, w1⟩ := DataW.trod_int Try.underlying69 h1
  simp only [List.drop_succ_cons, List.drop_zero, List.take_succ_cons, List.take_zero, List.cons.injEq, and_true] at e0 e1
  subst e0 e1
  exact ⟨(a, c), rfl, bounds_u64 w0, bounds_u64 w1⟩

/-- A tree that came in is such a tree. -/
theorem open_tr {fuel : Nat} {cs : List Value} {x : DataW H × List MemPlace} (h : DataW.trod enc Try.prog w base spare held fuel 38 cs = some x) (hw : ∀ z ∈ DataW.weights Try.prog 38 x.1, z ≤ 140737488351232) :
    ∃ t : Tr, cs = [.int .u32 t.boot, t.rv, .string t.root.name, t.root.pv, t.root.kv] ∧ t.In w w.heap.size := by
  obtain ⟨y0, y1, y2, n, rfl, hl, h0, h1, h2⟩ := trod_struct3 Try.underlying38 h
  rw [Try.cellsTree] at hl
  obtain ⟨c0, c1, c2, c3, c4, rfl⟩ : ∃ c0 c1 c2 c3 c4, cs = [c0, c1, c2, c3, c4] := by
    exact five_of hl
  rw [Try.cellsU32] at h0
  rw [Try.cellsRess] at h1
  rw [Try.cellsNode] at h2
  simp only [List.drop_zero, List.drop_succ_cons, List.take_succ_cons, List.take_zero] at h0 h1 h2
  simp only [DataW.weights, DataW.weightsEach, Try.underlying38, List.map_cons, List.map_nil] at hw
  have hw1 := fun z hz => hw z (List.mem_append_right _ (List.mem_append_left _ hz))
  have hw2 := fun z hz => hw z (List.mem_append_right _ (List.mem_append_right _ (List.mem_append_left _ hz)))
  obtain ⟨boot, e0, _, wb⟩ := DataW.trod_int Try.underlying35 h0
  obtain ⟨ra, rc, rs, e1, hr1, hr2, hr3, hrg, hrow⟩ := open_row (c := 2) (fun r : Int × Int => [.int .u64 r.1, .int .u64 r.2]) (fun r => (0 ≤ r.1 ∧ r.1 ≤ 18446744073709551615) ∧ (0 ≤ r.2 ∧ r.2 ≤ 18446744073709551615)) Try.underlying36 Try.cellsRes (by omega) (fun _ => rfl) (fun n cs y _ hy _ => open_res hy) h1 hw1
  obtain ⟨root, e2, hin⟩ := open_nd _ n _ _ (Nat.le_refl _) h2 hw2
  simp only [List.cons.injEq, and_true] at e0 e1 e2
  obtain ⟨rfl, rfl, rfl⟩ := e2
  subst e0 e1
  rw [Try.bytesRes] at hr3
  exact ⟨⟨boot, ra, rc, rs, root⟩, rfl, bounds_u32 wb, ⟨hr1, hr2, hr3⟩, fun h0 => by
    obtain ⟨b, o, e, hb, hc⟩ := hrow h0
    exact ⟨b, o, e, hb, fun i hi => ⟨hc i hi 0 (by omega), hc i hi 1 (by omega)⟩⟩, hrg, hin⟩
end

/-- A reserve of noughts. -/
def zeroR (r : Int × Int) : Bool := decide (r.1 = 0) && decide (r.2 = 0)

/-- Are there too many? -/
def manyE (t : Tr) : Int := if 4096 < wrap64 (nodesN t.root) ∨ 8192 < wrap64 (propsN t.root) ∨ 64 < t.rs.length then 7 else if t.rs.any zeroR = true then 7 else 0

end Go.Proofs.Ytfekjihjifimcaa

/-! The document's blob: a tree's bytes. -/
namespace Go.Proofs.Ytfekjihjifimcaa
open Go.RowKit
set_option linter.unusedVariables false
set_option linter.unusedSimpArgs false

/-- The eight bytes of a number. -/
def eight (v : Int) : List Int := four (v / 4294967296) ++ four (v % 4294967296)
/-- The reserves' bytes. -/
def resL (rs : List (Int × Int)) : List Int := rs.flatMap fun r => eight r.1 ++ eight r.2
theorem resL_next (rs : List (Int × Int)) (j : Nat) (h : j < rs.length) : resL (rs.take (j + 1)) = resL (rs.take j) ++ (eight rs[j].1 ++ eight rs[j].2) := by
  unfold resL
  rw [take_next rs j h, List.flatMap_append]; simp
theorem resL_length (rs : List (Int × Int)) : (resL rs).length = 16 * rs.length := by
  induction rs with
  | nil => rfl
  | cons r l ih =>
    have e : resL (r :: l) = (eight r.1 ++ eight r.2) ++ resL l := by simp [resL]
    rw [e, List.length_append, ih]
    simp only [eight, four, List.length_append, List.length_cons, List.length_nil]
    omega
/-- The texts' bytes. -/
def textB (l : List ByteArray) : List Int := l.flatMap fun s => strB s ++ [0]
theorem textB_next (l : List ByteArray) (j : Nat) (h : j < l.length) : textB (l.take (j + 1)) = textB (l.take j) ++ (strB l[j] ++ [0]) := by
  unfold textB
  rw [take_next l j h, List.flatMap_append]; simp
theorem textB_length (l : List ByteArray) : (textB l).length = textSize l := by
  induction l with
  | nil => rfl
  | cons s r ih =>
    have e : textB (s :: r) = (strB s ++ [0]) ++ textB r := by simp [textB]
    rw [e, List.length_append, ih]
    simp only [textSize, List.length_append, strB_length, List.length_cons, List.length_nil]

/-! ### How heavy the texts are -/
theorem addT_size (l : List ByteArray) (s : ByteArray) : textSize (addT l s) ≤ textSize l + (s.size + 1) := by
  unfold addT
  split
  · omega
  · rw [textSize_append]; simp only [textSize]; omega
theorem fold_size : ∀ (ps : List PV) (l : List ByteArray), textSize ((ps.map PV.name).foldl addT l) ≤ textSize l + (ps.map heftP).sum
  | [], l => by simp
  | p :: ps, l => by
    have h1 := addT_size l p.name
    have h2 := fold_size ps (addT l p.name)
    simp only [List.map_cons, List.foldl_cons, List.sum_cons]
    have h3 : heftP p = 16 + p.name.size + p.zs.length := rfl
    omega
theorem textsN_size : ∀ (n : Nd) (l : List ByteArray), textSize (textsN n l) ≤ textSize l + heftN n := by
  refine Nd.ind ?_
  intro n ih l
  obtain ⟨nm, pa, pc, ps, ka, kc, ks⟩ := n
  have hl : ∀ (r : List Nd), (∀ k ∈ r, k ∈ ks) → ∀ l, textSize (textsL r l) ≤ textSize l + heftL r := by
    intro r
    induction r with
    | nil => intro _ l; simp [textsL]
    | cons k r ihr =>
      intro hr l
      have h1 := ih k (hr k (by simp)) l
      have h2 := ihr (fun x hx => hr x (by simp [hx])) (textsN k l)
      simp only [textsL, heftL]
      omega
  have h1 := fold_size ps l
  have h2 := hl ks (fun _ h => h) ((ps.map PV.name).foldl addT l)
  simp only [textsN, heftN]
  omega
theorem propsN_heft : ∀ n : Nd, propsN n ≤ heftN n := by
  refine Nd.ind ?_
  intro n ih
  obtain ⟨nm, pa, pc, ps, ka, kc, ks⟩ := n
  have hl : ∀ (r : List Nd), (∀ k ∈ r, k ∈ ks) → propsL r ≤ heftL r := by
    intro r
    induction r with
    | nil => intro _; simp [propsL]
    | cons k r ihr =>
      intro hr
      have h1 := ih k (hr k (by simp))
      have h2 := ihr (fun x hx => hr x (by simp [hx]))
      simp only [propsL, heftL]
      omega
  have h0 : ps.length ≤ (ps.map heftP).sum := by
    clear ih hl
    induction ps with
    | nil => simp
    | cons p r ih =>
      have h3 : heftP p = 16 + p.name.size + p.zs.length := rfl
      simp only [List.length_cons, List.map_cons, List.sum_cons]
      omega
  have h2 := hl ks (fun _ h => h)
  simp only [propsN, heftN]
  omega

/-! ### The whole -/
def textsT (t : Tr) : List ByteArray := textsN t.root []
def structT (t : Tr) : List Int := nodeN (textsT t) t.root ++ [0, 0, 0, 9]
def reserveT (t : Tr) : List Int := resL t.rs ++ List.replicate 16 0
/-- The ten cells of a tree's header. -/
def headT (t : Tr) (k : Nat) : Nat := [3490578157, 40 + (reserveT t).length + (structT t).length + (textB (textsT t)).length, 40 + (reserveT t).length, 40 + (reserveT t).length + (structT t).length, 40, 17, 16, t.boot.toNat, (textB (textsT t)).length, (structT t).length].getD k 0
/-- A tree's bytes. -/
def blobT (t : Tr) : List Int := fours (fun k => (headT t k : Int)) 10 ++ (reserveT t ++ (structT t ++ textB (textsT t)))

theorem Mid.appendStr {B : Nat} {W0 W : World} {v : Value} {zs : List Int} (h : Mid B W0 W v zs) (s : ByteArray) (hbig : zs.length + s.size ≤ 140737488351232) (ty : TypeId) :
    ∃ v' W', (Builtin.append_ #[30, 9] ty #[v, .string s]).run Try.prog W = .ok v' W' ∧ Mid B W0 W' v' (zs ++ strB s) := by
  obtain ⟨i0, hi0, hz0, hz1, hz2⟩ := info_parts info_u8
  obtain ⟨v', W', h1, h2, h3, _⟩ := Lib.run_append_own_string (P := Try.prog) W B 30 9 ty 5 i0 Try.underlying30 Try.underlying9 hi0 hz0 hz1 hz2 v _ _ h.1 s (by unfold maxLen; omega) (by omega) h.2.2.1
  have hb := h.2.1.grown h3 h.2.2.1 (fun q hq => (h.1.lt q hq).1)
  refine ⟨v', W', h1, ?_, hb, Nat.le_trans h.2.2.1 h3.size, fun z hz => (List.mem_append.1 hz).elim (h.2.2.2 z) (strB_byte s z)⟩
  rw [List.length_append, strB_length, u8s, List.map_append]
  have e : Lib.strCells s = u8s (strB s) := by simp [Lib.strCells, strB]
  rw [e] at h2
  exact h2
theorem Mid.appendZeros {B : Nat} {W0 W : World} {v : Value} {zs : List Int} (h : Mid B W0 W v zs) (m : Nat) (hbig : zs.length + m ≤ 140737488351232) (ty : TypeId) :
    ∃ v' W', (Builtin.append_ #[30, 3] ty #[v, .int .i64 (m : Int)]).run Try.prog W = .ok v' W' ∧ Mid B W0 W' v' (zs ++ List.replicate m 0) := by
  obtain ⟨i0, hi0, hz0, hz1, hz2⟩ := info_parts info_u8
  obtain ⟨v', W', h1, h2, h3⟩ := run_append_zeros W i0 hi0 hz0 hz1 hz2 B v _ _ h.1 m hbig h.2.2.1 ty
  have hb := h.2.1.grown h3 h.2.2.1 (fun q hq => (h.1.lt q hq).1)
  refine ⟨v', W', h1, ?_, hb, Nat.le_trans h.2.2.1 h3.size, bytes_more h.2.2.2 m⟩
  rw [List.length_append, List.length_replicate, u8s, List.map_append]
  exact h2
theorem Mid.start (W : World) : Mid W.heap.size W W (.slice none 0 0) [] := ⟨World.ownsRow_nil _ _ _ _, Below.refl _ _, Nat.le_refl _, by simp⟩
/-- A row that is through is only read from here on. -/
theorem Mid.shown {B : Nat} {W0 W : World} {v : Value} {zs : List Int} (h : Mid B W0 W v zs) : ∃ A c, v = .slice A zs.length c ∧ Shows W W.heap.size A zs.length zs ∧ zs.length ≤ c ∧ c ≤ 9223372036854775807 := owned_shows h.1 h.2.2.2
end Go.Proofs.Ytfekjihjifimcaa

/-! Layer 3: the first error of a node, and of those below it. -/
namespace Go.Proofs.Ytfekjihjifimcaa
open Go.RowKit
set_option linter.unusedVariables false
set_option linter.unusedSimpArgs false

mutual
/-- The first error of a node at a depth, and of all below it. -/
noncomputable def wrongN : Nd → Int → Int
  | .mk a b c p e f ks, d => if aloneE (.mk a b c p e f ks) d = 0 then wrongL ks (d + 1) else aloneE (.mk a b c p e f ks) d
noncomputable def wrongL : List Nd → Int → Int
  | [], _ => 0
  | k :: l, d => if wrongN k d = 0 then wrongL l d else wrongN k d
end
theorem wrongN_mk (n : Nd) (d : Int) : wrongN n d = if aloneE n d = 0 then wrongL n.kids (d + 1) else aloneE n d := by
  cases n
  rw [wrongN]
  rfl
theorem wrongL_hit (d : Int) : ∀ (l : List Nd) (k : Nat) (hk : k < l.length), (∀ j (hj : j < l.length), j < k → wrongN l[j] d = 0) → wrongN l[k] d ≠ 0 → wrongL l d = wrongN l[k] d
  | x :: l, 0, hk, _, h => by
    have h' : wrongN x d ≠ 0 := h
    rw [wrongL, if_neg h']
    rfl
  | x :: l, k + 1, hk, h', h => by
    have h0 : wrongN x d = 0 := h' 0 (by simp) (by omega)
    rw [wrongL, if_pos h0, wrongL_hit d l k (by simpa using hk) (fun j hj hlt => h' (j + 1) (by simpa using hj) (by omega)) h]
    rfl
theorem wrongL_all (d : Int) : ∀ (l : List Nd), (∀ j (hj : j < l.length), wrongN l[j] d = 0) → wrongL l d = 0
  | [], _ => rfl
  | x :: l, h => by
    have h0 : wrongN x d = 0 := h 0 (by simp)
    rw [wrongL, if_pos h0, wrongL_all d l (fun j hj => h (j + 1) (by simpa using hj))]
/-- The first k have no error. -/
def Fine (l : List Nd) (d : Int) (k : Nat) : Prop := ∀ j (hj : j < l.length), j < k → wrongN l[j] d = 0
theorem Fine.zero (l : List Nd) (d : Int) : Fine l d 0 := fun _ _ h => absurd h (Nat.not_lt_zero _)
theorem Fine.succ {l : List Nd} {d : Int} {k : Nat} (h : Fine l d k) (hk : k < l.length) (he : wrongN l[k] d = 0) : Fine l d (k + 1) := fun j hj hlt => by
  rcases Nat.lt_succ_iff_lt_or_eq.1 hlt with h' | rfl
  · exact h j hj h'
  · exact he
theorem alone_deep {n : Nd} {d : Int} (h : aloneE n d = 0) : d ≤ 16 := by
  by_cases h16 : 16 < d
  · rw [aloneE, if_pos h16] at h; omega
  · omega

end Go.Proofs.Ytfekjihjifimcaa

/-! Layer 3: the document's first error of a node, and of those below it. -/
namespace Go.Proofs.Ytfekjihjifimcaa
open Go.RowKit
set_option linter.unusedVariables false
set_option linter.unusedSimpArgs false

theorem mem_take_at {α : Type} {l : List α} {k i : Nat} (hk : k < l.length) (hki : k < i) : l[k] ∈ l.take i :=
  List.mem_iff_getElem.2 ⟨k, by rw [List.length_take]; omega, by rw [List.getElem_take]⟩
theorem not_mem_missed {l : List ByteArray} {s : ByteArray} {i : Nat} (h : Missed l s i) : s ∉ l.take i := fun hm => by
  obtain ⟨k, hk, he⟩ := List.mem_iff_getElem.1 hm
  rw [List.length_take] at hk
  rw [List.getElem_take] at he
  exact h.2 k (by omega) (by omega) he

end Go.Proofs.Ytfekjihjifimcaa

/-! Layer 3: the first error of a tree, the program's and the document's. -/
namespace Go.Proofs.Ytfekjihjifimcaa
open Go.RowKit
set_option linter.unusedVariables false
set_option linter.unusedSimpArgs false
attribute [local go_sem ↓] Go.wp_at_zero Go.wp_at_succ

/-- The first error of a tree. -/
noncomputable def checkE (t : Tr) : Int := if wrongN t.root 1 = 0 then manyE t else wrongN t.root 1

set_option maxHeartbeats 4000000 in
theorem few_any (t : Tr) (w : World) (hin : t.In w w.heap.size) :
    Calls Try.prog 14 #[t.val] w fun e w' => (∃ r : Bool, e = .returned (.bool r)) ∧ Below w.heap.size w w' := by
  have C1 := Lib.hid (fun w h => size_any t.root 0 w h (by omega) (by omega))
  have HI := Lib.hid hin
  clear hin
  obtain ⟨boot, ra, rc, rs, ⟨nm, pa, pc, ps, ka, kc, ks⟩⟩ := t
  show Calls _ _ #[.agg #[.int .u32 boot, .slice ra rs.length rc, .string nm, .slice pa ps.length pc, .slice ka ks.length kc]] _ _
  have HB := Lib.hid ((Below.refl w.heap.size w).alloc (Nat.le_refl _) (.cells #[.int .u32 boot, .slice ra rs.length rc, .string nm, .slice pa ps.length pc, .slice ka ks.length kc] 38))
  go_enter Try.func14, Try.ntmps14
  go_wp2_with fail
  refine (C1.out _ ((HI.out.on HB.out).root)).mono ?_
  rintro e w1 ⟨⟨z, rfl⟩, hb⟩
  have HB1 := Lib.hid (HB.out.trans (hb.mono HB.out.size))
  have b1 := (hb.cell (p := ⟨w.heap.size, 1, none⟩) (by simp)).trans (World.cell?_alloc_new _ _ _ _)
  replace b1 : _ = some (Value.slice ra rs.length rc) := b1
  clear hb
  by_cases hz : z ≤ 100000
  · go_wp2
    go_ret
    exact ⟨⟨_, rfl⟩, HB1.out⟩
  · go_wp2
    go_ret
    first | exact ⟨⟨_, rfl⟩, HB1.out⟩ | exact ⟨.inl rfl, HB1.out⟩

end Go.Proofs.Ytfekjihjifimcaa

/-! Layer 4, DecodeCuts: of a formed tree's bytes that are cut off, or have others behind them, nothing is read. -/
namespace Go.Proofs.Ytfekjihjifimcaa
open Go.RowKit
set_option linter.unusedVariables false
set_option linter.unusedSimpArgs false

theorem numTo_more (zs ys : List Int) (a : Nat) : ∀ k, a + k ≤ zs.length → numTo (zs ++ ys) a k = numTo zs a k
  | 0, _ => rfl
  | k + 1, h => by
    have ih := numTo_more zs ys a k (by omega)
    simp only [numTo, ih]
    congr 1
    simp [List.getD, List.getElem?_append_left (show a + k < zs.length by omega)]
theorem hcell_more (zs ys : List Int) (k : Nat) (hk : k < 10) (h : 40 ≤ zs.length) : hcell (zs ++ ys) k = hcell zs k := numTo_more zs ys (k * 4) 4 (by omega)
theorem hcell_take (zs : List Int) (m k : Nat) (hk : k < 10) (h : 40 ≤ m) (hm : m ≤ zs.length) : hcell (zs.take m) k = hcell zs k := by
  have e := hcell_more (zs.take m) (zs.drop m) k hk (by rw [List.length_take]; omega)
  rw [List.take_append_drop] at e
  exact e.symm

/-- A blob's first cells. -/
theorem blob_head (t : Tr) (hb : 0 ≤ t.boot ∧ t.boot ≤ 4294967295) (h : 40 + (reserveT t).length + (structT t).length + (textB (textsT t)).length ≤ 4294967295) (k : Nat) (hk : k < 10) : hcell (blobT t) k = headT t k := by
  have hall : ∀ j, j < 10 → (headT t j : Int) ≤ 4294967295 := by
    intro j hj
    rcases (by omega : j = 0 ∨ j = 1 ∨ j = 2 ∨ j = 3 ∨ j = 4 ∨ j = 5 ∨ j = 6 ∨ j = 7 ∨ j = 8 ∨ j = 9) with rfl | rfl | rfl | rfl | rfl | rfl | rfl | rfl | rfl | rfl
    all_goals simp only [headT, List.getD_cons_zero, List.getD_cons_succ]
    all_goals omega
  have hf : ∀ i, 0 ≤ (if i < 10 then (headT t i : Int) else 0) ∧ (if i < 10 then (headT t i : Int) else 0) ≤ 4294967295 := by
    intro i
    by_cases hi : i < 10
    · rw [if_pos hi]; exact ⟨by omega, hall i hi⟩
    · rw [if_neg hi]; omega
  have e : fours (fun k => (headT t k : Int)) 10 = fours (fun i => if i < 10 then (headT t i : Int) else 0) 10 := by
    unfold fours
    rw [List.flatMap_def, List.flatMap_def]
    refine congrArg List.flatten (List.map_congr_left fun j hj => ?_)
    simp only [if_pos (List.mem_range.1 hj)]
  rw [blobT, e, hcell_fours (fun i => if i < 10 then (headT t i : Int) else 0) hf _ k hk, if_pos hk]
theorem blob_length (t : Tr) : (blobT t).length = headT t 1 := by
  simp only [blobT, List.length_append, fours_length, headT, List.getD_cons_zero, List.getD_cons_succ]
  omega
theorem headT_lit (t : Tr) : headT t 0 = 3490578157 ∧ headT t 5 = 17 ∧ headT t 6 = 16 := ⟨rfl, rfl, rfl⟩

theorem Mid.made (W : World) : Mid W.heap.size W (W.alloc (.cells #[] 5)) (.slice (some ⟨W.heap.size, 0, none⟩) 0 0) [] :=
  ⟨World.ownsRow_made W #[] 0 (Nat.le_refl _) (Nat.zero_le _) rfl, (Below.refl _ _).alloc (Nat.le_refl _) _, by simp, by simp⟩

end Go.Proofs.Ytfekjihjifimcaa

/-! Layer 5: what a formed tree's bytes say, read, is the tree. -/
namespace Go.Proofs.Ytfekjihjifimcaa
open Go.RowKit
set_option linter.unusedVariables false
set_option linter.unusedSimpArgs false

/-! ### Names have no nought -/
theorem okM_nz {m : List UInt8} (hm : (0 : UInt8) ∉ m) {c : UInt8} (h : okM m c = true) : c ≠ 0 := by
  rintro rfl
  unfold okM at h
  have e : ¬ 0 ≤ Lib.indexByte m 0 := by
    intro h0
    obtain ⟨k, hk⟩ := Int.eq_ofNat_of_zero_le h0
    obtain ⟨h1, h2⟩ := Lib.indexByte_some hk
    exact hm (List.mem_of_getElem? h1)
  simp [letB, digB, e] at h
theorem madeB_nz {m : List UInt8} (hm : (0 : UInt8) ∉ m) {l : List UInt8} (h : madeB m l = true) : (0 : UInt8) ∉ l := by
  intro h0
  unfold madeB at h
  simp only [Bool.and_eq_true, List.all_eq_true] at h
  exact okM_nz hm (h.2 0 h0) rfl
theorem strB_nz {s : ByteArray} (h : (0 : UInt8) ∉ s.data.toList) : (0 : Int) ∉ strB s := by
  intro h0
  obtain ⟨b, hb, e⟩ := List.mem_map.1 h0
  have e2 : b = 0 := by
    apply UInt8.toNat_inj.1
    simpa using e
  exact h (e2 ▸ hb)
theorem propB_nz {s : ByteArray} (h : propB s = true) : (0 : Int) ∉ strB s := strB_nz (madeB_nz (m := propMarks) (by decide) h)
theorem nodeB_nz {s : ByteArray} (h : nodeB s = true) : (0 : Int) ∉ strB s := by
  apply strB_nz
  unfold nodeB at h
  split at h
  · exact madeB_nz (m := nodeMarks) (by decide) (by unfold baseB at h; simp only [Bool.and_eq_true] at h; exact h.1)
  · rename_i hc
    simp only [Bool.and_eq_true] at h
    rcases cut_or_not s with hn | ⟨i, hi⟩
    · exact absurd hn hc
    · have e : (Lib.indexByte s.data.toList 64).toNat = i := by rw [hi.2]; rfl
      rw [e] at h
      have h1 := madeB_nz (m := nodeMarks) (by decide) (by have := h.1; unfold baseB at this; simp only [Bool.and_eq_true] at this; exact this.1)
      have h2 := madeB_nz (m := nodeMarks) (by decide) h.2
      intro h0
      obtain ⟨k, e0⟩ := List.getElem?_of_mem h0
      have c := (Lib.indexByte_some hi.2).1
      rw [ByteArray.data_extract, Array.toList_extract, List.extract_eq_take_drop] at h1 h2
      rcases Nat.lt_trichotomy k i with hk | hk | hk
      · exact h1 (List.mem_of_getElem? (i := k) (by rw [List.getElem?_take_of_lt (by omega), List.drop_zero]; exact e0))
      · subst hk
        rw [c] at e0
        exact absurd e0 (by decide)
      · have hk2 : k < s.size := (List.getElem?_eq_some_iff.1 e0).1
        exact h2 (List.mem_of_getElem? (i := k - (i + 1)) (by rw [List.getElem?_take_of_lt (by omega), List.getElem?_drop, show i + 1 + (k - (i + 1)) = k by omega]; exact e0))
theorem strOf_strB (s : ByteArray) : strOfNums (strB s) = s := by
  apply ByteArray.ext
  apply Array.ext'
  show ((strB s).map fun n => UInt8.ofNat n.toNat) = s.data.toList
  unfold strB
  rw [List.map_map]
  conv => rhs; rw [← List.map_id s.data.toList]
  apply List.map_congr_left
  intro b _
  simp

/-! ### What stands at a place -/
theorem tokAt_app (a b : List Int) (v : Int) (h : 0 ≤ v) (k : Nat) (hk : k = a.length) : tokAt (a ++ (four v ++ b)) k = some v := by
  subst hk
  unfold tokAt
  rw [if_pos (by simp only [List.length_append, four, List.length_cons, List.length_nil]; omega), numTo_four a b v h]
theorem textFrom_app (a s b : List Int) (h : (0 : Int) ∉ s) (k : Nat) (hk : k = a.length) : textFrom (a ++ (s ++ (0 :: b))) k = some s := by
  subst hk
  unfold textFrom
  rw [List.drop_left]
  rw [if_pos (by simp), List.takeWhile_append_of_pos (fun z hz => by simp; rintro rfl; exact h hz)]
  simp
theorem behind_app (a b : List Int) (k n : Nat) (hk : k = a.length) (hn : n = padN a.length) : behind (a ++ (List.replicate n 0 ++ b)) k = some (k + n) := by
  subst hk hn
  unfold behind
  rw [if_pos]
  refine ⟨by simp only [List.length_append, List.length_replicate]; omega, ?_⟩
  intro x hx
  rw [List.drop_left] at hx
  have e : padN a.length = (List.replicate (padN a.length) (0 : Int)).length := by simp
  rw [List.take_append_of_le_length (by simp)] at hx
  exact List.eq_of_mem_replicate (List.mem_of_mem_take hx)

/-! ### Tokens -/
/-- So many tokens lead from here to there. -/
def Goes (S T : List Int) (st st' : PSt) (m : Nat) : Prop := ∀ f, rootF S T (m + f) st = rootF S T f st'
theorem Goes.refl (S T : List Int) (st : PSt) : Goes S T st st 0 := fun f => by rw [Nat.zero_add]
theorem Goes.trans {S T : List Int} {a b c : PSt} {m k : Nat} (h1 : Goes S T a b m) (h2 : Goes S T b c k) : Goes S T a c (m + k) := fun f => by rw [Nat.add_assoc, h1, h2]
theorem Goes.one {S T : List Int} {st st' : PSt} {k : Int} (ht : tokAt S st.pos = some k) (hs : standB st.below.length st.top.kids.length k = true) (h9 : k ≠ 9) (hr : readF S T st k = .ok st') : Goes S T st st' 1 := fun f => by
  rw [Nat.add_comm 1 f, rootF, ht]
  simp only [hs, hr, if_neg h9, Bool.true_eq_false, if_false]

theorem padN_shift {a b : Nat} (h : a % 4 = 0) : padN (a + b) = padN b := by unfold padN; omega

theorem begin_go {S T pre post : List Int} {nm : ByteArray} {st : PSt} (hS : S = pre ++ ([0, 0, 0, 1] ++ (padL (strB nm ++ [0]) ++ post))) (hp : st.pos = pre.length) (h4 : pre.length % 4 = 0) (hd : st.below.length + 1 ≤ 16)
    (hn : okName nm (st.below.length + 1) = true) (ht : nm ∉ st.top.taken) (hz : (0 : Int) ∉ strB nm) (hst : 0 < st.below.length ∨ st.top.kids.length = 0) :
    Goes S T st ⟨pre.length + (4 + (padL (strB nm ++ [0])).length), PF.new nm, { st.top with taken := st.top.taken ++ [nm] } :: st.below⟩ 1 := by
  have e1 : ([0, 0, 0, 1] : List Int) = four 1 := by decide
  have hx : textFrom S (st.pos + 4) = some (strB nm) := by
    have e : S = (pre ++ [0, 0, 0, 1]) ++ (strB nm ++ (0 :: (List.replicate (padN (strB nm ++ [0]).length) 0 ++ post))) := by rw [hS, padL]; simp
    rw [e]
    exact textFrom_app _ _ _ hz _ (by rw [hp]; simp)
  have hb : behind S (st.pos + 4 + (strB nm).length + 1) = some (pre.length + (4 + (padL (strB nm ++ [0])).length)) := by
    have e : S = (pre ++ ([0, 0, 0, 1] ++ (strB nm ++ [0]))) ++ (List.replicate (padN (strB nm ++ [0]).length) 0 ++ post) := by rw [hS, padL]; simp
    have h := behind_app (pre ++ ([0, 0, 0, 1] ++ (strB nm ++ [0]))) post (st.pos + 4 + (strB nm).length + 1) (padN (strB nm ++ [0]).length) (by rw [hp]; simp; omega) (by
      have l1 : (pre ++ ([0, 0, 0, 1] ++ (strB nm ++ [0]))).length = pre.length + (4 + (strB nm ++ [0]).length) := by simp; omega
      rw [l1, padN_shift h4, padN_shift (by decide)])
    rw [e, h, padL_length, hp]
    simp; omega
  refine Goes.one (k := 1) (by rw [hS, e1]; exact tokAt_app _ _ _ (by decide) _ hp) ?_ (by decide) ?_
  · simp only [standB, if_pos rfl]
    rcases hst with h | h <;> simp [h]
  · have e2 : readF S T st 1 = beginF S st := by simp [readF]
    rw [e2, beginF, hx]
    simp only [hb, strOf_strB]
    rw [if_neg (by omega), if_neg (by rw [hn]; decide), if_neg (by rw [hasS_iff]; exact ht)]

theorem where_split : ∀ (L : List ByteArray) (s : ByteArray), s ∈ L → ∃ a b, textB L = a ++ (strB s ++ (0 :: b)) ∧ whereL L s = a.length
  | [], s, h => by cases h
  | x :: r, s, h => by
    have e : textB (x :: r) = (strB x ++ [0]) ++ textB r := by simp [textB]
    by_cases hx : x = s
    · subst hx
      exact ⟨[], textB r, by rw [e]; simp, by simp [whereL]⟩
    · obtain ⟨a, b, h1, h2⟩ := where_split r s ((List.mem_cons.1 h).resolve_left fun k => hx k.symm)
      refine ⟨(strB x ++ [0]) ++ a, b, by rw [e, h1]; simp, ?_⟩
      rw [whereL, if_neg hx, h2]
      simp only [List.length_append, strB_length, List.length_cons, List.length_nil]

theorem prop_go {S T pre post : List Int} {L : List ByteArray} {p : PV} {st : PSt} (hS : S = pre ++ (propT L p ++ post)) (hT : T = textB L) (hL : p.name ∈ L) (hp : st.pos = pre.length) (h4 : pre.length % 4 = 0)
    (hb : 0 < st.below.length) (hk : st.top.kids.length = 0) (hn : propB p.name = true) (hd : p.name ∉ st.top.props.map Prod.fst) :
    Goes S T st ⟨pre.length + (propT L p).length, { st.top with props := st.top.props ++ [p.pure] }, st.below⟩ 1 := by
  have e1 : ([0, 0, 0, 3] : List Int) = four 3 := by decide
  have hSl : S.length = pre.length + (12 + p.zs.length + padN p.zs.length) + post.length := by
    rw [hS]; simp only [propT, List.length_append, padL_length, four, List.length_cons, List.length_nil]; omega
  have n1 : numTo S (st.pos + 4) 4 = p.zs.length := by
    have e : S = (pre ++ [0, 0, 0, 3]) ++ (four p.zs.length ++ (four (whereL L p.name) ++ padL p.zs ++ post)) := by rw [hS, propT]; simp
    rw [e, show st.pos + 4 = (pre ++ [0, 0, 0, 3]).length by rw [hp]; simp]
    exact numTo_four _ _ _ (by omega)
  have n2 : numTo S (st.pos + 8) 4 = whereL L p.name := by
    have e : S = (pre ++ ([0, 0, 0, 3] ++ four p.zs.length)) ++ (four (whereL L p.name) ++ (padL p.zs ++ post)) := by rw [hS, propT]; simp
    rw [e, show st.pos + 8 = (pre ++ ([0, 0, 0, 3] ++ four p.zs.length)).length by rw [hp]; simp [four]]
    exact numTo_four _ _ _ (by omega)
  have hv : (S.drop (st.pos + 12)).take p.zs.length = p.zs := by
    have e : S = (pre ++ ([0, 0, 0, 3] ++ (four p.zs.length ++ four (whereL L p.name)))) ++ (p.zs ++ (List.replicate (padN p.zs.length) 0 ++ post)) := by rw [hS, propT, padL]; simp
    rw [e, show st.pos + 12 = (pre ++ ([0, 0, 0, 3] ++ (four p.zs.length ++ four (whereL L p.name)))).length by rw [hp]; simp [four], List.drop_left, List.take_left]
  have hb2 : behind S (st.pos + 12 + p.zs.length) = some (pre.length + (propT L p).length) := by
    have e : S = (pre ++ ([0, 0, 0, 3] ++ (four p.zs.length ++ (four (whereL L p.name) ++ p.zs)))) ++ (List.replicate (padN p.zs.length) 0 ++ post) := by rw [hS, propT, padL]; simp
    rw [e, behind_app _ _ _ (padN p.zs.length) (by rw [hp]; simp [four]; omega) ?_]
    · simp only [propT, List.length_append, padL_length, four, List.length_cons, List.length_nil, hp]
      congr 1; omega
    · rw [List.length_append, padN_shift h4]
      have e3 : ([0, 0, 0, 3] ++ (four (p.zs.length : Int) ++ (four (whereL L p.name : Int) ++ p.zs)) : List Int).length = 12 + p.zs.length := by simp [four]; omega
      rw [e3, padN_shift (by decide)]
  obtain ⟨a, b, t1, t2⟩ := where_split L p.name hL
  have ht : textFrom T (whereL L p.name) = some (strB p.name) := by
    rw [hT, t1]; exact textFrom_app _ _ _ (propB_nz hn) _ t2
  refine Goes.one (k := 3) (by rw [hS, propT, e1, List.append_assoc]; exact tokAt_app _ _ _ (by decide) _ hp) ?_ (by decide) ?_
  · simp [standB, hb, hk]
  · have e2 : readF S T st 3 = propF S T st := by simp [readF]
    rw [e2, propF, if_pos (by omega), n1, n2, if_neg (by omega), Int.toNat_natCast, Int.toNat_natCast, hb2]
    simp only [ht, strOf_strB, hv]
    rw [if_neg (by rw [hn]; decide), if_neg (by rw [hasS_iff]; exact hd)]
    rfl

theorem end_go {S T pre post : List Int} {st : PSt} {f : PF} {r : List PF} (hS : S = pre ++ ([0, 0, 0, 2] ++ post)) (hp : st.pos = pre.length) (hb : st.below = f :: r) :
    Goes S T st ⟨pre.length + 4, { f with kids := f.kids ++ [st.top.done] }, r⟩ 1 := by
  have e1 : ([0, 0, 0, 2] : List Int) = four 2 := by decide
  refine Goes.one (k := 2) (by rw [hS, e1]; exact tokAt_app _ _ _ (by decide) _ hp) ?_ (by decide) ?_
  · simp [standB, hb]
  · simp [readF, leaveF, skipF, hb, hp]

/-! ### A node -/
theorem wrongL_zero {d : Int} : ∀ {l : List Nd}, wrongL l d = 0 → ∀ k ∈ l, wrongN k d = 0
  | [], _, k, hk => by cases hk
  | x :: r, h, k, hk => by
    unfold wrongL at h
    by_cases hx : wrongN x d = 0
    · rw [if_pos hx] at h
      rcases List.mem_cons.1 hk with rfl | hk
      · exact hx
      · exact wrongL_zero h k hk
    · rw [if_neg hx] at h
      exact absurd h hx
structure Formed (n : Nd) (d : Int) : Prop where
  deep : d ≤ 16
  name : nameOk n d = true
  props : ∀ p ∈ n.props, propB p.name = true
  once : (n.props.map PV.name).Nodup
  twice : (n.kids.map Nd.name).Nodup
  kids : ∀ k ∈ n.kids, wrongN k (d + 1) = 0
theorem formed_of {n : Nd} {d : Int} (h : wrongN n d = 0) : Formed n d := by
  rw [wrongN_mk] at h
  by_cases ha : aloneE n d = 0
  · rw [if_pos ha] at h
    unfold aloneE at ha
    by_cases h1 : 16 < d
    · rw [if_pos h1] at ha; omega
    rw [if_neg h1] at ha
    by_cases h2 : nameOk n d = false
    · rw [if_pos h2] at ha; omega
    rw [if_neg h2] at ha
    by_cases h3 : n.props.any misP = true
    · rw [if_pos h3] at ha; omega
    rw [if_neg h3] at ha
    by_cases h4 : twiceB (n.props.map PV.name) = true
    · rw [if_pos h4] at ha; omega
    rw [if_neg h4] at ha
    by_cases h5 : twiceB (n.kids.map Nd.name) = true
    · rw [if_pos h5] at ha; omega
    refine ⟨by omega, by simpa using h2, fun p hp => ?_, by simpa [twiceB] using h4, by simpa [twiceB] using h5, wrongL_zero h⟩
    simp only [List.any_eq_true, not_exists, not_and] at h3
    have := h3 p hp
    simpa [misP] using this
  · rw [if_neg ha] at h
    exact absurd h ha
theorem Formed.ok {n : Nd} {d : Nat} (h : Formed n (d : Int)) : okName n.name d = true := by
  have := h.name
  unfold nameOk at this
  unfold okName
  by_cases h1 : d = 1
  · subst h1; simpa using this
  · rw [if_neg h1]; rw [if_neg (by omega)] at this; exact this
theorem Formed.nz {n : Nd} {d : Int} (h : Formed n d) : (0 : Int) ∉ strB n.name := by
  have := h.name
  unfold nameOk at this
  by_cases h1 : d = 1
  · rw [if_pos h1] at this
    have e : n.name.data.toList = [] := by rw [← Lib.toList_data]; simpa using this
    simp [strB, e]
  · rw [if_neg h1] at this
    exact nodeB_nz this

theorem props_go {S T : List Int} {L : List ByteArray} (hT : T = textB L) {f0 : PF} {below : List PF} (hb : 0 < below.length) (hk : f0.kids.length = 0) : ∀ (ps : List PV) (pre post : List Int) (acc : List (ByteArray × List Int)),
    S = pre ++ (ps.flatMap (propT L) ++ post) → (∀ p ∈ ps, p.name ∈ L ∧ propB p.name = true) → pre.length % 4 = 0 → (∀ p ∈ ps, p.name ∉ acc.map Prod.fst) → (ps.map PV.name).Nodup →
    Goes S T ⟨pre.length, { f0 with props := acc }, below⟩ ⟨pre.length + (ps.flatMap (propT L)).length, { f0 with props := acc ++ ps.map PV.pure }, below⟩ ps.length
  | [], pre, post, acc, _, _, _, _, _ => by simpa using Goes.refl S T _
  | p :: r, pre, post, acc, hS, hp, h4, hd, hu => by
    have hS1 : S = pre ++ (propT L p ++ (r.flatMap (propT L) ++ post)) := by rw [hS]; simp
    have g1 := prop_go (st := ⟨pre.length, { f0 with props := acc }, below⟩) hS1 hT (hp p (by simp)).1 rfl h4 hb hk (hp p (by simp)).2 (hd p (by simp))
    rw [List.map_cons, List.nodup_cons] at hu
    have hm : (propT L p).length % 4 = 0 := by
      simp only [propT, List.length_append, padL_length, four, List.length_cons, List.length_nil]
      unfold padN; omega
    have g2 := props_go (S := S) hT hb hk r (pre ++ propT L p) post (acc ++ [p.pure]) (hS1.trans (by simp)) (fun q hq => hp q (by simp [hq])) (by rw [List.length_append]; omega) (fun q hq => by
      rw [List.map_append]
      simp only [List.map_cons, List.map_nil, List.mem_append, List.mem_singleton, not_or]
      refine ⟨hd q (by simp [hq]), ?_⟩
      intro e
      exact hu.1 (by rw [← show q.name = p.name from e]; exact List.mem_map_of_mem hq)) hu.2
    rw [List.length_append] at g2
    have g := g1.trans g2
    simp only [List.flatMap_cons, List.length_append, List.map_cons, List.length_cons, List.append_assoc, List.cons_append, List.nil_append] at g ⊢
    rw [Nat.add_assoc, Nat.add_comm 1 r.length] at g
    exact g

/-- The names of its properties are among those. -/
inductive NamesIn (L : List ByteArray) : Nd → Prop
  | mk (n : Nd) (h : ∀ p ∈ n.props, p.name ∈ L) (hk : ∀ k ∈ n.kids, NamesIn L k) : NamesIn L n
theorem NamesIn.prop {L : List ByteArray} {n : Nd} : NamesIn L n → ∀ p ∈ n.props, p.name ∈ L
  | .mk _ h _ => h
theorem NamesIn.kid {L : List ByteArray} {n : Nd} : NamesIn L n → ∀ k ∈ n.kids, NamesIn L k
  | .mk _ _ h => h
theorem padL_mod4 (b : List Int) : (padL b).length % 4 = 0 := by rw [padL_length]; unfold padN; omega
theorem props_mod4 (L : List ByteArray) : ∀ ps : List PV, (ps.flatMap (propT L)).length % 4 = 0 ∧ 4 * ps.length ≤ (ps.flatMap (propT L)).length
  | [] => by simp
  | p :: r => by
    have h := props_mod4 L r
    have hm : (propT L p).length % 4 = 0 ∧ 4 ≤ (propT L p).length := by
      simp only [propT, List.length_append, padL_length, four, List.length_cons, List.length_nil]
      unfold padN; omega
    rw [List.flatMap_cons, List.length_append, List.length_cons]
    omega

theorem Goes.cast {S T : List Int} {a a' b b' : PSt} {m m' : Nat} (h : Goes S T a b m) (ha : a = a') (hb : b = b') (hm : m = m') : Goes S T a' b' m' := by
  subst ha hb hm; exact h
theorem pst {p p' : Nat} {t : PF} {b : List PF} (h : p = p') : (⟨p, t, b⟩ : PSt) = ⟨p', t, b⟩ := by rw [h]

/-- What a node's tokens do to the reader. -/
def NodeGo (S T : List Int) (L : List ByteArray) (n : Nd) : Prop := ∀ (pre post : List Int) (st : PSt), wrongN n ((st.below.length + 1 : Nat) : Int) = 0 → NamesIn L n → S = pre ++ (nodeN L n ++ post) → pre.length % 4 = 0 → st.pos = pre.length → n.name ∉ st.top.taken → (0 < st.below.length ∨ st.top.kids.length = 0) →
  (nodeN L n).length % 4 = 0 ∧ ∃ m, 4 * m ≤ (nodeN L n).length ∧ Goes S T st ⟨pre.length + (nodeN L n).length, { st.top with kids := st.top.kids ++ [pureN n], taken := st.top.taken ++ [n.name] }, st.below⟩ m

theorem kids_go {S T : List Int} {L : List ByteArray} {f0 : PF} {below : List PF} (hb : 0 < below.length) : ∀ (ks : List Nd) (pre post : List Int) (acc : List PN) (tk : List ByteArray), (∀ k ∈ ks, NodeGo S T L k ∧ wrongN k ((below.length + 1 : Nat) : Int) = 0 ∧ NamesIn L k) →
    S = pre ++ (nodeL L ks ++ post) → pre.length % 4 = 0 → (∀ k ∈ ks, k.name ∉ tk) → (ks.map Nd.name).Nodup →
    (nodeL L ks).length % 4 = 0 ∧ ∃ m tk', 4 * m ≤ (nodeL L ks).length ∧ Goes S T ⟨pre.length, { f0 with kids := acc, taken := tk }, below⟩ ⟨pre.length + (nodeL L ks).length, { f0 with kids := acc ++ ks.map pureN, taken := tk' }, below⟩ m
  | [], pre, post, acc, tk, _, _, _, _, _ => ⟨by simp [nodeL], 0, tk, by simp, by simpa [nodeL] using Goes.refl S T _⟩
  | k :: r, pre, post, acc, tk, hk, hS, h4, hd, hu => by
    have hS1 : S = pre ++ (nodeN L k ++ (nodeL L r ++ post)) := by rw [hS]; simp [nodeL]
    obtain ⟨k1, k2, k3⟩ := hk k (by simp)
    obtain ⟨a1, m1, b1, g1⟩ := k1 pre _ ⟨pre.length, { f0 with kids := acc, taken := tk }, below⟩ k2 k3 hS1 h4 rfl (hd k (by simp)) (.inl hb)
    rw [List.map_cons, List.nodup_cons] at hu
    obtain ⟨a2, m2, tk2, b2, g2⟩ := kids_go (S := S) (T := T) (f0 := f0) hb r (pre ++ nodeN L k) post (acc ++ [pureN k]) (tk ++ [k.name]) (fun q hq => hk q (by simp [hq])) (hS1.trans (by simp)) (by rw [List.length_append]; omega) (fun q hq => by
      simp only [List.mem_append, List.mem_singleton, not_or]
      exact ⟨hd q (by simp [hq]), fun e => hu.1 (by rw [← e]; exact List.mem_map_of_mem hq)⟩) hu.2
    rw [List.length_append] at g2
    have g := g1.trans g2
    refine ⟨by simp only [nodeL, List.length_append]; omega, m1 + m2, tk2, by simp only [nodeL, List.length_append]; omega, ?_⟩
    simp only [nodeL, List.length_append, List.map_cons, List.append_assoc, List.cons_append, List.nil_append, Nat.add_assoc] at g ⊢
    exact g

theorem node_go {S T : List Int} {L : List ByteArray} (hT : T = textB L) : ∀ n : Nd, NodeGo S T L n := by
  refine Nd.ind ?_
  intro n ih pre post st hw hN hS h4 hp ht hst
  have F := formed_of hw
  obtain ⟨nm, pa, pc, ps, ka, kc, ks⟩ := n
  have e : nodeN L (.mk nm pa pc ps ka kc ks) = [0, 0, 0, 1] ++ (padL (strB nm ++ [0]) ++ (ps.flatMap (propT L) ++ (nodeL L ks ++ [0, 0, 0, 2]))) := by simp [nodeN]
  rw [e] at hS ⊢
  have hS1 : S = pre ++ ([0, 0, 0, 1] ++ (padL (strB nm ++ [0]) ++ (ps.flatMap (propT L) ++ (nodeL L ks ++ ([0, 0, 0, 2] ++ post))))) := by rw [hS]; simp
  have p1 := padL_mod4 (strB nm ++ [0])
  have p2 := props_mod4 L ps
  have g1 := begin_go (T := T) hS1 hp h4 (by have := F.deep; omega) F.ok ht F.nz hst
  have g2 := props_go (S := S) (f0 := PF.new nm) (below := { st.top with taken := st.top.taken ++ [nm] } :: st.below) hT (by simp) rfl ps (pre ++ ([0, 0, 0, 1] ++ padL (strB nm ++ [0]))) (nodeL L ks ++ ([0, 0, 0, 2] ++ post)) [] (hS1.trans (by simp)) (fun p hp => ⟨hN.prop p hp, F.props p hp⟩) (by simp only [List.length_append, List.length_cons, List.length_nil]; omega) (by simp) F.once
  obtain ⟨p3, m3, tk3, b3, g3⟩ := kids_go (S := S) (T := T) (L := L) (f0 := { PF.new nm with props := ps.map PV.pure }) (below := { st.top with taken := st.top.taken ++ [nm] } :: st.below) (by simp) ks (pre ++ ([0, 0, 0, 1] ++ (padL (strB nm ++ [0]) ++ ps.flatMap (propT L)))) ([0, 0, 0, 2] ++ post) [] [] (fun k hk => ⟨ih k hk, by have := F.kids k hk; simpa using this, hN.kid k hk⟩) (hS1.trans (by simp)) (by simp only [List.length_append, List.length_cons, List.length_nil]; omega) (by simp) F.twice
  have g4 := end_go (S := S) (T := T) (pre := pre ++ ([0, 0, 0, 1] ++ (padL (strB nm ++ [0]) ++ (ps.flatMap (propT L) ++ nodeL L ks)))) (post := post) (st := ⟨(pre ++ ([0, 0, 0, 1] ++ (padL (strB nm ++ [0]) ++ (ps.flatMap (propT L) ++ nodeL L ks)))).length, { PF.new nm with props := ps.map PV.pure, kids := ks.map pureN, taken := tk3 }, { st.top with taken := st.top.taken ++ [nm] } :: st.below⟩) (hS1.trans (by simp)) rfl rfl
  refine ⟨by simp only [List.length_append, List.length_cons, List.length_nil]; omega, 1 + ps.length + m3 + 1, by simp only [List.length_append, List.length_cons, List.length_nil]; omega, ?_⟩
  have h12 := g1.trans (g2.cast (pst (by simp only [List.length_append, List.length_cons, List.length_nil])) rfl rfl)
  have h123 := h12.trans (g3.cast (pst (by simp only [List.length_append, List.length_cons, List.length_nil]; omega)) rfl rfl)
  have h := h123.trans (g4.cast (pst (by simp only [List.length_append, List.length_cons, List.length_nil]; omega)) rfl rfl)
  refine h.cast rfl ?_ rfl
  have e4 : pureN (.mk nm pa pc ps ka kc ks) = .mk nm (ps.map PV.pure) (ks.map pureN) := pureN_mk _
  rw [e4]
  exact pst (by simp only [List.length_append, List.length_cons, List.length_nil]; omega)

/-- A structure's root. -/
theorem root_back {L : List ByteArray} {n : Nd} (hw : wrongN n 1 = 0) (hN : NamesIn L n) (S : List Int) (hS : S = nodeN L n ++ [0, 0, 0, 9]) : rootF S (textB L) (S.length + 1) start = .ok (pureN n) := by
  obtain ⟨h4, m, hm, g⟩ := node_go (S := S) (L := L) rfl n [] [0, 0, 0, 9] start hw hN (by rw [hS]; simp) (by simp) rfl (by simp [start, PF.new]) (.inr rfl)
  have hl : S.length = (nodeN L n).length + 4 := by rw [hS]; simp
  obtain ⟨r, hr⟩ : ∃ r, S.length + 1 = m + (r + 1) := ⟨S.length - m, by omega⟩
  rw [hr, g]
  have e9 : ([0, 0, 0, 9] : List Int) = four 9 := by decide
  have ht : tokAt S (nodeN L n).length = some 9 := by
    have e : S = nodeN L n ++ (four 9 ++ []) := by rw [hS, e9]; simp
    rw [e]
    exact tokAt_app _ _ _ (by decide) _ rfl
  rw [rootF]
  simp only [start, PF.new, List.length_nil, List.nil_append, List.length_cons, Nat.zero_add]
  rw [ht]
  dsimp only
  rw [if_neg (by decide)]
  have e : ∀ st, readF S (textB L) st 9 = .ok (skipF st) := fun st => by simp [readF]
  rw [e]
  dsimp only
  rw [if_pos rfl]
  exact (if_pos (show (nodeN L n).length + 4 = S.length by omega)).trans rfl

/-! ### The texts hold every name -/
theorem addT_sub {l : List ByteArray} {s x : ByteArray} (h : x ∈ l) : x ∈ addT l s := by
  unfold addT; split
  · exact h
  · exact List.mem_append_left _ h
theorem addT_mem (l : List ByteArray) (s : ByteArray) : s ∈ addT l s := by
  unfold addT; split
  · rename_i h
    unfold hasT at h
    obtain ⟨x, h1, h2⟩ := List.any_eq_true.1 h
    rw [← of_decide_eq_true h2]; exact h1
  · exact List.mem_append_right _ (List.mem_singleton_self _)
theorem fold_sub {x : ByteArray} : ∀ (ns l : List ByteArray), (x ∈ l ∨ x ∈ ns) → x ∈ ns.foldl addT l
  | [], l, h => by simpa using h
  | s :: r, l, h => by
    rw [List.foldl_cons]
    refine fold_sub r _ ?_
    rcases h with h | h
    · exact .inl (addT_sub h)
    · rcases List.mem_cons.1 h with rfl | h
      · exact .inl (addT_mem l x)
      · exact .inr h
theorem NamesIn.mono {L L' : List ByteArray} (hL : ∀ x ∈ L, x ∈ L') : ∀ n : Nd, NamesIn L n → NamesIn L' n := by
  refine Nd.ind ?_
  intro n ih h
  exact .mk n (fun p hp => hL _ (h.prop p hp)) (fun k hk => ih k hk (h.kid k hk))
theorem textsN_all : ∀ (n : Nd) (l : List ByteArray), (∀ x ∈ l, x ∈ textsN n l) ∧ NamesIn (textsN n l) n := by
  refine Nd.ind ?_
  intro n ih l
  obtain ⟨nm, pa, pc, ps, ka, kc, ks⟩ := n
  have hk : ∀ (r : List Nd), (∀ k ∈ r, k ∈ ks) → ∀ l, (∀ x ∈ l, x ∈ textsL r l) ∧ ∀ k ∈ r, NamesIn (textsL r l) k := by
    intro r
    induction r with
    | nil => intro _ l; exact ⟨fun x hx => by simpa [textsL] using hx, fun k hk => by cases hk⟩
    | cons k r ihr =>
      intro hr l
      have h1 := ih k (hr k (by simp)) l
      have h2 := ihr (fun x hx => hr x (by simp [hx])) (textsN k l)
      rw [textsL]
      refine ⟨fun x hx => h2.1 x (h1.1 x hx), fun q hq => ?_⟩
      rcases List.mem_cons.1 hq with rfl | hq
      · exact NamesIn.mono h2.1 _ h1.2
      · exact h2.2 q hq
  have h := hk ks (fun _ h => h) ((ps.map PV.name).foldl addT l)
  rw [textsN]
  exact ⟨fun x hx => h.1 x (fold_sub _ _ (.inl hx)), .mk _ (fun p hp => h.1 _ (fold_sub _ _ (.inr (List.mem_map_of_mem hp)))) (fun k hk' => h.2 k hk')⟩
end Go.Proofs.Ytfekjihjifimcaa
