/-
  Layer 3: bytes.Clone; the value of a node's property.
-/
import Derived.Test.YthfonfecangmcaaTFind
import Derived.Great.BuildSlice
import Derived.Lib.SlFresh
namespace Go.Proofs.Ythfonfecangmcaa
open Go.RowKit
set_option linter.unusedVariables false
set_option linter.unusedSimpArgs false

theorem info_u8 : (Try.prog.info? 5).map (fun i => (i.zero, i.size, i.bytes)) = some (some (.int .u8 0), 1, 1) := by kernel_rfl
theorem size_u8 (w : World) : (Go.sizeOf 5).run Try.prog w = .ok 1 w := by kernel_rfl
/-- The numbers as cells. -/
abbrev u8s (zs : List Int) : List Value := zs.map (Value.int .u8)

theorem run_append_shown (w : World) (i0 : TypeInfo) (hi0 : Try.prog.info? 5 = some i0) (hz0 : i0.zero = some (.int .u8 0)) (hz1 : i0.size = 1) (hz2 : i0.bytes = 1)
    (base : Nat) (v : Value) (n : Nat) (xs : List Value) (hown : w.ownsRow base 5 1 v n xs) (B : Nat) (A : Option Addr) (m c : Nat) (zs : List Int) (hs : Shows w B A m zs)
    (hnm : n + m ≤ 140737488351232) (hbase : base ≤ w.heap.size) (ty : TypeId) :
    ∃ v' w', (Builtin.append_ #[35, 35] ty #[v, .slice A m c]).run Try.prog w = .ok v' w' ∧ w'.ownsRow base 5 1 v' (n + m) (xs ++ u8s zs) ∧ w.grownBy w' v.ownBlock ∧ (v ≠ .slice none 0 0 → v' ≠ .slice none 0 0) := by
  rcases Nat.eq_zero_or_pos m with rfl | hm
  · obtain rfl : zs = [] := List.eq_nil_of_length_eq_zero hs.1
    rcases A with _ | ad
    · refine ⟨v, w, ?_, by simpa using hown, World.grownBy.refl w _, fun h => h⟩
      rcases hown.2 with ⟨rfl, rfl⟩ | ⟨g, cap, cur, rfl, _, _, hnc, _⟩
      · simp [Builtin.append_, run_underlying Try.underlying35, sizeOf, typeInfo, hi0, Builtin.lenOf, Builtin.firstCells]
      · simp [Builtin.append_, run_underlying Try.underlying35, sizeOf, typeInfo, hi0, Builtin.lenOf, Builtin.firstCells, hnc, storeCells]
    · obtain ⟨v', w', h1, h2, h3, h4⟩ := run_append_own_at (P := Try.prog) w base 35 ty 5 i0 (.int .u8 0) 1 1 Try.underlying35 hi0 hz0 hz1 hz2 rfl (by omega) v n xs hown ad 0 c [] rfl (by simp) (by simp) (by unfold maxLen; omega) (by omega) hbase
      exact ⟨v', w', h1, h2, h3, fun h e => h ((h4.1.1 e).1)⟩
  · obtain ⟨b, o, rfl, _, hc⟩ := hs.at_ hm
    obtain ⟨v', w', h1, h2, h3, h4⟩ := run_append_own_at (P := Try.prog) w base 35 ty 5 i0 (.int .u8 0) 1 1 Try.underlying35 hi0 hz0 hz1 hz2 rfl (by omega) v n xs hown ⟨b, o, none⟩ m c (u8s zs) (by simp [hs.1])
      (fun j u hu => by
        rw [List.getElem?_map] at hu
        have hj : j < zs.length := by
          rcases Nat.lt_or_ge j zs.length with h | h
          · exact h
          · rw [List.getElem?_eq_none h] at hu; cases hu
        rw [List.getElem?_eq_getElem hj] at hu
        rw [addr_add, hc j (by rw [← hs.1]; exact hj), ← Option.some.inj hu]
        simp [List.getD, List.getElem?_eq_getElem hj])
      (fun u hu => by obtain ⟨z, _, rfl⟩ := List.mem_map.1 hu; rfl) (by unfold maxLen; omega) (by omega) hbase
    exact ⟨v', w', h1, h2, h3, fun h e => h ((h4.1.1 e).1)⟩
/-- What a call has made shows its bytes. -/
theorem owned_shows {w : World} {base n : Nat} {v : Value} {zs : List Int} (h : w.ownsRow base 5 1 v n (u8s zs)) (hz : ∀ z ∈ zs, 0 ≤ z ∧ z < 256) :
    ∃ A c, v = .slice A n c ∧ Shows w w.heap.size A n zs ∧ n ≤ c ∧ c ≤ 9223372036854775807 := by
  obtain ⟨hl, ⟨rfl, rfl⟩ | ⟨g, cap, cur, rfl, hb, hg, hnc, hcm, hsz, htk⟩⟩ := h
  · obtain rfl : zs = [] := by simpa using hl
    exact ⟨none, 0, rfl, Shows.nil _ _, Nat.le_refl _, by omega⟩
  · have hlz : zs.length = n := by simpa using hl
    refine ⟨_, cap, rfl, ⟨hlz, hz, fun hn => ⟨g, 0, rfl, ?_, fun i hi => ?_⟩⟩, hnc, hcm⟩
    · exact (Array.getElem?_eq_some_iff.1 hg).1
    · have h1 : (u8s zs)[i]? = cur[i]? := by
        rw [← htk, List.getElem?_take_of_lt (by omega), Array.getElem?_toList]
      rw [Nat.zero_add]
      have h2 : w.cell? ⟨g, i, none⟩ = cur[i]? := by simp [World.cell?, hg]
      rw [h2, ← h1, List.getElem?_map, List.getElem?_eq_getElem (by omega)]
      simp [List.getD, List.getElem?_eq_getElem (show i < zs.length by omega)]

set_option maxHeartbeats 1000000 in
theorem bclone_any (A : Option Addr) (n c : Nat) (zs : List Int) (w : World) (hs : Shows w w.heap.size A n zs) (hn : n ≤ 140737488351232) :
    Calls Try.prog 32 #[.slice A n c] w fun e w' => ∃ v', e = .returned v' ∧ w'.ownsRow w.heap.size 5 1 v' n (u8s zs) ∧ Below w.heap.size w w' := by
  obtain ⟨i0, hi0, hz0, hz1, hz2⟩ := info_parts info_u8
  have HS := Lib.hid hs
  clear hs
  have q : ∀ (w : World) (a : Option Addr) (n c n' c' : Nat), (binOp .eql 35 (.slice a n c) (.slice none n' c')).run Try.prog w = .ok (.bool a.isNone) w := fun w a n c n' c' => Lib.run_eql_slice_nil w _ _ a n c n' c' Try.underlying35
  have u22 : ∀ w, Sem.run Try.prog (underlying 35) w = .ok (TypeDesc.slice 5) w := run_underlying Try.underlying35
  rcases A with _ | ad
  · have hn0 : n = 0 := by
      rcases Nat.eq_zero_or_pos n with h | h
      · exact h
      · obtain ⟨b, o, e, _⟩ := HS.out.at_ h
        cases e
    have hz0' : zs = [] := List.eq_nil_of_length_eq_zero (HS.out.1.trans hn0)
    subst hn0 hz0'
    go_enter Try.func32, Try.ntmps32
    go_wp2
    go_ret
    exact ⟨_, rfl, World.ownsRow_nil _ _ _ _, Below.refl _ _⟩
  · have HB0 := Lib.hid ((Below.refl w.heap.size w).alloc (Nat.le_refl _) (.cells #[] 5))
    obtain ⟨v', w', hrun, hown, hgr, _⟩ := run_append_shown (w.alloc (.cells #[] 5)) i0 hi0 hz0 hz1 hz2 w.heap.size (.slice (some ⟨w.heap.size, 0, none⟩) 0 0) 0 [] (World.ownsRow_made w #[] 0 (Nat.le_refl _) (Nat.zero_le _) rfl) w.heap.size (some ad) n c zs (HS.out.below HB0.out) (by omega) (by simp) 35
    have HO := Lib.hid hown
    have HG := Lib.hid hgr
    have HR := Lib.hid hrun
    clear hown hgr hrun hi0 hz0 hz1 hz2
    go_enter Try.func32, Try.ntmps32
    go_wp2_with (at_builtin; refine Lib.wpList_append_run_sl _ rfl _ _ 35 rfl _ _ rfl rfl HR.out ?_)
    go_ret
    refine ⟨_, rfl, ?_, HB0.out.grown HG.out (by simp) ?_⟩
    · have := HO.out
      rw [Nat.zero_add] at this
      simpa using this
    · intro k hk
      simp [Value.ownBlock] at hk
      omega

set_option maxHeartbeats 1000000 in
theorem find_any (n : Nd) (s : ByteArray) (w : World) (hin : n.In w w.heap.size) (r : Int) (hr : r = idxOf (n.props.map PV.name) s) :
    Calls Try.prog 19 #[n.val, .string s] w fun e w' => ∃ A c zs, e = .returned (.tuple #[.slice A zs.length c, .bool (decide (0 ≤ r))]) ∧ Shows w' w'.heap.size A zs.length zs ∧
      (r < 0 ∧ zs = [] ∨ ∃ k, ∃ hk : k < n.props.length, r = k ∧ zs = n.props[k].zs) ∧ Below w.heap.size w w' := by
  obtain ⟨nm, pa, pc, ps, ka, kc, ks⟩ := n
  have HI := Lib.hid hin
  have HR := Lib.hid hr
  obtain ⟨hl, hm⟩ : ps.length ≤ pc ∧ pc ≤ 9223372036854775807 := hin.plen
  have HM := Lib.hid (show (ps.map PV.name).length = ps.length from List.length_map _)
  clear hin hr
  show Calls _ _ #[.agg #[.string nm, .slice pa ps.length pc, .slice ka ks.length kc], .string s] _ _
  go_enter Try.func19, Try.ntmps19
  go_wp2_with fail
  go_loopw [11] (fun i wr => ∃ k : Nat, k ≤ ps.length ∧ i = .int .i64 k ∧ Missed (ps.map PV.name) s k ∧ Below w.heap.size w wr) (fun i _ => ps.length - (intOf i).toNat)
  case atStart => exact ⟨0, Nat.zero_le _, rfl, Missed.zero _ _, (Below.refl _ _).alloc (Nat.le_refl _) _⟩
  case round =>
    obtain ⟨k, hk, rfl, hmiss, hb⟩ := hrel
    have HA := Lib.hid hmiss
    have HB := Lib.hid hb
    clear hmiss hb
    by_cases hlt : k < ps.length
    · obtain ⟨b, o, e, hb, c0, c1⟩ := (HI.out.under HB.out).pcell (i := k) hlt
      obtain rfl : pa = _ := e
      replace c0 : _ = some (Value.string ps[k].name) := c0
      replace c1 : _ = some (Value.slice ps[k].addr ps[k].zs.length ps[k].cap) := c1
      have hxm : Hid ((ps.map PV.name)[k]'(by rw [HM.out]; exact hlt) = ps[k].name) := List.getElem_map _
      by_cases hxs : ps[k].name = s
      · have heq : (ps[k].name.toList == s.toList) = true := by rw [hxs]; simp
        have HX := Lib.hid hxs
        clear hxs
        obtain rfl : r = k := by rw [HR.out]; exact HA.out.hit _ (hxm.out.trans HX.out)
        have HV := Lib.hid (HI.out.prop (List.getElem_mem hlt))
        have HB2 := Lib.hid (HB.out.alloc HB.out.size (.cells #[Value.string ps[k].name, Value.slice ps[k].addr ps[k].zs.length ps[k].cap] 37))
        go_wp2_with fail
        refine (bclone_any ps[k].addr ps[k].zs.length ps[k].cap ps[k].zs _ ((HV.out.2.1.below HB2.out).more HB2.out.size) HV.out.1.2).mono ?_
        rintro e w' ⟨v', rfl, hown, hb'⟩
        obtain ⟨A, c, rfl, hsh, hc1, hc2⟩ := owned_shows hown HV.out.2.1.2.1
        have HS := Lib.hid hsh
        have HB3 := Lib.hid (HB2.out.trans (hb'.mono HB2.out.size))
        clear hown hsh hb' hc1 hc2
        go_wp2
        go_ret2
        refine ⟨A, c, ps[k].zs, ?_, HS.out, .inr ⟨k, hlt, rfl, rfl⟩, HB3.out⟩
        congr 3
      · have hne := str_ne hxs
        have HF := Lib.hid (HA.out.succ (by rw [HM.out]; exact hlt) (by rw [hxm.out]; exact hxs))
        clear hxs
        go_wp2
        go_roundw
        case rel => exact ⟨k + 1, by omega, by go_num, HF, HB.out.alloc HB.out.size _⟩
        case measure => simp [intOf]; omega
    · obtain rfl : r = -1 := by rw [HR.out]; exact HA.out.all (by rw [HM.out]; exact hlt)
      go_wp2
      go_ret2
      exact ⟨none, 0, [], rfl, Shows.nil _ _, .inl ⟨by omega, rfl⟩, HB.out⟩
end Go.Proofs.Ythfonfecangmcaa
