/-
  Base, part 5: what the proofs of this claim lean on.
-/
import Derived.Test.YtapfcbcojnplaaaBase4
import Derived.Test.YtapfcbcojnplaaaBase1
import Derived.Test.YtapfcbcojnplaaaShelf
import Derived.Lib.IndexLaws
import Derived.Test.YtapfcbcojnplaaaRows
import Derived.Test.YtapfcbcojnplaaaBase3
import Derived.Test.YtapfcbcojnplaaaBase2
import Derived.ChangeSame
import Derived.ChangeSlices
import Derived.OpenShut
import Derived.ProofKit

/-! Layer 4: words.Text and words.Pad at slices of any length; bytes.Clone. -/
namespace Go.Proofs.Ytapfcbcojnplaaa
open Go.RowKit
set_option linter.unusedVariables false
set_option linter.unusedSimpArgs false

theorem byte_eq_zero (z : Int) (h : 0 ≤ z ∧ z < 256) : UInt8.ofNat z.toNat = (0 : Int).toNat.toUInt8 ↔ z = 0 := by
  constructor
  · intro e
    have e2 := congrArg UInt8.toNat e
    simp at e2
    omega
  · rintro rfl; rfl

theorem index_none (zs : List Int) (a n : Nat) (hz : ∀ z ∈ zs, 0 ≤ z ∧ z < 256) (hl : zs.length = n) (h : NoHit zs a n) : Lib.indexByte (Lib.bytesOf (zs.drop a)) (0 : Int).toNat.toUInt8 = -1 := by
  have hge := Lib.indexByte_ge (Lib.bytesOf (zs.drop a)) (0 : Int).toNat.toUInt8
  by_cases hn : Lib.indexByte (Lib.bytesOf (zs.drop a)) (0 : Int).toNat.toUInt8 = -1
  · exact hn
  · obtain ⟨o, ho⟩ : ∃ o : Nat, Lib.indexByte (Lib.bytesOf (zs.drop a)) (0 : Int).toNat.toUInt8 = o := ⟨_, (Int.toNat_of_nonneg (by omega)).symm⟩
    have h1 := (Lib.indexByte_some ho).1
    rw [Lib.bytesOf, List.getElem?_map, List.getElem?_drop] at h1
    obtain ⟨z, h2, h3⟩ := Option.map_eq_some_iff.1 h1
    have hlt : a + o < n := by
      rcases Nat.lt_or_ge (a + o) zs.length with h | h
      · omega
      · rw [List.getElem?_eq_none h] at h2; cases h2
    exact absurd ((byte_eq_zero z (hz z (List.mem_of_getElem? h2))).1 h3) (by have := h (a + o) (by omega) hlt; simpa [List.getD, h2] using this)

theorem index_some (zs : List Int) (a n i : Nat) (hz : ∀ z ∈ zs, 0 ≤ z ∧ z < 256) (hl : zs.length = n) (h : HitAt zs a n i) : Lib.indexByte (Lib.bytesOf (zs.drop a)) (0 : Int).toNat.toUInt8 = ((i - a : Nat) : Int) := by
  obtain ⟨h1, h2, h3, h4⟩ := h
  have hge := Lib.indexByte_ge (Lib.bytesOf (zs.drop a)) (0 : Int).toNat.toUInt8
  have hi : (Lib.bytesOf (zs.drop a))[i - a]? = some (0 : Int).toNat.toUInt8 := by
    have e : zs[i]? = some zs[i] := List.getElem?_eq_getElem (by omega)
    rw [Lib.bytesOf, List.getElem?_map, List.getElem?_drop, show a + (i - a) = i from by omega, e]
    have e2 : zs[i] = 0 := by simpa [List.getD, e] using h3
    rw [e2]; rfl
  by_cases hn : Lib.indexByte (Lib.bytesOf (zs.drop a)) (0 : Int).toNat.toUInt8 = -1
  · exact absurd hi (Lib.indexByte_none hn _)
  · obtain ⟨o, ho⟩ : ∃ o : Nat, Lib.indexByte (Lib.bytesOf (zs.drop a)) (0 : Int).toNat.toUInt8 = o := ⟨_, (Int.toNat_of_nonneg (by omega)).symm⟩
    obtain ⟨k1, k2⟩ := Lib.indexByte_some ho
    rw [ho]
    congr 1
    rcases Nat.lt_trichotomy o (i - a) with h5 | h5 | h5
    · rw [Lib.bytesOf, List.getElem?_map, List.getElem?_drop] at k1
      obtain ⟨z, g2, g3⟩ := Option.map_eq_some_iff.1 k1
      exact absurd ((byte_eq_zero z (hz z (List.mem_of_getElem? g2))).1 g3) (by have := h4 (a + o) (by omega) (by omega); simpa [List.getD, g2] using this)
    · exact h5
    · exact absurd hi (k2 _ h5)

theorem and_three (n : Int) (h0 : 0 ≤ n) (h1 : n ≤ 9223372036854775807) : bits .and .i64 (-n) 3 = (-n) % 4 := by
  show IntKind.i64.wrap ((BitVec.ofInt 64 (-n) &&& BitVec.ofInt 64 3).toNat : Int) = _
  rw [BitVec.toNat_and, show (BitVec.ofInt 64 3).toNat = 3 from rfl, nat_mask2, BitVec.toNat_ofInt, IntWalk.i64_in _ (by omega)]
  omega

theorem takeWhile_at : ∀ (l : List Int) (k : Nat), k < l.length → l.getD k 0 = 0 → (∀ j, j < k → l.getD j 0 ≠ 0) → 0 ∈ l ∧ (l.takeWhile fun z => decide (z ≠ 0)) = l.take k
  | x :: l, 0, _, h0, _ => by
    have hx : x = 0 := by simpa using h0
    subst hx
    simp [List.takeWhile_cons]
  | x :: l, k + 1, hk, h0, h1 => by
    have hx : x ≠ 0 := by simpa using h1 0 (by omega)
    obtain ⟨e1, e2⟩ := takeWhile_at l k (by simpa using hk) (by simpa using h0) (fun j hj => by simpa using h1 (j + 1) (by omega))
    refine ⟨List.mem_cons_of_mem _ e1, ?_⟩
    rw [List.takeWhile_cons, if_pos (by simpa using hx), e2, List.take_succ_cons]
theorem getD_drop (zs : List Int) (a k : Nat) : (zs.drop a).getD k 0 = zs.getD (a + k) 0 := by simp [List.getD, List.getElem?_drop]
theorem textFrom_hit {zs : List Int} {a i : Nat} (h : HitAt zs a zs.length i) : textFrom zs a = some ((zs.drop a).take (i - a)) := by
  obtain ⟨h1, h2, h3, h4⟩ := h
  obtain ⟨e1, e2⟩ := takeWhile_at (zs.drop a) (i - a) (by rw [List.length_drop]; omega) (by rw [getD_drop, show a + (i - a) = i by omega]; exact h3) (fun j hj => by rw [getD_drop]; exact h4 _ (by omega) (by omega))
  rw [textFrom, if_pos e1, e2]
theorem textFrom_nohit {zs : List Int} {a : Nat} (h : NoHit zs a zs.length) : textFrom zs a = none := by
  rw [textFrom, if_neg]
  intro h0
  obtain ⟨k, hk, e⟩ := List.getElem_of_mem h0
  rw [List.length_drop] at hk
  refine h (a + k) (by omega) (by omega) ?_
  rw [← getD_drop]
  simp [List.getD, List.getElem?_eq_getElem (show k < (zs.drop a).length by rw [List.length_drop]; omega), e]

def txtOf : Option (List Int) → ByteArray
  | none => ByteArray.empty
  | some s => strOfNums s
theorem text_any_byte {zs s : List Int} {a : Nat} (hz : ∀ z ∈ zs, 0 ≤ z ∧ z < 256) (h : textFrom zs a = some s) : ∀ z ∈ s, 0 ≤ z ∧ z < 256 := by
  unfold textFrom at h
  split at h
  · simp only [Option.some.injEq] at h
    subst h
    exact fun z hz' => hz z (List.mem_of_mem_drop ((List.takeWhile_sublist _).subset hz'))
  · cases h

set_option maxHeartbeats 1000000 in
theorem bclone_any (A : Option Addr) (n c : Nat) (zs : List Int) (w : World) (hs : Shows w w.heap.size A n zs) (hn : n ≤ 140737488351232) :
    Calls Try.prog 41 #[.slice A n c] w fun e w' => ∃ v', e = .returned v' ∧ w'.ownsRow w.heap.size 5 1 v' n (u8s zs) ∧ Below w.heap.size w w' := by
  obtain ⟨i0, hi0, hz0, hz1, hz2⟩ := info_parts info_u8
  have HS := Lib.hid hs
  clear hs
  have q : ∀ (w : World) (a : Option Addr) (n c n' c' : Nat), (binOp .eql 79 (.slice a n c) (.slice none n' c')).run Try.prog w = .ok (.bool a.isNone) w := fun w a n c n' c' => Lib.run_eql_slice_nil w _ _ a n c n' c' Try.underlying79
  have u22 : ∀ w, Sem.run Try.prog (underlying 79) w = .ok (TypeDesc.slice 5) w := run_underlying Try.underlying79
  rcases A with _ | ad
  · have hn0 : n = 0 := by
      rcases Nat.eq_zero_or_pos n with h | h
      · exact h
      · obtain ⟨b, o, e, _⟩ := HS.out.at_ h
        cases e
    have hz0' : zs = [] := List.eq_nil_of_length_eq_zero (HS.out.1.trans hn0)
    subst hn0 hz0'
    go_enter Try.func41, Try.ntmps41
    go_wp2
    go_ret
    exact ⟨_, rfl, World.ownsRow_nil _ _ _ _, Below.refl _ _⟩
  · have HB0 := Lib.hid ((Below.refl w.heap.size w).alloc (Nat.le_refl _) (.cells #[] 5))
    obtain ⟨v', w', hrun, hown, hgr, _⟩ := run_append_shown (w.alloc (.cells #[] 5)) i0 hi0 hz0 hz1 hz2 w.heap.size (.slice (some ⟨w.heap.size, 0, none⟩) 0 0) 0 [] (World.ownsRow_made w #[] 0 (Nat.le_refl _) (Nat.zero_le _) rfl) w.heap.size (some ad) n c zs (HS.out.below HB0.out) (by omega) (by simp) 79
    have HO := Lib.hid hown
    have HG := Lib.hid hgr
    have HR := Lib.hid hrun
    clear hown hgr hrun hi0 hz0 hz1 hz2
    go_enter Try.func41, Try.ntmps41
    go_wp2_with (at_builtin; refine Lib.wpList_append_run_sl _ rfl _ _ 79 rfl _ _ rfl rfl HR.out ?_)
    go_ret
    refine ⟨_, rfl, ?_, HB0.out.grown HG.out (by simp) ?_⟩
    · have := HO.out
      rw [Nat.zero_add] at this
      simpa using this
    · intro k hk
      simp [Value.ownBlock] at hk
      omega
end Go.Proofs.Ytapfcbcojnplaaa

/-! Layer 3: the value of a node's property (tree.Find), over bytes.Clone at slices of any length. -/
namespace Go.Proofs.Ytapfcbcojnplaaa
open Go.RowKit
set_option linter.unusedVariables false
set_option linter.unusedSimpArgs false

set_option maxHeartbeats 1000000 in
theorem findc_any (n : Nd) (s : ByteArray) (w : World) (hin : n.In w w.heap.size) (r : Int) (hr : r = idxOf (n.props.map PV.name) s) :
    Calls Try.prog 33 #[n.val, .string s] w fun e w' => ∃ A c zs, e = .returned (.tuple #[.slice A zs.length c, .bool (decide (0 ≤ r))]) ∧ (Shows w' w'.heap.size A zs.length zs ∧ zs.length ≤ c ∧ c ≤ 9223372036854775807) ∧
      (r < 0 ∧ zs = [] ∨ ∃ k, ∃ hk : k < n.props.length, r = k ∧ zs = n.props[k].zs) ∧ Below w.heap.size w w' := by
  obtain ⟨nm, pa, pc, ps, ka, kc, ks⟩ := n
  have HI := Lib.hid hin
  have HR := Lib.hid hr
  obtain ⟨hl, hm⟩ : ps.length ≤ pc ∧ pc ≤ 9223372036854775807 := hin.plen
  have HM := Lib.hid (show (ps.map PV.name).length = ps.length from List.length_map _)
  clear hin hr
  show Calls _ _ #[.agg #[.string nm, .slice pa ps.length pc, .slice ka ks.length kc], .string s] _ _
  go_enter Try.func33, Try.ntmps33
  go_wp2_with fail
  go_loopw [11] (fun i wr => ∃ k : Nat, k ≤ ps.length ∧ i = .int .i64 k ∧ Missed (ps.map PV.name) s k ∧ Below w.heap.size w wr) (fun i _ => ps.length - (intOf i).toNat)
  case atStart => exact ⟨0, Nat.zero_le _, rfl, Missed.zero _ _, (Below.refl _ _).alloc (Nat.le_refl _) _⟩
  case round =>
    obtain ⟨k, hk, rfl, hmiss, hb⟩ := hrel
    have HA := Lib.hid hmiss
    have HB := Lib.hid hb
    clear hmiss hb
    by_cases hlt : k < ps.length
    · obtain ⟨b, o, e, hb, c0, c1⟩ := (HI.out.under HB.out).pcell (i := k) hlt
      obtain rfl : pa = _ := e
      replace c0 : _ = some (Value.string ps[k].name) := c0
      replace c1 : _ = some (Value.slice ps[k].addr ps[k].zs.length ps[k].cap) := c1
      have hxm : Hid ((ps.map PV.name)[k]'(by rw [HM.out]; exact hlt) = ps[k].name) := List.getElem_map _
      by_cases hxs : ps[k].name = s
      · have heq : (ps[k].name.toList == s.toList) = true := by rw [hxs]; simp
        have HX := Lib.hid hxs
        clear hxs
        obtain rfl : r = k := by rw [HR.out]; exact HA.out.hit _ (hxm.out.trans HX.out)
        have HV := Lib.hid (HI.out.prop (List.getElem_mem hlt))
        have HB2 := Lib.hid (HB.out.alloc HB.out.size (.cells #[Value.string ps[k].name, Value.slice ps[k].addr ps[k].zs.length ps[k].cap] 81))
        go_wp2_with fail
        refine (bclone_any ps[k].addr ps[k].zs.length ps[k].cap ps[k].zs _ ((HV.out.2.1.below HB2.out).more HB2.out.size) HV.out.1.2).mono ?_
        rintro e w' ⟨v', rfl, hown, hb'⟩
        obtain ⟨A, c, rfl, hsh, hc1, hc2⟩ := owned_shows hown HV.out.2.1.2.1
        have HS := Lib.hid (And.intro hsh (And.intro hc1 hc2))
        have HB3 := Lib.hid (HB2.out.trans (hb'.mono HB2.out.size))
        clear hown hsh hb' hc1 hc2
        go_wp2
        go_ret2
        refine ⟨A, c, ps[k].zs, ?_, HS.out, .inr ⟨k, hlt, rfl, rfl⟩, HB3.out⟩
        congr 3
      · have hne := str_ne hxs
        have HF := Lib.hid (HA.out.succ (by rw [HM.out]; exact hlt) (by rw [hxm.out]; exact hxs))
        clear hxs
        go_wp2
        go_roundw
        case rel => exact ⟨k + 1, by omega, by go_num, HF, HB.out.alloc HB.out.size _⟩
        case measure => simp [intOf]; omega
    · obtain rfl : r = -1 := by rw [HR.out]; exact HA.out.all (by rw [HM.out]; exact hlt)
      go_wp2
      go_ret2
      exact ⟨none, 0, [], rfl, ⟨Shows.nil _ _, Nat.le_refl _, by omega⟩, .inl ⟨by omega, rfl⟩, HB.out⟩

theorem find_off (n : Nd) (s : ByteArray) (w : World) (hin : n.In w w.heap.size) (h : idxOf (n.props.map PV.name) s < 0) :
    Calls Try.prog 33 #[n.val, .string s] w fun e w' => (∃ A c, e = .returned (.tuple #[.slice A 0 c, .bool false]) ∧ c ≤ 9223372036854775807) ∧ Below w.heap.size w w' :=
  (findc_any n s w hin _ rfl).mono fun e w' ⟨A, c, zs, he, hs, hw, hb⟩ => by
    rcases hw with ⟨_, rfl⟩ | ⟨k, _, e, _⟩
    · exact ⟨⟨A, c, by rw [he, decide_eq_false (by omega)]; rfl, hs.2.2⟩, hb⟩
    · omega
theorem find_on (n : Nd) (s : ByteArray) (w : World) (hin : n.In w w.heap.size) (k : Nat) (hk : k < n.props.length) (h : idxOf (n.props.map PV.name) s = (k : Int)) (zs : List Int) (hz : n.props[k].zs = zs) :
    Calls Try.prog 33 #[n.val, .string s] w fun e w' => (∃ A c, e = .returned (.tuple #[.slice A zs.length c, .bool true]) ∧ Shows w' w'.heap.size A zs.length zs ∧ zs.length ≤ c ∧ c ≤ 9223372036854775807) ∧ Below w.heap.size w w' :=
  (findc_any n s w hin _ rfl).mono fun e w' ⟨A, c, zs', he, hs, hw, hb⟩ => by
    rcases hw with ⟨h0, _⟩ | ⟨j, hj, e, h1⟩
    · omega
    · obtain rfl : j = k := by omega
      obtain rfl : zs' = zs := h1.trans hz
      exact ⟨⟨A, c, by rw [he, decide_eq_true (by omega)], hs⟩, hb⟩
end Go.Proofs.Ytapfcbcojnplaaa

/-! Layer 7: the program's One. -/
namespace Go.Proofs.Ytapfcbcojnplaaa
open Go.RowKit
set_option linter.unusedVariables false
set_option linter.unusedSimpArgs false

set_option maxRecDepth 20000 in
set_option maxHeartbeats 4000000 in
theorem oneOK : OneOK := by
  intro n s w hin hs
  have HB := Lib.hid ((Below.refl w.heap.size w).alloc (Nat.le_refl _) (.cells #[Value.string n.name, n.pv, n.kv] 27))
  have HI := Lib.hid (fun o => Nd.In.more ((Below.refl w.heap.size w).alloc (Nat.le_refl _) o).size (hin.under ((Below.refl w.heap.size w).alloc (Nat.le_refl _) o)))
  rcases idx_or (n.props.map PV.name) s with h | ⟨k, h1, h2, _⟩
  · have CF := Lib.hid (fun o => find_off n s (w.alloc o) (HI.out o) (by omega))
    have HO : Hid (oneV n s = (0, false, 0)) := Lib.hid (by rw [oneV, find_none h])
    clear hin h HI
    obtain ⟨nm, pa, pc, ps, ka, kc, ks⟩ := n
    rw [HO.out]
    simp only [Nd.val, Nd.pv, Nd.kv, Nd.name, Nd.pa, Nd.pc, Nd.props, Nd.ka, Nd.kc, Nd.kids] at CF HB ⊢
    go_enter Try.func28, Try.ntmps28
    go_wp2_with fail
    refine (CF.out _).mono ?_
    rintro e w1 ⟨⟨A1, c1, rfl, _⟩, hb⟩
    have HB1 := Lib.hid (HB.out.trans (hb.mono HB.out.size))
    clear hb
    go_wp2
    go_ret3
    exact ⟨rfl, HB1.out⟩
  · rw [List.length_map] at h1
    obtain ⟨zs, hzs⟩ : ∃ zs, n.props[k].zs = zs := ⟨_, rfl⟩
    have CF := fun o => find_on n s (w.alloc o) (HI.out o) k h1 h2 zs hzs
    have HO : Hid (oneV n s = if zs.length = 4 then (numTo zs 0 4, true, 0) else (0, false, 4)) := Lib.hid (by rw [oneV, find_at h1 h2, ← hzs])
    have hN : zs.length ≤ 140737488351232 := by rw [← hzs]; exact (hin.prop (List.getElem_mem h1)).1.2
    have HC := Lib.hid (fun A c W (hW : Shows W W.heap.size A zs.length zs) h1 h2 => cells_any A zs.length c zs W hW (by omega) h1 h2)
    obtain ⟨O, hO⟩ : ∃ O, oneV n s = O := ⟨_, rfl⟩
    rw [hO] at HO ⊢
    obtain ⟨N, hNe⟩ : ∃ N, zs.length = N := ⟨_, rfl⟩
    rw [hNe] at HO HC CF hN
    have HCF := Lib.hid CF
    have HNN := Lib.hid hNe
    clear hin HI hO hNe CF hzs h1 h2
    obtain ⟨nm, pa, pc, ps, ka, kc, ks⟩ := n
    simp only [Nd.val, Nd.pv, Nd.kv, Nd.name, Nd.pa, Nd.pc, Nd.props, Nd.ka, Nd.kc, Nd.kids] at HCF HB ⊢
    go_enter Try.func28, Try.ntmps28
    go_wp2_with fail
    refine (HCF.out _).mono ?_
    rintro e w1 ⟨⟨A1, c1, rfl, hsh, hl1, hl2⟩, hb⟩
    have HB1 := Lib.hid (HB.out.trans (hb.mono HB.out.size))
    have CC := HC.out A1 c1 w1 hsh hl1 hl2
    by_cases h4 : N % 4 = 0
    · have hE : cellsE zs = 0 := by rw [cellsE, if_pos (by rw [HNN.out]; exact h4)]
      obtain ⟨hUL, hU⟩ := u32s_cells (zs := zs) (by rw [HNN.out]; exact h4) rfl
      rw [HNN.out] at hUL hU
      obtain ⟨M, hM⟩ : ∃ M, N / 4 = M := ⟨_, rfl⟩
      rw [hM] at hUL hU
      unfold RowOut at CC
      rw [hE, hUL] at CC
      have HU := Lib.hid hU
      generalize u32s (cellsL zs) = U at CC HU
      have HCC := Lib.hid CC
      clear hb hsh CC hE hUL hU
      go_wp2_with fail
      refine HCC.out.mono ?_
      rintro e w2 ⟨⟨A, c, rfl, hcel, hl3, hl4⟩, hb⟩
      have HB2 := Lib.hid (HB1.out.trans (hb.mono HB1.out.size))
      clear hb
      by_cases h1 : M = 1
      · subst h1
        obtain ⟨bc, oc, rfl, _, hc0⟩ := hcel.2 (by omega)
        have d0 := hc0 0 (by omega)
        rw [Nat.add_zero, HU.out 0 (by omega)] at d0
        obtain ⟨v, hv⟩ : ∃ v, numTo zs 0 4 = v := ⟨_, rfl⟩
        have HO2 : Hid (O = (v, true, 0)) := Lib.hid (by rw [HO.out, if_pos (by omega), hv])
        rw [Nat.mul_zero, hv] at d0
        clear hcel hc0 hv hM h4 HCC HO
        go_wp2
        go_ret3
        exact ⟨by rw [HO2.out]; rfl, HB2.out⟩
      · have k1 : ((M : Int) != 1) = true := by rw [bne_iff_ne]; omega
        have HO2 : Hid (O = (0, false, 4)) := Lib.hid (by rw [HO.out, if_neg (by omega)])
        clear hcel hM h4 h1 HCC HO
        go_wp2
        go_ret3
        exact ⟨by rw [HO2.out]; rfl, HB2.out⟩
    · have hE : cellsE zs = 4 := by rw [cellsE, if_neg (by rw [HNN.out]; exact h4)]
      have hUL : u32s (cellsL zs) = [] := by rw [cellsL, if_neg (by rw [HNN.out]; exact h4)]; rfl
      unfold RowOut at CC
      rw [hE, hUL] at CC
      have HCC : Hid (Calls Try.prog 34 #[.slice A1 N c1] w1 fun e w' => (∃ A c, e = .returned (.tuple #[.slice A 0 c, .int .i64 4]) ∧ Cel w' w'.heap.size A 0 [] ∧ 0 ≤ c ∧ c ≤ 9223372036854775807) ∧ Below w1.heap.size w1 w') := Lib.hid CC
      have HO2 : Hid (O = (0, false, 4)) := Lib.hid (by rw [HO.out, if_neg (by omega)])
      clear hb hsh CC hE hUL h4 HO
      go_wp2_with fail
      refine HCC.out.mono ?_
      rintro e w2 ⟨⟨A, c, rfl, hcel, hl3, hl4⟩, hb⟩
      have HB2 := Lib.hid (HB1.out.trans (hb.mono HB1.out.size))
      clear hb hcel
      go_wp2
      go_ret3
      exact ⟨by rw [HO2.out]; rfl, HB2.out⟩
end Go.Proofs.Ytapfcbcojnplaaa

/-! Whom a handle means, and the greatest one: the document's answer. -/
namespace Go.Proofs.Ytapfcbcojnplaaa
open Go.RowKit
set_option linter.unusedVariables false
set_option linter.unusedSimpArgs false

theorem find_first : ∀ (l : List (Int × List Nat)) (h : Int) (j : Nat) (hj : j < l.length), (∀ y ∈ l.take j, y.1 ≠ h) → l[j].1 = h → l.find? (fun x => decide (x.1 = h)) = some l[j]
  | x :: l, h, 0, _, _, e => by rw [List.find?_cons_of_pos (by simpa using e)]; rfl
  | x :: l, h, j + 1, hj, ha, e => by
    rw [List.find?_cons_of_neg (by simpa using ha x (by simp))]
    exact find_first l h j (by simpa using hj) (fun y hy => ha y (by simp [hy])) (by simpa using e)
theorem find_never {l : List (Int × List Nat)} {h : Int} (ha : ∀ y ∈ l, y.1 ≠ h) : l.find? (fun x => decide (x.1 = h)) = none := by
  rw [List.find?_eq_none]
  intro x hx
  simpa using ha x hx
/-- What Handle answers. -/
def HandleV (w : World) (e : Ending) : Option (List Nat) → Prop
  | none => e = .returned (.tuple #[.slice none 0 0, .bool false])
  | some p => ∃ A c, e = .returned (.tuple #[.slice A p.length c, .bool true]) ∧ Cel w w.heap.size A p.length (ints p) ∧ p.length ≤ c ∧ c ≤ 9223372036854775807

end Go.Proofs.Ytapfcbcojnplaaa

/-! Layer 8, HandleIndex, HandleFinds, HandleEach: out of what the program's Index, Most and Find answer. -/
namespace Go.Proofs.Ytapfcbcojnplaaa
open Go.RowKit
set_option linter.unusedVariables false
set_option linter.unusedSimpArgs false

/-- What the program's Most answers. -/
def MostOK : Prop := ∀ (t : Tr) (w : World), t.In w w.heap.size → heftN t.root ≤ 134217728 → Calls Try.prog 37 #[t.val] w fun e w' => e = .returned (.tuple #[.int .u32 (mostOf t.root), .int .i64 (refsOf t.root).2]) ∧ Below w.heap.size w w'
/-- What Find answers: the place, or nobody; of a tree whose handles aren't right, its error. -/
def FindV (w : World) (e : Ending) (er : Int) (o : Option (List Nat)) : Prop :=
  if er ≠ 0 then ∃ A c, e = .returned (.tuple #[.slice A 0 c, .int .i64 er]) ∧ c ≤ 9223372036854775807
  else match o with
  | none => ∃ A c, e = .returned (.tuple #[.slice A 0 c, .int .i64 11]) ∧ c ≤ 9223372036854775807
  | some p => ∃ A c, e = .returned (.tuple #[.slice A p.length c, .int .i64 0]) ∧ Cel w w.heap.size A p.length (ints p) ∧ p.length ≤ c ∧ c ≤ 9223372036854775807
/-- In a list in which no handle is twice each one is found. -/
theorem find_nodup : ∀ (l : List (Int × List Nat)) (j : Nat) (hj : j < l.length), (l.map Prod.fst).Nodup → l.find? (fun x => decide (x.1 = l[j].1)) = some l[j]
  | x :: l, 0, _, _ => by rw [List.find?_cons_of_pos (by simp)]; rfl
  | x :: l, j + 1, hj, h => by
    rw [List.map_cons, List.nodup_cons] at h
    have hjl : j < l.length := by simpa using hj
    rw [List.find?_cons_of_neg (by
      have : x.1 ≠ l[j].1 := fun e => h.1 (by rw [e]; exact List.mem_map.2 ⟨l[j], List.getElem_mem hjl, rfl⟩)
      simpa using this)]
    exact find_nodup l j hjl h.2


end Go.Proofs.Ytapfcbcojnplaaa

/-! Layer 3, a tree that came in: how heavy it is, by the bulk of what it reads as. -/
namespace Go.Proofs.Ytapfcbcojnplaaa
open Go.RowKit Go.ChangeShapes Go.WideShapes Go.Deep
set_option linter.unusedVariables false
set_option linter.unusedSimpArgs false

theorem bulk_one {H : Type} (d : DataW H) : 1 ≤ Rows.uptoBulk d := by
  cases d with
  | lit l => cases l <;> simp [Rows.uptoBulk]
  | nil => simp [Rows.uptoBulk]
  | ptr d => simp [Rows.uptoBulk]
  | slice elems spare => simp [Rows.uptoBulk]
  | agg parts => simp [Rows.uptoBulk]
  | iface t d => simp [Rows.uptoBulk]
  | map entries => simp [Rows.uptoBulk]
  | held h => simp [Rows.uptoBulk]
theorem bulk_length {H : Type} (l : List (DataW H)) : l.length ≤ Rows.uptoBulkAll l := by
  induction l with
  | nil => simp [Rows.uptoBulkAll]
  | cons x r ih => have := bulk_one x; simp only [Rows.uptoBulkAll, List.length_cons]; omega
theorem sixteen {α : Type} : ∀ l : List α, (l.map (fun _ => 16)).sum = 16 * l.length
  | [] => rfl
  | x :: l => by rw [List.map_cons, List.sum_cons, sixteen l, List.length_cons]; omega
theorem bulk_sum {H : Type} {α : Type} (g : α → Nat) (F : Nat → α) (D : Nat → DataW H) : ∀ l : List Nat, (∀ i ∈ l, g (F i) ≤ 16 * Rows.uptoBulk (D i)) → ((l.map F).map g).sum ≤ 16 * Rows.uptoBulkAll (l.map D)
  | [], _ => by simp
  | i :: l, h => by
    have h1 := h i (by simp)
    have h2 := bulk_sum g F D l (fun j hj => h j (by simp [hj]))
    simp only [List.map_cons, List.sum_cons, Rows.uptoBulkAll]
    omega

section
variable {H : Type} {enc : TypeId × Value → H} {w : World} {base : Nat} {spare : Nat → Bool} {held : Bool}

set_option maxRecDepth 100000 in
theorem bulk_pv {fuel : Nat} {cs : List Value} {x : DataW H × List MemPlace} (h : DataW.trod enc Try.prog w base spare held fuel 81 cs = some x) (hw : ∀ z ∈ DataW.weights Try.prog 81 x.1, z ≤ 140737488351232) :
    ∃ p : PV, cs = [.string p.name, p.val] ∧ p.In w w.heap.size ∧ heftP p ≤ 16 * Rows.uptoBulk x.1 := by
  obtain ⟨y0, y1, n, rfl, hl, h0, h1⟩ := trod_struct2 Try.underlying81 h
  rw [Try.cellsProp] at hl
  obtain ⟨c0, c1, rfl⟩ : ∃ c0 c1, cs = [c0, c1] := by
    exact two_of hl
  rw [Try.cellsStr] at h0
  rw [Try.cellsBytes] at h1
  obtain ⟨s, e0, rfl, hs⟩ := DataW.trod_string Try.underlying9 h0
  simp only [List.drop_zero, List.take_succ_cons, List.take_zero, List.cons.injEq, and_true] at e0
  subst e0
  have hs' : s.size ≤ 140737488351232 := hw s.size (by
    simp only [DataW.weights, DataW.weightsEach, Try.underlying81, List.map_cons, List.map_nil]
    exact List.mem_append_left _ (by simp))
  rcases open_ints Try.underlying79 Try.underlying5 Try.cellsByte h1 with ⟨e1, _⟩ | ⟨a, len, cap, zs, e1, hb, hlc, hm, hz, rfl, hcell, hwf⟩
  · simp only [List.drop_succ_cons, List.drop_zero, List.take_succ_cons, List.take_zero, List.cons.injEq, and_true] at e1
    subst e1
    exact ⟨⟨s, none, 0, []⟩, rfl, ⟨⟨hs', by simp⟩, Shows.nil _ _, Nat.le_refl _, by simp⟩, by (have e : s.data.size = s.size := rfl; simp only [heftP, Rows.uptoBulk, Rows.uptoBulkAll, List.length_nil, Array.length_toList]; omega)⟩
  · simp only [List.drop_succ_cons, List.drop_zero, List.take_succ_cons, List.take_zero, List.cons.injEq, and_true] at e1
    subst e1
    have hle : len ≤ zs.length := by rw [hz]; split <;> omega
    have hl' : (zs.take len).length = len := by rw [List.length_take]; omega
    have hb' : zs.length * Try.prog.bytesOf 5 ≤ 140737488351232 := hw _ (by
      simp only [DataW.weights, DataW.weightsEach, Try.underlying81, Try.underlying79, List.map_cons, List.map_nil]
      refine List.mem_append_right _ (List.mem_append_left _ (List.mem_cons.2 (.inl ?_)))
      simp only [lits, List.length_map, List.length_take, List.length_drop]
      congr 1
      omega)
    have e1 : Try.prog.bytesOf 5 = 1 := by kernel_rfl
    rw [e1] at hb'
    refine ⟨⟨s, some a, cap, zs.take len⟩, by rw [PV.val, hl'], ⟨⟨hs', by simp only [hl']; omega⟩, ?_, by rw [hl']; exact hlc, hm⟩, by (have h9 := bulk_length (lits (H := H) .u8 (zs.take len)); have h8 : (lits (H := H) .u8 (zs.take len)).length = len := (by simp only [lits, List.length_map]; exact hl'); have e : s.data.size = s.size := rfl; simp only [heftP, Rows.uptoBulk, Rows.uptoBulkAll, Array.length_toList, hl']; omega)⟩
    refine ⟨rfl, fun z hz' => ?_, fun hn => ?_⟩
    · have h2 := bounds_u8 (hwf z (List.mem_of_mem_take hz'))
      omega
    · rw [hl'] at hn
      obtain ⟨b, o, spot⟩ := a
      have hc := hcell 0 (by omega)
      have hspot : spot = none := by simpa [Addr.add] using World.cell?_spot hc
      subst hspot
      refine ⟨b, o, rfl, ?_, fun i hi => ?_⟩
      · rw [addr_add] at hc
        exact World.block_lt_of_cell? w _ hc
      · rw [hl'] at hi
        have hci := hcell i (by omega)
        rw [addr_add] at hci
        rw [hci]
        refine congrArg (fun z => some (Value.int .u8 z)) ?_
        simp [List.getD, List.getElem?_take_of_lt hi]

set_option maxRecDepth 100000 in
theorem bulk_row {α : Type} [Inhabited α] {t e : TypeId} {c : Nat} (f : α → List Value) (good : α → Prop) (g : α → Nat) {fuel : Nat} {cs : List Value} {x : DataW H × List MemPlace} (ht : Try.prog.underlying t = some (.slice e)) (hc : Try.prog.cellsOf e = c) (hc0 : 0 < c)
    (hlen : ∀ p, (f p).length = c) (each : ∀ (n : Nat) (cs : List Value) (y : DataW H × List MemPlace), SizeOf.sizeOf y.1 < SizeOf.sizeOf x.1 → DataW.trod enc Try.prog w base spare held n e cs = some y → (∀ z ∈ DataW.weights Try.prog e y.1, z ≤ 140737488351232) → ∃ p : α, cs = f p ∧ good p ∧ g p ≤ 16 * Rows.uptoBulk y.1)
    (h : DataW.trod enc Try.prog w base spare held fuel t cs = some x) (hw : ∀ z ∈ DataW.weights Try.prog t x.1, z ≤ 140737488351232) :
    ∃ (a : Option Addr) (cap : Nat) (l : List α), cs = [.slice a l.length cap] ∧ (l.map g).sum + 16 ≤ 16 * Rows.uptoBulk x.1 ∧ l.length ≤ cap ∧ cap ≤ 9223372036854775807 ∧ l.length * Try.prog.bytesOf e ≤ 140737488351232 ∧ (∀ p ∈ l, good p) ∧
      (0 < l.length → ∃ b o, a = some ⟨b, o, none⟩ ∧ b < w.heap.size ∧ ∀ i (h : i < l.length), ∀ j, j < c → w.cell? ⟨b, o + i * c + j, none⟩ = (f l[i])[j]?) := by
  rcases open_slice ht h with ⟨rfl, _⟩ | ⟨a, len, cap, m, n, D, Pl, rfl, hb, hl, hm, hmm, rfl, hi⟩
  · exact ⟨none, 0, [], rfl, by (have := bulk_one x.1; simp only [List.map_nil, List.sum_nil]; omega), Nat.le_refl _, by simp, by simp, by simp, fun h => absurd h (by simp)⟩
  · have hlm : len ≤ m := by rw [hmm]; split <;> omega
    have sz : ∀ i, i < len → SizeOf.sizeOf (D i) < SizeOf.sizeOf (DataW.slice ((List.range len).map D) ((List.range (m - len)).map fun j => D (len + j))) := fun i hi' => by
      have hmem : D i ∈ (List.range len).map D := List.mem_map.2 ⟨i, List.mem_range.2 hi', rfl⟩
      have := List.sizeOf_lt_of_mem hmem
      simp only [DataW.slice.sizeOf_spec]
      omega
    have hw1 : (len + (m - len)) * Try.prog.bytesOf e ≤ 140737488351232 := hw _ (by
      simp only [DataW.weights, ht]
      refine List.mem_cons.2 (.inl ?_)
      simp)
    have hw2 : len * Try.prog.bytesOf e ≤ 140737488351232 := Nat.le_trans (Nat.mul_le_mul_right _ (by omega)) hw1
    have hwi : ∀ i, i < len → ∀ z ∈ DataW.weights Try.prog e (D i), z ≤ 140737488351232 := fun i hi' z hz => hw z (by
      simp only [DataW.weights, ht]
      exact List.mem_cons.2 (.inr (List.mem_append_left _ (weights_mem (List.mem_map.2 ⟨i, List.mem_range.2 hi', rfl⟩) hz))))
    obtain ⟨F, hF⟩ := choose_lt (α := α) (n := len) (p := fun i p => w.cells? base (a.add (i * Try.prog.cellsOf e)) (Try.prog.cellsOf e) = some (f p) ∧ good p ∧ g p ≤ 16 * Rows.uptoBulk (D i)) (fun i hi' => by
      obtain ⟨cs', h1, h2⟩ := hi i (by omega)
      obtain ⟨p, rfl, hg, hg2⟩ := each n cs' _ (sz i hi') h2 (hwi i hi')
      exact ⟨p, h1, hg, hg2⟩)
    refine ⟨some a, cap, (List.range len).map F, by simp, by have h7 := bulk_sum g F D (List.range len) (fun i hi' => (hF i (List.mem_range.1 hi')).2.2); simp only [Rows.uptoBulk]; omega, by simpa using hl, hm, by simpa using hw2, ?_, fun h0 => ?_⟩
    · intro p hp
      obtain ⟨i, hi', rfl⟩ := List.mem_map.1 hp
      exact (hF i (List.mem_range.1 hi')).2.1
    · simp only [List.length_map, List.length_range] at h0 ⊢
      obtain ⟨b, o, spot⟩ := a
      have cell : ∀ i, i < len → ∀ j, j < c → w.cell? ((⟨b, o, spot⟩ : Addr).add (i * c + j)) = (f (F i))[j]? := fun i hi' j hj => by
        obtain ⟨_, _, h3⟩ := World.cells?_some (hF i hi').1
        rw [hc] at h3
        rw [← Go.Deep.add_add]
        exact h3 j hj
      have c0 := cell 0 h0 0 hc0
      rw [List.getElem?_eq_getElem (by rw [hlen]; exact hc0)] at c0
      have hspot : spot = none := by simpa [Addr.add] using World.cell?_spot c0
      subst hspot
      refine ⟨b, o, rfl, World.block_lt_of_cell? w _ (by rw [addr_add] at c0; exact c0), fun i hi' j hj => ?_⟩
      have := cell i hi' j hj
      rw [addr_add, ← Nat.add_assoc] at this
      simpa using this

theorem heftL_sum : ∀ ks : List Nd, heftL ks = (ks.map heftN).sum
  | [] => rfl
  | k :: r => by simp only [heftL, List.map_cons, List.sum_cons, heftL_sum r]

set_option maxRecDepth 100000 in
theorem bulk_nd : ∀ (m fuel : Nat) (cs : List Value) (x : DataW H × List MemPlace), SizeOf.sizeOf x.1 ≤ m → DataW.trod enc Try.prog w base spare held fuel 27 cs = some x →
    (∀ z ∈ DataW.weights Try.prog 27 x.1, z ≤ 140737488351232) → ∃ n : Nd, cs = [.string n.name, n.pv, n.kv] ∧ n.In w w.heap.size ∧ heftN n ≤ 16 * Rows.uptoBulk x.1 := by
  intro m
  induction m with
  | zero => intro fuel cs x hx; exfalso; obtain ⟨d, pl⟩ := x; cases d <;> simp at hx
  | succ m ih =>
    intro fuel cs x hx h hw
    obtain ⟨y0, y1, y2, n, rfl, hl, h0, h1, h2⟩ := trod_struct3 Try.underlying27 h
    rw [Try.cellsNode] at hl
    obtain ⟨c0, c1, c2, rfl⟩ : ∃ c0 c1 c2, cs = [c0, c1, c2] := by
      exact three_of hl
    rw [Try.cellsStr] at h0
    rw [Try.cellsProps] at h1
    rw [Try.cellsNodes] at h2
    simp only [List.drop_zero, List.drop_succ_cons, List.take_succ_cons, List.take_zero] at h0 h1 h2
    simp only [DataW.weights, DataW.weightsEach, Try.underlying27, List.map_cons, List.map_nil] at hw
    have hw0 := fun z hz => hw z (List.mem_append_left _ hz)
    have hw1 := fun z hz => hw z (List.mem_append_right _ (List.mem_append_left _ hz))
    have hw2 := fun z hz => hw z (List.mem_append_right _ (List.mem_append_right _ (List.mem_append_left _ hz)))
    obtain ⟨s, e0, rfl, hs⟩ := DataW.trod_string Try.underlying9 h0
    simp only [List.cons.injEq, and_true] at e0
    subst e0
    have hs' : s.size ≤ 140737488351232 := hw0 s.size (by simp [DataW.weights])
    obtain ⟨pa, pc, props, e1, hph, hp1, hp2, hp3, hpg, hprow⟩ := bulk_row (c := 2) (fun p : PV => [.string p.name, p.val]) (fun p => p.In w w.heap.size) heftP Try.underlying24 Try.cellsProp (by omega) (fun _ => rfl) (fun n cs y _ hy hwy => bulk_pv hy hwy) h1 hw1
    obtain ⟨ka, kc, kids, e2, hkh, hk1, hk2, hk3, hkg, hkrow⟩ := bulk_row (c := 3) (fun k : Nd => [.string k.name, k.pv, k.kv]) (fun k => k.In w w.heap.size) heftN Try.underlying25 Try.cellsNode (by omega) (fun _ => rfl)
      (fun n cs y hy hy' hwy => ih n cs y (by simp only [DataW.agg.sizeOf_spec, List.cons.sizeOf_spec] at hx; omega) hy' hwy) h2 hw2
    simp only [List.cons.injEq, and_true] at e1 e2
    subst e1 e2
    rw [Try.bytesProp] at hp3
    rw [Try.bytesNode] at hk3
    refine ⟨.mk s pa pc props ka kc kids, rfl, .mk _ ⟨hs', hp3, hk3⟩ hp1 hp2 hk1 hk2 (fun h0 => ?_) hpg (fun h0 => ?_) hkg, by have e : s.data.size = s.size := rfl; simp only [heftN, heftL_sum, Rows.uptoBulk, Rows.uptoBulkAll, Array.length_toList]; omega⟩
    · obtain ⟨b, o, e, hb, hc⟩ := hprow h0
      exact ⟨b, o, e, hb, fun i hi => ⟨hc i hi 0 (by omega), hc i hi 1 (by omega)⟩⟩
    · obtain ⟨b, o, e, hb, hc⟩ := hkrow h0
      exact ⟨b, o, e, hb, fun i hi => ⟨hc i hi 0 (by omega), hc i hi 1 (by omega), hc i hi 2 (by omega)⟩⟩
set_option maxRecDepth 100000 in
theorem bulk_tr {fuel : Nat} {cs : List Value} {x : DataW H × List MemPlace} (h : DataW.trod enc Try.prog w base spare held fuel 29 cs = some x) (hw : ∀ z ∈ DataW.weights Try.prog 29 x.1, z ≤ 140737488351232) :
    ∃ t : Tr, cs = [.int .u32 t.boot, t.rv, .string t.root.name, t.root.pv, t.root.kv] ∧ t.In w w.heap.size ∧ heftN t.root ≤ 16 * Rows.uptoBulk x.1 ∧ t.rs.length ≤ Rows.uptoBulk x.1 := by
  obtain ⟨y0, y1, y2, n, rfl, hl, h0, h1, h2⟩ := trod_struct3 Try.underlying29 h
  rw [Try.cellsTree] at hl
  obtain ⟨c0, c1, c2, c3, c4, rfl⟩ : ∃ c0 c1 c2 c3 c4, cs = [c0, c1, c2, c3, c4] := by
    exact five_of hl
  rw [Try.cellsU32] at h0
  rw [Try.cellsRess] at h1
  rw [Try.cellsNode] at h2
  simp only [List.drop_zero, List.drop_succ_cons, List.take_succ_cons, List.take_zero] at h0 h1 h2
  simp only [DataW.weights, DataW.weightsEach, Try.underlying29, List.map_cons, List.map_nil] at hw
  have hw1 := fun z hz => hw z (List.mem_append_right _ (List.mem_append_left _ hz))
  have hw2 := fun z hz => hw z (List.mem_append_right _ (List.mem_append_right _ (List.mem_append_left _ hz)))
  obtain ⟨boot, e0, _, wb⟩ := DataW.trod_int Try.underlying22 h0
  obtain ⟨ra, rc, rs, e1, hrh, hr1, hr2, hr3, hrg, hrow⟩ := bulk_row (c := 2) (fun r : Int × Int => [.int .u64 r.1, .int .u64 r.2]) (fun r => (0 ≤ r.1 ∧ r.1 ≤ 18446744073709551615) ∧ (0 ≤ r.2 ∧ r.2 ≤ 18446744073709551615)) (fun _ => 16) Try.underlying23 Try.cellsRes (by omega) (fun _ => rfl) (fun n cs y _ hy _ => by obtain ⟨r, h1, h2⟩ := open_res hy; exact ⟨r, h1, h2, by have := bulk_one y.1; omega⟩) h1 hw1
  obtain ⟨root, e2, hin, hroot⟩ := bulk_nd _ n _ _ (Nat.le_refl _) h2 hw2
  simp only [List.cons.injEq, and_true] at e0 e1 e2
  obtain ⟨rfl, rfl, rfl⟩ := e2
  subst e0 e1
  rw [Try.bytesRes] at hr3
  refine ⟨⟨boot, ra, rc, rs, root⟩, rfl, ⟨bounds_u32 wb, ⟨hr1, hr2, hr3⟩, fun h0 => by
    obtain ⟨b, o, e, hb, hc⟩ := hrow h0
    exact ⟨b, o, e, hb, fun i hi => ⟨hc i hi 0 (by omega), hc i hi 1 (by omega)⟩⟩, hrg, hin⟩, ?_, ?_⟩
  · simp only [Rows.uptoBulk, Rows.uptoBulkAll]; omega
  · have e : (rs.map (fun _ => 16)).sum = 16 * rs.length := sixteen rs
    simp only [Rows.uptoBulk, Rows.uptoBulkAll]; omega
end
end Go.Proofs.Ytapfcbcojnplaaa

/-! Arguments that came in: places, numbers of 32 bits, bytes, pairs of numbers of 64 bits. -/
namespace Go.Proofs.Ytapfcbcojnplaaa
open Go.RowKit Go.ChangeShapes Go.WideShapes Go.Deep
set_option linter.unusedVariables false
set_option linter.unusedSimpArgs false

theorem pair_of {α : Type} {l : List α} (h : l.length = 2) : ∃ a b, l = [a, b] := by
  match l, h with
  | [a, b], _ => exact ⟨a, b, rfl⟩
/-- A row of numbers of a kind, as the row's reading gives it. -/
theorem cel_of_nums {k : IntKind} {w : World} {a : Option Addr} {len cap : Nat} {l : List Int}
    (h : (a = none ∧ len = 0 ∧ cap = 0 ∧ l = []) ∨ ∃ x, a = some x ∧ len ≤ cap ∧ cap ≤ maxLen ∧ l.length = cap ∧ (∀ i, i < l.length → w.cell? (x.add i) = some (.int k (l.getD i 0))) ∧ ∀ n ∈ l, (Lit.int k n).wf = true) :
    Cel w w.heap.size a len ((l.take len).map (Value.int k)) ∧ (l.take len).length = len ∧ len ≤ cap ∧ cap ≤ 9223372036854775807 ∧ ∀ z ∈ l.take len, (Lit.int k z).wf = true := by
  rcases h with ⟨rfl, rfl, rfl, rfl⟩ | ⟨x, rfl, hl, hm, hz, hcell, hwz⟩
  · exact ⟨Cel.nil _ _ _, rfl, Nat.le_refl _, by omega, by simp⟩
  · have hlen : (l.take len).length = len := by rw [List.length_take]; omega
    refine ⟨⟨by rw [List.length_map, hlen], fun hn => ?_⟩, hlen, hl, by unfold maxLen at hm; exact hm, fun z hz' => hwz z (List.mem_of_mem_take hz')⟩
    obtain ⟨b, o, spot⟩ := x
    have hc := hcell 0 (by omega)
    have hspot : spot = none := by simpa [Addr.add] using World.cell?_spot hc
    subst hspot
    refine ⟨b, o, rfl, ?_, fun i hi => ?_⟩
    · rw [addr_add] at hc
      exact World.block_lt_of_cell? w _ hc
    · have hci := hcell i (by omega)
      rw [addr_add] at hci
      rw [hci, List.getElem?_map, List.getElem?_take_of_lt hi]
      simp [List.getD, List.getElem?_eq_getElem (show i < l.length by omega)]
section
variable {H : Type} {enc : TypeId × Value → H} {W : World} {base : Nat} {v : Value} {d : DataW H} {p : List MemPlace}
set_option maxRecDepth 100000 in
theorem open_nums {t e : TypeId} {k : IntKind} (ht : Try.prog.underlying t = some (.slice e)) (he : Try.prog.underlying e = some (.int k)) (hc : Try.prog.cellsOf e = 1) (hv : Value.okWide Try.prog W .any base t v) (h : DataW.Trod enc Try.prog W 0 (fun _ => true) true t v d p) :
    ∃ (a : Option Addr) (len cap : Nat) (vs : List Int), v = .slice a len cap ∧ Cel W W.heap.size a len (vs.map (Value.int k)) ∧ vs.length = len ∧ len ≤ cap ∧ cap ≤ 9223372036854775807 ∧ ∀ z ∈ vs, (Lit.int k z).wf = true := by
  obtain ⟨a0, len0, cap0, rfl⟩ := okWide_slice ht hv
  obtain ⟨fuel, hf⟩ := h
  rcases open_ints ht he hc hf with ⟨hcs, _⟩ | ⟨x, l, c, zs, hcs, _, hl, hm, hz, _, hcell, hwz⟩
  · simp [Value.cells] at hcs
    obtain ⟨rfl, rfl, rfl⟩ := hcs
    exact ⟨none, 0, 0, _, rfl, cel_of_nums (k := k) (l := []) (.inl ⟨rfl, rfl, rfl, rfl⟩)⟩
  · simp [Value.cells] at hcs
    obtain ⟨rfl, rfl, rfl⟩ := hcs
    exact ⟨some x, len0, cap0, _, rfl, cel_of_nums (k := k) (l := zs) (.inr ⟨_, rfl, hl, hm, by simpa using hz, hcell, hwz⟩)⟩
set_option maxRecDepth 100000 in
theorem open_places (hv : Value.okWide Try.prog W .any base 30 v) (h : DataW.Trod enc Try.prog W 0 (fun _ => true) true 30 v d p) :
    ∃ (a : Option Addr) (len cap : Nat) (vs : List Int), v = .slice a len cap ∧ Cel W W.heap.size a len (vs.map fun k => Value.int .i64 k) ∧ vs.length = len ∧ len ≤ cap ∧ cap ≤ 9223372036854775807 ∧ ∀ z ∈ vs, (Lit.int .i64 z).wf = true :=
  open_nums Try.underlying30 Try.underlying3 (by kernel_rfl) hv h
set_option maxRecDepth 100000 in
theorem open_u32s (hv : Value.okWide Try.prog W .any base 76 v) (h : DataW.Trod enc Try.prog W 0 (fun _ => true) true 76 v d p) :
    ∃ (a : Option Addr) (len cap : Nat) (vs : List Int), v = .slice a len cap ∧ Cel W W.heap.size a len (vs.map (Value.int .u32)) ∧ vs.length = len ∧ len ≤ cap ∧ cap ≤ 9223372036854775807 ∧ ∀ z ∈ vs, (Lit.int .u32 z).wf = true :=
  open_nums Try.underlying76 Try.underlying22 (by kernel_rfl) hv h
set_option maxRecDepth 100000 in
theorem open_u8s (hv : Value.okWide Try.prog W .any base 79 v) (h : DataW.Trod enc Try.prog W 0 (fun _ => true) true 79 v d p) :
    ∃ (a : Option Addr) (len cap : Nat) (zs : List Int), v = .slice a len cap ∧ Shows W W.heap.size a len zs ∧ len ≤ cap ∧ cap ≤ 9223372036854775807 := by
  obtain ⟨a0, len0, cap0, rfl⟩ := okWide_slice Try.underlying79 hv
  obtain ⟨fuel, hf⟩ := h
  rcases open_ints Try.underlying79 Try.underlying5 (by kernel_rfl) hf with ⟨hcs, _⟩ | ⟨x, l, c, zs, hcs, _, hl, hm, hz, _, hcell, hwz⟩
  · simp [Value.cells] at hcs
    obtain ⟨rfl, rfl, rfl⟩ := hcs
    exact ⟨none, 0, 0, [], rfl, Shows.nil _ _, Nat.le_refl _, by omega⟩
  · simp [Value.cells] at hcs
    obtain ⟨rfl, rfl, rfl⟩ := hcs
    have h1 := Shows.of_row (w := W) (a := some x) (len := len0) (cap := cap0) (l := zs) (.inr ⟨_, rfl, hl, hm, by simpa using hz, hcell, hwz⟩)
    exact ⟨some x, len0, cap0, _, rfl, h1.1, h1.2.1, by have := h1.2.2; unfold maxLen at this; exact this⟩
set_option maxRecDepth 100000 in
/-- A struct of two numbers of 64 bits. -/
theorem open_pair64 {t u : TypeId} {f0 f1 : Field} (ht : Try.prog.underlying t = some (.struct #[f0, f1])) (hu : Try.prog.underlying u = some (.int .u64)) (hv : Value.okWide Try.prog W .any base t v) (h : DataW.Trod enc Try.prog W 0 (fun _ => true) true t v d p)
    (h0 : f0.type = u := by rfl) (h1 : f1.type = u := by rfl) (o0 : f0.offset = 0 := by rfl) (o1 : f1.offset = 1 := by rfl) (hcu : Try.prog.cellsOf u = 1 := by kernel_rfl) (hct : Try.prog.cellsOf t = 2 := by kernel_rfl) :
    ∃ x y : Int, v = .agg #[.int .u64 x, .int .u64 y] ∧ 0 ≤ x ∧ x ≤ 18446744073709551615 ∧ 0 ≤ y ∧ y ≤ 18446744073709551615 := by
  obtain ⟨cs, rfl, hsz⟩ := okWide_struct ht hv
  obtain ⟨fuel, hf⟩ := h
  obtain ⟨y0, y1, n, _, hl, g0, g1⟩ := trod_struct2 ht hf
  rw [hct] at hl
  obtain ⟨c0, c1, hcs⟩ := pair_of hl
  rw [hcs, h0, o0, hcu] at g0
  rw [hcs, h1, o1, hcu] at g1
  obtain ⟨a, e0, _, w0⟩ := DataW.trod_int hu g0
  obtain ⟨c, e1, _, w1⟩ := DataW.trod_int hu g1
  simp only [List.drop_succ_cons, List.drop_zero, List.take_succ_cons, List.take_zero, List.cons.injEq, and_true] at e0 e1
  subst e0 e1
  refine ⟨a, c, ?_, (bounds_u64 w0).1, (bounds_u64 w0).2, (bounds_u64 w1).1, (bounds_u64 w1).2⟩
  have e : cs = #[.int .u64 a, .int .u64 c] := Array.toList_inj.1 (by simpa [Value.cells] using hcs)
  rw [e]
end
end Go.Proofs.Ytapfcbcojnplaaa

/-! A line that came in: a place, and a number of 32 bits. -/
namespace Go.Proofs.Ytapfcbcojnplaaa
open Go.RowKit Go.ChangeShapes Go.WideShapes Go.Deep
set_option linter.unusedVariables false
set_option linter.unusedSimpArgs false
section
variable {H : Type} {enc : TypeId × Value → H} {W : World} {base : Nat} {v : Value} {d : DataW H} {p : List MemPlace}
set_option maxRecDepth 100000 in
theorem open_line {t : TypeId} {f0 f1 : Field} (ht : Try.prog.underlying t = some (.struct #[f0, f1])) (hv : Value.okWide Try.prog W .any base t v) (h : DataW.Trod enc Try.prog W 0 (fun _ => true) true t v d p)
    (h0 : f0.type = 30 := by rfl) (h1 : f1.type = 22 := by rfl) (o0 : f0.offset = 0 := by rfl) (o1 : f1.offset = 1 := by rfl) (hct : Try.prog.cellsOf t = 2 := by kernel_rfl) :
    ∃ (a : Option Addr) (len cap : Nat) (vs : List Int) (ln : Int), v = .agg #[.slice a len cap, .int .u32 ln] ∧ Cel W W.heap.size a len (vs.map fun k => Value.int .i64 k) ∧ vs.length = len ∧ len ≤ cap ∧ cap ≤ 9223372036854775807 ∧ 0 ≤ ln ∧ ln ≤ 4294967295 := by
  obtain ⟨cs, rfl, hsz⟩ := okWide_struct ht hv
  obtain ⟨fuel, hf⟩ := h
  obtain ⟨y0, y1, n, _, hl, g0, g1⟩ := trod_struct2 ht hf
  rw [hct] at hl
  obtain ⟨c0, c1, hcs⟩ := pair_of hl
  have ks : Try.prog.cellsOf 30 = 1 := by kernel_rfl
  have ku : Try.prog.cellsOf 22 = 1 := by kernel_rfl
  rw [hcs, h0, o0, ks] at g0
  rw [hcs, h1, o1, ku] at g1
  obtain ⟨ln, e1, _, w1⟩ := DataW.trod_int Try.underlying22 g1
  simp only [List.drop_succ_cons, List.drop_zero, List.take_succ_cons, List.take_zero, List.cons.injEq, and_true] at e1 g0
  subst e1
  have hb := bounds_u32 w1
  rcases open_ints Try.underlying30 Try.underlying3 (by kernel_rfl) g0 with ⟨e0, _⟩ | ⟨x, l, c, zs, e0, _, hl, hm, hz, _, hcell, hwz⟩
  · simp only [List.cons.injEq, and_true] at e0
    subst e0
    have hc := cel_of_nums (k := .i64) (w := W) (l := []) (.inl ⟨rfl, rfl, rfl, rfl⟩)
    refine ⟨none, 0, 0, _, ln, ?_, hc.1, hc.2.1, hc.2.2.1, hc.2.2.2.1, hb.1, hb.2⟩
    have e : cs = #[.slice none 0 0, .int .u32 ln] := Array.toList_inj.1 (by simpa [Value.cells] using hcs)
    rw [e]
  · simp only [List.cons.injEq, and_true] at e0
    subst e0
    have hc := cel_of_nums (k := .i64) (w := W) (l := zs) (.inr ⟨x, rfl, hl, hm, by simpa using hz, hcell, hwz⟩)
    refine ⟨some x, l, c, _, ln, ?_, hc.1, hc.2.1, hc.2.2.1, hc.2.2.2.1, hb.1, hb.2⟩
    have e : cs = #[.slice (some x) l c, .int .u32 ln] := Array.toList_inj.1 (by simpa [Value.cells] using hcs)
    rw [e]
end
end Go.Proofs.Ytapfcbcojnplaaa
