/-
  Layer 7: the program's Text and Texts; bytes.HasSuffix and bytes.Count at a nought.
-/
import Derived.Test.YthlaoidlhbjaiaaPCells
import Derived.Test.YthlaoidlhbjaiaaEText
import Derived.Lib.SlBytesConst
import Derived.Lib.SmallJoins
namespace Go.Proofs.Ythlaoidlhbjaiaa
open Go.RowKit
set_option linter.unusedVariables false
set_option linter.unusedSimpArgs false

theorem textOK : TextOK := by
  intro A n c zs w hs hn hnc hc
  have hl := hs.1
  have HV : Hid (textV zs = match textFrom zs 0 with | none => none | some s => if s.length + 1 = zs.length then some s else none) := Lib.hid rfl
  obtain ⟨o, ho⟩ : ∃ o, textFrom zs 0 = o := ⟨_, rfl⟩
  have C := text_any A n c 0 0 rfl zs w _ hs (by omega) hnc o ho
  rw [ho] at HV
  have HO := Lib.hid ho
  have HL := Lib.hid hl
  have HB := Lib.hid (Below.refl w.heap.size w)
  clear hs hl ho
  rcases o with _ | s
  · have HC := Lib.hid (show Calls _ _ _ w fun e w' => e = .returned (.tuple #[.string ByteArray.empty, .bool false]) ∧ w = w' from C)
    clear C
    go_enter Try.func10, Try.ntmps10
    go_wp2_with fail
    refine HC.out.mono ?_
    rintro e w2 ⟨rfl, rfl⟩
    go_wp2
    go_ret2
    exact ⟨by rw [textS, textE, HV.out]; rfl, HB.out⟩
  · have HC := Lib.hid (show Calls _ _ _ w fun e w' => e = .returned (.tuple #[.string (strOfNums s), .bool true]) ∧ w = w' from C)
    obtain ⟨x, hx⟩ : ∃ x, strOfNums s = x := ⟨_, rfl⟩
    have hsz : x.size = s.length := by rw [← hx]; exact strOf_size6 s
    have HX := Lib.hid hx
    have hb := textFrom_len HO.out
    rw [hx] at HC
    obtain ⟨m, hm⟩ : ∃ m, x.size = m := ⟨_, rfl⟩
    have HM := Lib.hid (hm.symm.trans hsz)
    have hm5 : m ≤ 5000 := by have := HM.out; have := HL.out; omega
    clear C hx hsz hb
    by_cases he : m + 1 = n
    · have k1 : ((m : Int) + 1 != (n : Int)) = false := by rw [bne_eq_false_iff_eq]; omega
      have HE : Hid (textV zs = some s) := Lib.hid (by rw [HV.out]; exact if_pos (by rw [HL.out, ← HM.out]; exact he))
      clear he
      go_enter Try.func10, Try.ntmps10
      go_wp2_with fail
      refine HC.out.mono ?_
      rintro e w2 ⟨rfl, rfl⟩
      go_wp2
      go_ret2
      exact ⟨by rw [textS, textE, HE.out, ← HX.out]; rfl, HB.out⟩
    · have k1 : ((m : Int) + 1 != (n : Int)) = true := by rw [bne_iff_ne]; omega
      have HE : Hid (textV zs = none) := Lib.hid (by rw [HV.out]; exact if_neg (by rw [HL.out, ← HM.out]; exact he))
      clear he
      go_enter Try.func10, Try.ntmps10
      go_wp2_with fail
      refine HC.out.mono ?_
      rintro e w2 ⟨rfl, rfl⟩
      go_wp2
      go_ret2
      exact ⟨by rw [textS, textE, HE.out]; rfl, HB.out⟩

/-! ### How many texts there are: how many noughts -/
def noughts (zs : List Int) : Nat := zs.countP fun z => decide (z = 0)
/-- As many texts are read from a place on as there are noughts behind it, if the last byte is one. -/
theorem texts_count {zs : List Int} (h0 : zs.getD (zs.length - 1) 0 = 0) : ∀ (f a : Nat), zs.length - a ≤ f → (textsGo zs f a).length = noughts (zs.drop a)
  | 0, a, h => by rw [List.drop_of_length_le (by omega)]; rfl
  | f + 1, a, h => by
    rw [textsGo]
    by_cases ha : a < zs.length
    · obtain ⟨s, hs⟩ := text_there h0 ha
      rw [if_pos ha, hs]
      have hl := textFrom_len hs
      show (textsGo zs f (a + s.length + 1)).length + 1 = _
      rw [texts_count h0 f (a + s.length + 1) (by omega)]
      unfold textFrom at hs
      split at hs
      · rename_i hm
        simp only [Option.some.injEq] at hs
        have e : zs.drop a = s ++ zs.drop (a + s.length) := by
          have hp : s <+: zs.drop a := by rw [← hs]; exact List.takeWhile_prefix _
          obtain ⟨t, ht⟩ := hp
          rw [← List.drop_drop, ← ht, List.drop_left]
        have hat : zs.getD (a + s.length) 0 = 0 := by
          have h1 : (zs.drop a).dropWhile (fun z => decide (z ≠ 0)) = zs.drop (a + s.length) := by
            have := List.takeWhile_append_dropWhile (p := fun z : Int => decide (z ≠ 0)) (l := zs.drop a)
            rw [hs] at this
            exact List.append_cancel_left (this.trans e)
          have h2 := List.head?_dropWhile_not (fun z : Int => decide (z ≠ 0)) (zs.drop a)
          rw [h1] at h2
          rw [List.head?_drop] at h2
          rcases hg : zs[a + s.length]? with _ | z
          · simp [List.getD, hg]
          · rw [hg] at h2
            simp [List.getD, hg]
            simpa using h2
        have hn0 : noughts s = 0 := by
          unfold noughts
          rw [List.countP_eq_zero]
          intro z hz
          rw [← hs] at hz
          have := List.all_takeWhile (p := fun z : Int => decide (z ≠ 0)) (l := zs.drop a)
          rw [List.all_eq_true] at this
          simpa using this z hz
        rw [e]
        have e2 : zs.drop (a + s.length) = 0 :: zs.drop (a + s.length + 1) := by
          rw [List.drop_eq_getElem_cons (by omega)]
          congr 1
          simpa [List.getD, List.getElem?_eq_getElem (show a + s.length < zs.length by omega)] using hat
        rw [e2]
        unfold noughts at hn0 ⊢
        rw [List.countP_append, hn0, List.countP_cons]
        simp
      · cases hs
    · rw [if_neg ha, List.drop_of_length_le (by omega)]; rfl
theorem texts_all {zs : List Int} (h0 : zs.getD (zs.length - 1) 0 = 0) : (textsGo zs zs.length 0).length = noughts zs := by
  have := texts_count h0 zs.length 0 (by omega)
  simpa using this
theorem countByte_noughts (zs : List Int) (hz : ∀ z ∈ zs, 0 ≤ z ∧ z < 256) : Lib.countByte (Lib.bytesOf zs) (0 : Int).toNat.toUInt8 = noughts zs := by
  unfold Lib.countByte Lib.bytesOf noughts
  rw [List.count, List.countP_map]
  refine List.countP_congr fun z hm => ?_
  have := byte_eq_zero z (hz z hm)
  simp only [Function.comp, beq_iff_eq, decide_eq_true_eq]
  exact this

/-- bytes.Count of a nought. -/
theorem bcount_any (A : Option Addr) (n c g d : Nat) (zs : List Int) (w : World) (B : Nat) (hs : Shows w B A n zs) (hc : n ≤ c) (hn : n ≤ 140737488351232) (h2 : w.cell? ⟨g, 0, none⟩ = some (.int .u8 0)) (k : Nat) (hk : noughts zs = k) :
    Calls Try.prog 25 #[.slice A n c, .slice (some ⟨g, 0, none⟩) 1 d] w fun e w' => e = .returned (.int .i64 (k : Int)) ∧ w' = w := by
  rcases Nat.eq_zero_or_pos n with h0 | h0
  · subst h0
    obtain rfl : zs = [] := List.eq_nil_of_length_eq_zero hs.1
    obtain rfl : k = 0 := hk.symm
    rcases A with _ | ⟨b, o, s⟩
    · go_enter Try.func25, Try.ntmps25
      go_wp2
      rw [run_callFunc_extern Try.func35 (by kernel_rfl) (by kernel_rfl) (by kernel_rfl) (e := Extern.BytealgCount.count) (by kernel_rfl), Lib.run_countNil w 0 c 0]
      simp only [Result.andThen]
      rw [Oper.upon_value]
      go_wp2
      go_ret
      exact ⟨rfl, rfl⟩
    · exact Go.Proofs.Try.bytes_Count_one_at ⟨b, o, s⟩ 0 c g 0 d [] 0 w rfl (fun i hi => absurd hi (Nat.not_lt_zero _)) h2
  · obtain ⟨b, o, rfl, _, hcell⟩ := hs.at_ h0
    have := Go.Proofs.Try.bytes_Count_one b o n c g 0 d zs 0 w hs.1 hcell h2
    rw [countByte_noughts zs hs.2.1, hk] at this
    exact this

theorem suffix_nought (zs : List Int) (n : Nat) (hl : zs.length = n) (h0 : 0 < n) (hz : ∀ z ∈ zs, 0 ≤ z ∧ z < 256) : Lib.hasSuffix (Lib.bytesOf zs) (Lib.bytesOf [0]) = decide (zs.getD (n - 1) 0 = 0) := by
  subst hl
  obtain ⟨l, z, rfl⟩ : ∃ l z, zs = l ++ [z] := ⟨zs.dropLast, zs.getLast (List.ne_nil_of_length_pos h0), (List.dropLast_concat_getLast _).symm⟩
  have h := byte_eq_zero z (hz z (by simp))
  have e : (l ++ [z]).getD ((l ++ [z]).length - 1) 0 = z := by simp [List.getD]
  rw [e, Bool.eq_iff_iff, decide_eq_true_iff, ← h]
  unfold Lib.hasSuffix Lib.bytesOf
  rw [List.isSuffixOf_iff_suffix, List.map_append]
  simp only [List.map_cons, List.map_nil]
  constructor
  · rintro ⟨t, ht⟩
    have := List.append_inj_right' ht rfl
    simpa using this.symm
  · intro e
    exact ⟨_, by rw [e]⟩

/-- bytes.HasSuffix of a nought. -/
theorem hassuf_any (A : Option Addr) (n c g d : Nat) (zs : List Int) (w : World) (B : Nat) (hs : Shows w B A n zs) (h0 : 0 < n) (hnc : n ≤ c) (hn : n ≤ 9223372036854775807) (h2 : w.cell? ⟨g, 0, none⟩ = some (.int .u8 0)) (r : Bool) (hr : decide (zs.getD (n - 1) 0 = 0) = r) :
    Calls Try.prog 24 #[.slice A n c, .slice (some ⟨g, 0, none⟩) 1 d] w fun e w' => e = .returned (.bool r) ∧ w' = w := by
  obtain ⟨b, o, rfl, _, hcell⟩ := hs.at_ h0
  have := Go.Proofs.Try.bytes_HasSuffix_all (some ⟨b, o, none⟩) (some ⟨g, 0, none⟩) n c 1 d zs [0] w hs.1 rfl hnc hn (Lib.BytesIn.of_cells fun i hi => by
    rw [addr_add]; exact hcell i hi) (Lib.BytesIn.of_cells fun i hi => by
    obtain rfl : i = 0 := by omega
    rw [addr_add]; exact h2)
  rw [suffix_nought zs n hs.1 h0 hs.2.1, hr] at this
  exact this

theorem make_strs (k : Nat) (hk : k ≤ 1099511627776) (w : World) :
    (Instr.makeSlice 30 (.int .i64 (k : Int)) (.int .i64 (k : Int))).run Try.prog w = .ok (.slice (some ⟨w.heap.size, 0, none⟩) k k) (w.alloc (.cells (madeCells #[.string ⟨#[]⟩] k) 9)) :=
  run_make_row' (P := Try.prog) 30 9 (.string ⟨#[]⟩) 16 Try.underlying30 info_str rfl .i64 .i64 k (by omega) (by omega) w

/-- How the texts go on: the k-th one begins at a, and is this. -/
theorem texts_next {zs : List Int} (h0 : zs.getD (zs.length - 1) 0 = 0) {m f a k : Nat} {xs : List (List Int)} (hx : xs ++ textsGo zs f a = textsGo zs zs.length 0) (hk : xs.length = k) (hf : zs.length - a ≤ f) (hm : (textsGo zs zs.length 0).length = m) (hlt : k < m) :
    ∃ s f', textFrom zs a = some s ∧ a + s.length + 1 ≤ zs.length ∧ f = f' + 1 ∧ (xs ++ [s]) ++ textsGo zs f' (a + s.length + 1) = textsGo zs zs.length 0 ∧ (textsGo zs zs.length 0)[k]? = some s := by
  have hl : (textsGo zs f a).length = m - k := by
    have := congrArg List.length hx
    rw [List.length_append, hm, hk] at this
    omega
  obtain ⟨f', rfl⟩ : ∃ f', f = f' + 1 := by
    rcases f with _ | f'
    · rw [textsGo] at hl; simp at hl; omega
    · exact ⟨f', rfl⟩
  by_cases ha : a < zs.length
  · obtain ⟨s, hs⟩ := text_there h0 ha
    have hlen := textFrom_len hs
    have e : textsGo zs (f' + 1) a = s :: textsGo zs f' (a + s.length + 1) := by rw [textsGo, if_pos ha, hs]
    refine ⟨s, f', hs, by omega, rfl, ?_, ?_⟩
    · rw [← hx, e, List.append_assoc]; rfl
    · rw [← hx, e, List.getElem?_append_right (by omega), hk, Nat.sub_self]; rfl
  · rw [textsGo, if_neg ha] at hl; simp at hl; omega

set_option maxRecDepth 20000 in
set_option maxHeartbeats 4000000 in
theorem proptexts_any (A : Option Addr) (n c : Nat) (zs : List Int) (w : World) (hs : Shows w w.heap.size A n zs) (hn : n ≤ 1048576) (hnc : n ≤ c) (hc : c ≤ 9223372036854775807) :
    Calls Try.prog 12 #[.slice A n c] w fun e w' => RowOut w' (strs6 (txtsL zs)) (txtsE zs) e ∧ Below w.heap.size w w' := by
  have HS := Lib.hid hs
  have HC := Lib.hid (And.intro hnc hc)
  have HL := Lib.hid hs.1
  have HB0 := Lib.hid ((Below.refl w.heap.size w).alloc (Nat.le_refl _) (.cells #[.int .u8 0] 5 (1, 2)))
  have HC0 : Hid ((w.alloc (.cells #[.int .u8 0] 5 (1, 2))).cell? ⟨w.heap.size, 0, none⟩ = some (.int .u8 0)) := Lib.hid (World.cell?_alloc_mark _ _ _ _ _)
  have kc := fun (w : World) (C : Array Value) (n c : Nat) => Lib.run_convert_bytes_const (P := Try.prog) w 22 5 C n c Try.underlying22 Try.underlying5
  by_cases hbad : 0 < n ∧ zs.getD (n - 1) 0 ≠ 0
  · obtain ⟨h0, hlast⟩ := hbad
    have HE : Hid (textsV zs = none) := Lib.hid (by rw [textsV, HL.out]; exact if_pos ⟨h0, hlast⟩)
    have C := Lib.hid (hassuf_any A n c w.heap.size 1 zs _ _ (HS.out.below HB0.out) h0 hnc (by omega) HC0.out false (decide_eq_false hlast))
    have k0 : decide ((0 : Int) < (n : Int)) = true := decide_eq_true (by omega)
    have k1 : (0 : Int) < (n : Int) := by omega
    clear hs hlast h0
    go_enter Try.func12, Try.ntmps12
    go_wp2_with fail
    refine C.out.mono ?_
    rintro e w2 ⟨rfl, rfl⟩
    go_wp2
    go_ret2
    exact ⟨by rw [txtsL, txtsE, HE.out]; exact rowOut_nil rfl, HB0.out⟩
  · have HT : Hid (textsV zs = some (textsGo zs n 0)) := Lib.hid (by rw [textsV, HL.out]; exact if_neg hbad)
    have hz0 : zs.getD (n - 1) 0 = 0 := by
      rcases Nat.eq_zero_or_pos n with h | h
      · subst h
        rw [List.eq_nil_of_length_eq_zero HL.out]; rfl
      · exact Classical.byContradiction fun h' => hbad ⟨h, h'⟩
    obtain ⟨m, hm⟩ : ∃ m, (textsGo zs n 0).length = m := ⟨_, rfl⟩
    have hcnt : noughts zs = m := by
      have := texts_all (zs := zs) (by rw [HL.out]; exact hz0)
      rw [HL.out] at this
      omega
    have hmn : m ≤ n := by
      have := List.countP_le_length (p := fun z : Int => decide (z = 0)) (l := zs)
      unfold noughts at hcnt
      have := HL.out
      omega
    have HE : Hid (txtsE zs = 0) := Lib.hid (by rw [txtsE, HT.out])
    have HU : Hid (txtsL zs = (textsGo zs n 0).map strOfNums) := Lib.hid (by rw [txtsL, HT.out])
    have HUL : Hid ((strs6 (txtsL zs)).length = m) := Lib.hid (by rw [List.length_map, HU.out, List.length_map, hm])
    have HM := make_strs m (by omega)
    have HZ := Lib.hid hz0
    have HMM := Lib.hid hm
    have hm9 : m ≤ 1048576 := by omega
    generalize hUU : strs6 (txtsL zs) = U at HUL
    have HUU := Lib.hid hUU
    rcases Nat.eq_zero_or_pos n with h0 | h0
    · subst h0
      obtain rfl : m = 0 := by omega
      have C := Lib.hid (bcount_any A 0 c w.heap.size 1 zs _ _ (HS.out.below HB0.out) (Nat.zero_le _) (by omega) HC0.out 0 hcnt)
      obtain rfl : U = [] := List.eq_nil_of_length_eq_zero HUL.out
      have HB1 := Lib.hid (HB0.out.alloc HB0.out.size (.cells (madeCells #[.string ⟨#[]⟩] 0) 9))
      replace HM : ∀ w, (Instr.makeSlice 30 (.int .i64 0) (.int .i64 0)).run Try.prog w = .ok (.slice (some ⟨w.heap.size, 0, none⟩) 0 0) (w.alloc (.cells (madeCells #[.string ⟨#[]⟩] 0) 9)) := HM
      clear hs hbad hz0 hm hcnt hmn hUU hnc hn
      go_enter Try.func12, Try.ntmps12
      go_wp2_with fail
      refine C.out.mono ?_
      rintro e w2 ⟨rfl, rfl⟩
      go_wp2_with fail
      go_loopw [24] (fun i wr => i = .int .i64 0 ∧ Below w.heap.size w wr) (fun _ _ => 0)
      case atStart => exact ⟨rfl, HB1.out⟩
      case round =>
        obtain ⟨rfl, hb⟩ := hrel
        have HB := Lib.hid hb
        clear hb
        go_wp2
        go_ret2
        refine ⟨?_, HB.out⟩
        rw [HE.out]
        exact ⟨_, 0, rfl, Cel.nil _ _ _, Nat.le_refl _, by omega⟩
    · have C := Lib.hid (hassuf_any A n c w.heap.size 1 zs _ _ (HS.out.below HB0.out) h0 hnc (by omega) HC0.out true (decide_eq_true hz0))
      have k0 : decide ((0 : Int) < (n : Int)) = true := decide_eq_true (by omega)
      have k1 : (0 : Int) < (n : Int) := by omega
      have HB1 := Lib.hid (HB0.out.alloc HB0.out.size (.cells #[.int .u8 0] 5 (1, 2)))
      have HC1 : Hid (((w.alloc (.cells #[.int .u8 0] 5 (1, 2))).alloc (.cells #[.int .u8 0] 5 (1, 2))).cell? ⟨w.heap.size + 1, 0, none⟩ = some (.int .u8 0)) := Lib.hid (Joins.cell_alloc_mark_at _ _ _ _ _ _ (by simp))
      have C1 := Lib.hid (bcount_any A n c (w.heap.size + 1) 1 zs _ _ (HS.out.below HB1.out) hnc (by omega) HC1.out m hcnt)
      have kc2 := fun n c => Joins.run_convert_bytes_const_at (P := Try.prog) (w.alloc (.cells #[.int .u8 0] 5 (1, 2))) 22 5 #[.int .u8 0] n c (w.heap.size + 1) (by simp) Try.underlying22 Try.underlying5
      obtain ⟨g, hg⟩ : ∃ g, g = w.heap.size + 1 + 1 := ⟨_, rfl⟩
      have HB2 := Lib.hid (HB1.out.alloc HB1.out.size (.cells (madeCells #[.string ⟨#[]⟩] m) 9))
      have HVR : Hid (VRow (((w.alloc (.cells #[.int .u8 0] 5 (1, 2))).alloc (.cells #[.int .u8 0] 5 (1, 2))).alloc (.cells (madeCells #[.string ⟨#[]⟩] m) 9)) g 9 (partV U (.string ⟨#[]⟩) m 0)) := Lib.hid (by
        rw [partV_none, hg]
        have := made_vrow ((w.alloc (.cells #[.int .u8 0] 5 (1, 2))).alloc (.cells #[.int .u8 0] 5 (1, 2))) (.string ⟨#[]⟩) m 9
        simpa using this)
      have HUAT : Hid (∀ k s, (textsGo zs n 0)[k]? = some s → U[k]? = some (Value.string (strOfNums s))) := Lib.hid (fun k s h => by
        rw [← hUU, strs6, HU.out, List.map_map, List.getElem?_map, h]; rfl)
      have HN := Lib.hid (And.intro h0 hn)
      have hgw : w.heap.size ≤ g := by omega
      clear hs hbad hz0 hm hcnt hnc hn h0 hUU
      go_enter Try.func12, Try.ntmps12
      go_wp2_with fail
      refine C.out.mono ?_
      rintro e w2 ⟨rfl, rfl⟩
      go_wp2_with fail
      refine C1.out.mono ?_
      rintro e w2 ⟨rfl, rfl⟩
      go_wp2_with fail
      rw [← hg]
      clear hg
      go_loopw [5, 24] (fun at_ i wr => ∃ (k a f : Nat) (xs : List (List Int)), k ≤ m ∧ a ≤ n ∧ i = .int .i64 k ∧ at_ = .int .i64 a ∧ Hid (xs ++ textsGo zs f a = textsGo zs n 0 ∧ xs.length = k ∧ n - a ≤ f) ∧ VRow wr g 9 (partV U (.string ⟨#[]⟩) m k) ∧ Below w.heap.size w wr) (fun _ i _ => m - (intOf i).toNat)
      case atStart => exact ⟨0, 0, n, [], Nat.zero_le _, Nat.zero_le _, rfl, rfl, Lib.hid ⟨rfl, rfl, by omega⟩, HVR.out, HB2.out⟩
      case round =>
        obtain ⟨k, a, f, xs, hk, ha, rfl, rfl, HX, hrow, hb⟩ := hrel
        have HB := Lib.hid hb
        have HR := Lib.hid hrow
        by_cases hlt : k < m
        · have hnext := texts_next (zs := zs) (f := f) (a := a) (k := k) (xs := xs) (m := m) (by rw [HL.out]; exact HZ.out) (by rw [HL.out]; exact HX.out.1) HX.out.2.1 (by rw [HL.out]; exact HX.out.2.2) (by rw [HL.out]; exact HMM.out) hlt
          obtain ⟨s, f', hs, hle, rfl, hxs, hat⟩ := hnext
          rw [HL.out] at hle hxs hat
          have CT := fun q hq => text_any A n c a q hq zs wr w.heap.size (HS.out.below hb) HN.out.2 HC.out.1 (some s) hs
          obtain ⟨x, hx⟩ : ∃ x, strOfNums s = x := ⟨_, rfl⟩
          obtain ⟨l, hl⟩ : ∃ l, x.size = l := ⟨_, rfl⟩
          have hsl : s.length = l := by rw [← hl, ← hx]; exact (strOf_size6 s).symm
          have HCT : Hid (∀ q : Int, q = (a : Int) → Calls Try.prog 22 #[.slice A n c, .int .i64 q] wr fun e w' => e = .returned (.tuple #[.string x, .bool true]) ∧ wr = w') := Lib.hid (fun q hq => by rw [← hx]; exact CT q hq)
          rw [hsl] at hle hxs
          have huat := HUAT.out k s hat
          rw [hx] at huat
          have HSET : Hid ((partV U (.string ⟨#[]⟩) m k).set k (.string x) = partV U (.string ⟨#[]⟩) m (k + 1)) := Lib.hid (partV_set U _ m k hlt HUL.out _ huat)
          have hcell := hrow.at_ (partV_at U (.string ⟨#[]⟩) m k hlt HUL.out)
          have hfree := hrow.free k
          have HR2 := Lib.hid (hrow.set k (.string x))
          have hcell2 : (wr.setCell ⟨g, k, none⟩ (.string x)).cell? ⟨g, k, none⟩ = some (.string x) := by
            refine HR2.out.at_ ?_
            rw [HSET.out, partV]
            have : (U.take (k + 1)).length = k + 1 := by rw [List.length_take, HUL.out]; omega
            rw [List.getElem?_append_left (by omega), List.getElem?_take_of_lt (by omega)]
            exact huat
          have HB2 := Lib.hid (hb.setCell (p := ⟨g, k, none⟩) hgw (.string x))
          have HNX := Lib.hid (show (xs ++ [s]) ++ textsGo zs f' (a + l + 1) = textsGo zs n 0 ∧ (xs ++ [s]).length = k + 1 ∧ n - (a + l + 1) ≤ f' from ⟨hxs, by rw [List.length_append, HX.out.2.1]; rfl, by have := HX.out.2.2; omega⟩)
          have hle2 : a + l + 1 ≤ 1048576 := by have := HN.out.2; omega
          clear hx hsl hxs hat huat CT hs hrow hb
          go_wp2_with fail
          refine (HCT.out _ rfl).mono ?_
          rintro e w1 ⟨rfl, rfl⟩
          go_wp2
          go_roundw
          case rel => exact ⟨k + 1, a + l + 1, f', xs ++ [s], by omega, by omega, by go_num, by go_num, HNX, by rw [← HSET.out]; exact HR2.out, HB2.out⟩
          case measure => simp [intOf]; omega
        · obtain rfl : k = m := by omega
          have HV : Hid (VRow wr g 9 U) := Lib.hid (by have := HR.out; rw [partV_all _ _ _ HUL.out] at this; exact this)
          clear hrow hb
          go_wp2
          go_ret2
          refine ⟨?_, HB.out⟩
          rw [HE.out]
          exact rowOut_vrow HV.out HUL.out (Nat.le_refl _) (by omega) rfl
theorem textsOK : TextsOK := fun A n c zs w hs hn hnc hc => proptexts_any A n c zs w hs (by omega) hnc hc
end Go.Proofs.Ythlaoidlhbjaiaa
