/-
  Base, part 9.
-/
import Derived.Test.YtcfinbapfhhpgaaGreatDoorBase8
import Derived.Lib.SlBytesConst
import Derived.Lib.SmallJoins
import Derived.Test.YtcfinbapfhhpgaaGreatDoorBase5
import Derived.Test.YtcfinbapfhhpgaaGreatDoorBase2
import Derived.Test.YtcfinbapfhhpgaaGreatDoorBase1
import Derived.Test.YtcfinbapfhhpgaaGreatDoorBase6
import Derived.Test.YtcfinbapfhhpgaaGreatDoorBase7
import Derived.Test.YtcfinbapfhhpgaaGreatDoorBase4
import Derived.Laws.Bits64
import Derived.Laws.BitsAllLaws
namespace Go.Proofs.YtcfinbapfhhpgaaGreatDoor
open Go.RowKit
set_option linter.unusedVariables false
set_option linter.unusedSimpArgs false
set_option maxRecDepth 20000
set_option maxHeartbeats 16000000
set_option maxRecDepth 20000
theorem qku_ (A : Option Addr) (n c : Nat) (zs : List Int) (w : World) (hs : Shows w w.heap.size A n zs) (hn : n <= 134217728) (hnc : n <= c) (hc : c <= 9223372036854775807) :
  Calls Tryz.prog 68 #[.slice A n c] w fun e w' => e = .returned (.tuple #[.string (textS zs), .int .i64 (textE zs)]) /\ Below w.heap.size w w' := by
 have hl := hs.1
 have HV : Hid (textV zs = match qbm_ zs 0 with | none => none | some s => if s.length + 1 = zs.length then some s else none) := Lib.hid rfl
 obtain ⟨o, ho⟩ : ∃ o, qbm_ zs 0 = o := ⟨_, rfl⟩
 have C := qm8_ A n c 0 0 rfl zs w _ hs (by omega) hnc o ho
 rw [ho] at HV
 have HO := Lib.hid ho
 have HL := Lib.hid hl
 have HB := Lib.hid (Below.refl w.heap.size w)
 clear hs hl ho
 rcases o with _ | s
 ·have HC := Lib.hid (show Calls _ _ _ w fun e w' => e = .returned (.tuple #[.string ByteArray.empty, .bool false]) /\ w = w' from C)
  clear C
  go_enter Tryz.func68, Tryz.ntmps68
  go_wp2_with fail
  refine HC.out.mono ?_
  rintro e w2 ⟨rfl, rfl⟩
  go_wp2
  go_ret2
  exact ⟨by rw [textS, textE, HV.out]; rfl, HB.out⟩
 ·have HC := Lib.hid (show Calls _ _ _ w fun e w' => e = .returned (.tuple #[.string (strOfNums s), .bool true]) /\ w = w' from C)
  obtain ⟨x, hx⟩ : ∃ x, strOfNums s = x := ⟨_, rfl⟩
  have hsz : x.size = s.length := by rw [<- hx]; exact qgq_ s
  have HX := Lib.hid hx
  have hb := qd4_ HO.out
  rw [hx] at HC
  obtain ⟨m, hm⟩ : ∃ m, x.size = m := ⟨_, rfl⟩
  have HM := Lib.hid (hm.symm.trans hsz)
  have hm5 : m <= 134217728 := by have := HM.out; have := HL.out; omega
  clear C hx hsz hb
  by_cases he : m + 1 = n
  ·have k1 : ((m : Int) + 1 != (n : Int)) = false := by rw [bne_eq_false_iff_eq]; omega
   have HE : Hid (textV zs = some s) := Lib.hid (by rw [HV.out]; exact if_pos (by rw [HL.out, <- HM.out]; exact he))
   clear he
   go_enter Tryz.func68, Tryz.ntmps68
   go_wp2_with fail
   refine HC.out.mono ?_
   rintro e w2 ⟨rfl, rfl⟩
   go_wp2
   go_ret2
   exact ⟨by rw [textS, textE, HE.out, <- HX.out]; rfl, HB.out⟩
  ·have k1 : ((m : Int) + 1 != (n : Int)) = true := by rw [bne_iff_ne]; omega
   have HE : Hid (textV zs = none) := Lib.hid (by rw [HV.out]; exact if_neg (by rw [HL.out, <- HM.out]; exact he))
   clear he
   go_enter Tryz.func68, Tryz.ntmps68
   go_wp2_with fail
   refine HC.out.mono ?_
   rintro e w2 ⟨rfl, rfl⟩
   go_wp2
   go_ret2
   exact ⟨by rw [textS, textE, HE.out]; rfl, HB.out⟩
def qdy_ (zs : List Int) : Nat := zs.countP fun z => decide (z = 0)
theorem qgr_ {zs : List Int} (h0 : zs.getD (zs.length - 1) 0 = 0) : ∀ (f a : Nat), zs.length - a <= f -> (qa8_ zs f a).length = qdy_ (zs.drop a)
 | 0, a, h => by rw [List.drop_of_length_le (by omega)]; rfl
 | f + 1, a, h => by
  rw [qa8_]
  by_cases ha : a < zs.length
  ·obtain ⟨s, hs⟩ := qij_ h0 ha
   rw [if_pos ha, hs]
   have hl := qd4_ hs
   show (qa8_ zs f (a + s.length + 1)).length + 1 = _
   rw [qgr_ h0 f (a + s.length + 1) (by omega)]
   unfold qbm_ at hs
   split at hs
   ·rename_i hm
    simp only [Option.some.injEq] at hs
    have e : zs.drop a = s ++ zs.drop (a + s.length) := by
     have hp : s <+: zs.drop a := by rw [<- hs]; exact List.takeWhile_prefix _
     obtain ⟨t, ht⟩ := hp
     rw [<- List.drop_drop, <- ht, List.drop_left]
    have hat : zs.getD (a + s.length) 0 = 0 := by
     have h1 : (zs.drop a).dropWhile (fun z => decide (z ≠ 0)) = zs.drop (a + s.length) := by
      have := List.takeWhile_append_dropWhile (p := fun z : Int => decide (z ≠ 0)) (l := zs.drop a)
      rw [hs] at this
      exact List.append_cancel_left (this.trans e)
     have h2 := List.head?_dropWhile_not (fun z : Int => decide (z ≠ 0)) (zs.drop a)
     rw [h1] at h2
     rw [List.head?_drop] at h2
     rcases hg : zs[a + s.length]? with _ | z
     ·simp [List.getD, hg]
     ·rw [hg] at h2
      simp [List.getD, hg]
      simpa using h2
    have hn0 : qdy_ s = 0 := by
     unfold qdy_
     rw [List.countP_eq_zero]
     intro z hz
     rw [<- hs] at hz
     have := List.all_takeWhile (p := fun z : Int => decide (z ≠ 0)) (l := zs.drop a)
     rw [List.all_eq_true] at this
     simpa using this z hz
    rw [e]
    have e2 : zs.drop (a + s.length) = 0 :: zs.drop (a + s.length + 1) := by
     rw [List.drop_eq_getElem_cons (by omega)]
     congr 1
     simpa [List.getD, List.getElem?_eq_getElem (show a + s.length < zs.length by omega)] using hat
    rw [e2]
    unfold qdy_ at hn0 ⊢
    rw [List.countP_append, hn0, List.countP_cons]
    simp
   ·cases hs
  ·rw [if_neg ha, List.drop_of_length_le (by omega)]; rfl
theorem texts_all {zs : List Int} (h0 : zs.getD (zs.length - 1) 0 = 0) : (qa8_ zs zs.length 0).length = qdy_ zs := by
 have := qgr_ h0 zs.length 0 (by omega)
 simpa using this
theorem qff_ (zs : List Int) (hz : ∀ z ∈ zs, 0 <= z /\ z < 256) : Lib.countByte (Lib.bytesOf zs) (0 : Int).toNat.toUInt8 = qdy_ zs := by
 unfold Lib.countByte Lib.bytesOf qdy_
 rw [List.count, List.countP_map]
 refine List.countP_congr fun z hm => ?_
 have := qc1_ z (hz z hm)
 simp only [Function.comp, beq_iff_eq, decide_eq_true_eq]
 exact this
theorem qjl_ (A : Option Addr) (n c g d : Nat) (zs : List Int) (w : World) (B : Nat) (hs : Shows w B A n zs) (hc : n <= c) (hn : n <= 140737488351232) (h2 : w.cell? ⟨g, 0, none⟩ = some (.int .u8 0)) (k : Nat) (hk : qdy_ zs = k) :
  Calls Tryz.prog 107 #[.slice A n c, .slice (some ⟨g, 0, none⟩) 1 d] w fun e w' => e = .returned (.int .i64 (k : Int)) /\ w' = w := by
 rcases Nat.eq_zero_or_pos n with h0 | h0
 ·subst h0
  obtain rfl : zs = [] := List.eq_nil_of_length_eq_zero hs.1
  obtain rfl : k = 0 := hk.symm
  rcases A with _ | ⟨b, o, s⟩
  ·go_enter Tryz.func107, Tryz.ntmps107
   go_wp2
   rw [run_callFunc_extern Tryz.func140 (by kernel_rfl) (by kernel_rfl) (by kernel_rfl) (e := Extern.BytealgCount.count) (by kernel_rfl), Lib.run_countNil w 0 c 0]
   simp only [Result.andThen]
   rw [Oper.upon_value]
   go_wp2
   go_ret
   exact ⟨rfl, rfl⟩
  ·exact Go.Proofs.Tryz.bytes_Count_one_at ⟨b, o, s⟩ 0 c g 0 d [] 0 w rfl (fun i hi => absurd hi (Nat.not_lt_zero _)) h2
 ·obtain ⟨b, o, rfl, _, hcell⟩ := hs.at_ h0
  have := Go.Proofs.Tryz.bytes_Count_one b o n c g 0 d zs 0 w hs.1 hcell h2
  rw [qff_ zs hs.2.1, hk] at this
  exact this
theorem qio_ (zs : List Int) (n : Nat) (hl : zs.length = n) (h0 : 0 < n) (hz : ∀ z ∈ zs, 0 <= z /\ z < 256) : Lib.hasSuffix (Lib.bytesOf zs) (Lib.bytesOf [0]) = decide (zs.getD (n - 1) 0 = 0) := by
 subst hl
 obtain ⟨l, z, rfl⟩ : ∃ l z, zs = l ++ [z] := ⟨zs.dropLast, zs.getLast (List.ne_nil_of_length_pos h0), (List.dropLast_concat_getLast _).symm⟩
 have h := qc1_ z (hz z (by simp))
 have e : (l ++ [z]).getD ((l ++ [z]).length - 1) 0 = z := by simp [List.getD]
 rw [e, Bool.eq_iff_iff, decide_eq_true_iff, <- h]
 unfold Lib.hasSuffix Lib.bytesOf
 rw [List.isSuffixOf_iff_suffix, List.map_append]
 simp only [List.map_cons, List.map_nil]
 constructor
 ·rintro ⟨t, ht⟩
  have := List.append_inj_right' ht rfl
  simpa using this.symm
 ·intro e
  exact ⟨_, by rw [e]⟩
theorem qiv_ (A : Option Addr) (n c g d : Nat) (zs : List Int) (w : World) (B : Nat) (hs : Shows w B A n zs) (h0 : 0 < n) (hnc : n <= c) (hn : n <= 9223372036854775807) (h2 : w.cell? ⟨g, 0, none⟩ = some (.int .u8 0)) (r : Bool) (hr : decide (zs.getD (n - 1) 0 = 0) = r) :
  Calls Tryz.prog 106 #[.slice A n c, .slice (some ⟨g, 0, none⟩) 1 d] w fun e w' => e = .returned (.bool r) /\ w' = w := by
 obtain ⟨b, o, rfl, _, hcell⟩ := hs.at_ h0
 have := Go.Proofs.Tryz.bytes_HasSuffix_all (some ⟨b, o, none⟩) (some ⟨g, 0, none⟩) n c 1 d zs [0] w hs.1 rfl hnc hn (Lib.BytesIn.of_cells fun i hi => by
  rw [qbc_]; exact hcell i hi) (Lib.BytesIn.of_cells fun i hi => by
  obtain rfl : i = 0 := by omega
  rw [qbc_]; exact h2)
 rw [qio_ zs n hs.1 h0 hs.2.1, hr] at this
 exact this
theorem make_strs (k : Nat) (hk : k <= 1099511627776) (w : World) :
  (Instr.makeSlice 37 (.int .i64 (k : Int)) (.int .i64 (k : Int))).run Tryz.prog w = .ok (.slice (some ⟨w.heap.size, 0, none⟩) k k) (w.alloc (.cells (madeCells #[.string ⟨#[]⟩] k) 9)) :=
 run_make_row' (P := Tryz.prog) 37 9 (.string ⟨#[]⟩) 16 Tryz.underlying37 info_str rfl .i64 .i64 k (by omega) (by omega) w
theorem qn6_ {zs : List Int} (h0 : zs.getD (zs.length - 1) 0 = 0) {m f a k : Nat} {xs : List (List Int)} (hx : xs ++ qa8_ zs f a = qa8_ zs zs.length 0) (hk : xs.length = k) (hf : zs.length - a <= f) (hm : (qa8_ zs zs.length 0).length = m) (hlt : k < m) :
  ∃ s f', qbm_ zs a = some s /\ a + s.length + 1 <= zs.length /\ f = f' + 1 /\ (xs ++ [s]) ++ qa8_ zs f' (a + s.length + 1) = qa8_ zs zs.length 0 /\ (qa8_ zs zs.length 0)[k]? = some s := by
 have hl : (qa8_ zs f a).length = m - k := by
  have := congrArg List.length hx
  rw [List.length_append, hm, hk] at this
  omega
 obtain ⟨f', rfl⟩ : ∃ f', f = f' + 1 := by
  rcases f with _ | f'
  ·rw [qa8_] at hl; simp at hl; omega
  ·exact ⟨f', rfl⟩
 by_cases ha : a < zs.length
 ·obtain ⟨s, hs⟩ := qij_ h0 ha
  have hlen := qd4_ hs
  have e : qa8_ zs (f' + 1) a = s :: qa8_ zs f' (a + s.length + 1) := by rw [qa8_, if_pos ha, hs]
  refine ⟨s, f', hs, by omega, rfl, ?_, ?_⟩
  ·rw [<- hx, e, List.append_assoc]; rfl
  ·rw [<- hx, e, List.getElem?_append_right (by omega), hk, Nat.sub_self]; rfl
 ·rw [qa8_, if_neg ha] at hl; simp at hl; omega
theorem qh7_ (A : Option Addr) (n c : Nat) (zs : List Int) (w : World) (hs : Shows w w.heap.size A n zs) (hn : n <= 134217728) (hnc : n <= c) (hc : c <= 9223372036854775807) :
  Calls Tryz.prog 69 #[.slice A n c] w fun e w' => qe1_ w' (strs6 (txtsL zs)) (txtsE zs) e /\ Below w.heap.size w w' := by
 have HS := Lib.hid hs
 have HC := Lib.hid (And.intro hnc hc)
 have HL := Lib.hid hs.1
 have HB0 := Lib.hid ((Below.refl w.heap.size w).alloc (Nat.le_refl _) (.cells #[.int .u8 0] 5 (1, 2)))
 have HC0 : Hid ((w.alloc (.cells #[.int .u8 0] 5 (1, 2))).cell? ⟨w.heap.size, 0, none⟩ = some (.int .u8 0)) := Lib.hid (World.cell?_alloc_mark _ _ _ _ _)
 have kc := fun (w : World) (C : Array Value) (n c : Nat) => Lib.run_convert_bytes_const (P := Tryz.prog) w 82 5 C n c Tryz.underlying82 Tryz.underlying5
 by_cases hbad : 0 < n /\ zs.getD (n - 1) 0 ≠ 0
 ·obtain ⟨h0, hlast⟩ := hbad
  have HE : Hid (qmh_ zs = none) := Lib.hid (by rw [qmh_, HL.out]; exact if_pos ⟨h0, hlast⟩)
  have C := Lib.hid (qiv_ A n c w.heap.size 1 zs _ _ (HS.out.below HB0.out) h0 hnc (by omega) HC0.out false (decide_eq_false hlast))
  have k0 : decide ((0 : Int) < (n : Int)) = true := decide_eq_true (by omega)
  have k1 : (0 : Int) < (n : Int) := by omega
  clear hs hlast h0
  go_enter Tryz.func69, Tryz.ntmps69
  go_wp2_with fail
  refine C.out.mono ?_
  rintro e w2 ⟨rfl, rfl⟩
  go_wp2
  go_ret2
  exact ⟨by rw [txtsL, txtsE, HE.out]; exact qic_ rfl, HB0.out⟩
 ·have HT : Hid (qmh_ zs = some (qa8_ zs n 0)) := Lib.hid (by rw [qmh_, HL.out]; exact if_neg hbad)
  have hz0 : zs.getD (n - 1) 0 = 0 := by
   rcases Nat.eq_zero_or_pos n with h | h
   ·subst h
    rw [List.eq_nil_of_length_eq_zero HL.out]; rfl
   ·exact Classical.byContradiction fun h' => hbad ⟨h, h'⟩
  obtain ⟨m, hm⟩ : ∃ m, (qa8_ zs n 0).length = m := ⟨_, rfl⟩
  have hcnt : qdy_ zs = m := by
   have := texts_all (zs := zs) (by rw [HL.out]; exact hz0)
   rw [HL.out] at this
   omega
  have hmn : m <= n := by
   have := List.countP_le_length (p := fun z : Int => decide (z = 0)) (l := zs)
   unfold qdy_ at hcnt
   have := HL.out
   omega
  have HE : Hid (txtsE zs = 0) := Lib.hid (by rw [txtsE, HT.out])
  have HU : Hid (txtsL zs = (qa8_ zs n 0).map strOfNums) := Lib.hid (by rw [txtsL, HT.out])
  have HUL : Hid ((strs6 (txtsL zs)).length = m) := Lib.hid (by rw [List.length_map, HU.out, List.length_map, hm])
  have HM := make_strs m (by omega)
  have HZ := Lib.hid hz0
  have HMM := Lib.hid hm
  have hm9 : m <= 134217728 := by omega
  generalize hUU : strs6 (txtsL zs) = U at HUL
  have HUU := Lib.hid hUU
  rcases Nat.eq_zero_or_pos n with h0 | h0
  ·subst h0
   obtain rfl : m = 0 := by omega
   have C := Lib.hid (qjl_ A 0 c w.heap.size 1 zs _ _ (HS.out.below HB0.out) (Nat.zero_le _) (by omega) HC0.out 0 hcnt)
   obtain rfl : U = [] := List.eq_nil_of_length_eq_zero HUL.out
   have HB1 := Lib.hid (HB0.out.alloc HB0.out.size (.cells (madeCells #[.string ⟨#[]⟩] 0) 9))
   replace HM : ∀ w, (Instr.makeSlice 37 (.int .i64 0) (.int .i64 0)).run Tryz.prog w = .ok (.slice (some ⟨w.heap.size, 0, none⟩) 0 0) (w.alloc (.cells (madeCells #[.string ⟨#[]⟩] 0) 9)) := HM
   clear hs hbad hz0 hm hcnt hmn hUU hnc hn
   go_enter Tryz.func69, Tryz.ntmps69
   go_wp2_with fail
   refine C.out.mono ?_
   rintro e w2 ⟨rfl, rfl⟩
   go_wp2_with fail
   go_loopw [24] (fun i wr => i = .int .i64 0 /\ Below w.heap.size w wr) (fun _ _ => 0)
   case atStart => exact ⟨rfl, HB1.out⟩
   case round =>
    obtain ⟨rfl, hb⟩ := hrel
    have HB := Lib.hid hb
    clear hb
    go_wp2
    go_ret2
    refine ⟨?_, HB.out⟩
    rw [HE.out]
    exact ⟨_, 0, rfl, Cel.nil _ _ _, Nat.le_refl _, by omega⟩
  ·have C := Lib.hid (qiv_ A n c w.heap.size 1 zs _ _ (HS.out.below HB0.out) h0 hnc (by omega) HC0.out true (decide_eq_true hz0))
   have k0 : decide ((0 : Int) < (n : Int)) = true := decide_eq_true (by omega)
   have k1 : (0 : Int) < (n : Int) := by omega
   have HB1 := Lib.hid (HB0.out.alloc HB0.out.size (.cells #[.int .u8 0] 5 (1, 2)))
   have HC1 : Hid (((w.alloc (.cells #[.int .u8 0] 5 (1, 2))).alloc (.cells #[.int .u8 0] 5 (1, 2))).cell? ⟨w.heap.size + 1, 0, none⟩ = some (.int .u8 0)) := Lib.hid (Joins.cell_alloc_mark_at _ _ _ _ _ _ (by simp))
   have C1 := Lib.hid (qjl_ A n c (w.heap.size + 1) 1 zs _ _ (HS.out.below HB1.out) hnc (by omega) HC1.out m hcnt)
   have kc2 := fun n c => Joins.run_convert_bytes_const_at (P := Tryz.prog) (w.alloc (.cells #[.int .u8 0] 5 (1, 2))) 82 5 #[.int .u8 0] n c (w.heap.size + 1) (by simp) Tryz.underlying82 Tryz.underlying5
   obtain ⟨g, hg⟩ : ∃ g, g = w.heap.size + 1 + 1 := ⟨_, rfl⟩
   have HB2 := Lib.hid (HB1.out.alloc HB1.out.size (.cells (madeCells #[.string ⟨#[]⟩] m) 9))
   have HVR : Hid (VRow (((w.alloc (.cells #[.int .u8 0] 5 (1, 2))).alloc (.cells #[.int .u8 0] 5 (1, 2))).alloc (.cells (madeCells #[.string ⟨#[]⟩] m) 9)) g 9 (partV U (.string ⟨#[]⟩) m 0)) := Lib.hid (by
    rw [qiz_, hg]
    have := qlp_ ((w.alloc (.cells #[.int .u8 0] 5 (1, 2))).alloc (.cells #[.int .u8 0] 5 (1, 2))) (.string ⟨#[]⟩) m 9
    simpa using this)
   have HUAT : Hid (∀ k s, (qa8_ zs n 0)[k]? = some s -> U[k]? = some (Value.string (strOfNums s))) := Lib.hid (fun k s h => by
    rw [<- hUU, strs6, HU.out, List.map_map, List.getElem?_map, h]; rfl)
   have HN := Lib.hid (And.intro h0 hn)
   have hgw : w.heap.size <= g := by omega
   clear hs hbad hz0 hm hcnt hnc hn h0 hUU
   go_enter Tryz.func69, Tryz.ntmps69
   go_wp2_with fail
   refine C.out.mono ?_
   rintro e w2 ⟨rfl, rfl⟩
   go_wp2_with fail
   refine C1.out.mono ?_
   rintro e w2 ⟨rfl, rfl⟩
   go_wp2_with fail
   rw [<- hg]
   clear hg
   go_loopw [5, 24] (fun at_ i wr => ∃ (k a f : Nat) (xs : List (List Int)), k <= m /\ a <= n /\ i = .int .i64 k /\ at_ = .int .i64 a /\ Hid (xs ++ qa8_ zs f a = qa8_ zs n 0 /\ xs.length = k /\ n - a <= f) /\ VRow wr g 9 (partV U (.string ⟨#[]⟩) m k) /\ Below w.heap.size w wr) (fun _ i _ => m - (intOf i).toNat)
   case atStart => exact ⟨0, 0, n, [], Nat.zero_le _, Nat.zero_le _, rfl, rfl, Lib.hid ⟨rfl, rfl, by omega⟩, HVR.out, HB2.out⟩
   case round =>
    obtain ⟨k, a, f, xs, hk, ha, rfl, rfl, HX, hrow, hb⟩ := hrel
    have HB := Lib.hid hb
    have HR := Lib.hid hrow
    by_cases hlt : k < m
    ·have hnext := qn6_ (zs := zs) (f := f) (a := a) (k := k) (xs := xs) (m := m) (by rw [HL.out]; exact HZ.out) (by rw [HL.out]; exact HX.out.1) HX.out.2.1 (by rw [HL.out]; exact HX.out.2.2) (by rw [HL.out]; exact HMM.out) hlt
     obtain ⟨s, f', hs, hle, rfl, hxs, hat⟩ := hnext
     rw [HL.out] at hle hxs hat
     have CT := fun q hq => qm8_ A n c a q hq zs wr w.heap.size (HS.out.below hb) HN.out.2 HC.out.1 (some s) hs
     obtain ⟨x, hx⟩ : ∃ x, strOfNums s = x := ⟨_, rfl⟩
     obtain ⟨l, hl⟩ : ∃ l, x.size = l := ⟨_, rfl⟩
     have hsl : s.length = l := by rw [<- hl, <- hx]; exact (qgq_ s).symm
     have HCT : Hid (∀ q : Int, q = (a : Int) -> Calls Tryz.prog 105 #[.slice A n c, .int .i64 q] wr fun e w' => e = .returned (.tuple #[.string x, .bool true]) /\ wr = w') := Lib.hid (fun q hq => by rw [<- hx]; exact CT q hq)
     rw [hsl] at hle hxs
     have huat := HUAT.out k s hat
     rw [hx] at huat
     have HSET : Hid ((partV U (.string ⟨#[]⟩) m k).set k (.string x) = partV U (.string ⟨#[]⟩) m (k + 1)) := Lib.hid (qk2_ U _ m k hlt HUL.out _ huat)
     have hcell := hrow.at_ (qnl_ U (.string ⟨#[]⟩) m k hlt HUL.out)
     have hfree := hrow.free k
     have HR2 := Lib.hid (hrow.set k (.string x))
     have hcell2 : (wr.setCell ⟨g, k, none⟩ (.string x)).cell? ⟨g, k, none⟩ = some (.string x) := by
      refine HR2.out.at_ ?_
      rw [HSET.out, partV]
      have : (U.take (k + 1)).length = k + 1 := by rw [List.length_take, HUL.out]; omega
      rw [List.getElem?_append_left (by omega), List.getElem?_take_of_lt (by omega)]
      exact huat
     have HB2 := Lib.hid (hb.setCell (p := ⟨g, k, none⟩) hgw (.string x))
     have HNX := Lib.hid (show (xs ++ [s]) ++ qa8_ zs f' (a + l + 1) = qa8_ zs n 0 /\ (xs ++ [s]).length = k + 1 /\ n - (a + l + 1) <= f' from ⟨hxs, by rw [List.length_append, HX.out.2.1]; rfl, by have := HX.out.2.2; omega⟩)
     have hle2 : a + l + 1 <= 134217728 := by have := HN.out.2; omega
     clear hx hsl hxs hat huat CT hs hrow hb
     go_wp2_with fail
     refine (HCT.out _ rfl).mono ?_
     rintro e w1 ⟨rfl, rfl⟩
     go_wp2
     go_roundw
     case rel => exact ⟨k + 1, a + l + 1, f', xs ++ [s], by omega, by omega, by go_num, by go_num, HNX, by rw [<- HSET.out]; exact HR2.out, HB2.out⟩
     case measure => simp [intOf]; omega
    ·obtain rfl : k = m := by omega
     have HV : Hid (VRow wr g 9 U) := Lib.hid (by have := HR.out; rw [qle_ _ _ _ HUL.out] at this; exact this)
     clear hrow hb
     go_wp2
     go_ret2
     refine ⟨?_, HB.out⟩
     rw [HE.out]
     exact qg4_ HV.out HUL.out (Nat.le_refl _) (by omega) rfl
section
open Go.RowKit Go.Maps Go.WideMaps
section
variable {α : Type} {f : α -> List Value} {sz : Nat}
end
section
variable {w w' : World} {D D' : Nat -> Prop}
end
section
end
end

section
variable {w w' : World} {D D' : Nat -> Prop}
end
section
variable {W0 w w' : World} {B go : Nat} {D : Nat -> Prop} {nm : ByteArray} {pv kv : Value} {P : List PV} {K : List Nd}
end
section
variable {W0 w w' : World} {B go : Nat} {D : Nat -> Prop} {nm : ByteArray} {pv kv : Value} {P : List PV} {K : List Nd}
end
section
structure Chg (F : Nat -> Prop) (w w' : World) : Prop where
 os : w'.os = w.os
 tape : w'.tape = w.tape
 output : w'.output = w.output
 size : w.heap.size <= w'.heap.size
 block : ∀ k, k < w.heap.size -> ¬ F k -> w'.heap[k]? = w.heap[k]?
section
variable {F F' : Nat -> Prop} {w w' w2 : World}
theorem Chg.trans (h : Chg F w w') (k : Chg F' w' w2) (hF : ∀ g, g < w.heap.size -> F' g -> F g) : Chg F w w2 :=
 ⟨k.os.trans h.os, k.tape.trans h.tape, k.output.trans h.output, Nat.le_trans h.size k.size, fun g hg hn => (k.block g (Nat.lt_of_lt_of_le hg h.size) (fun e => hn (hF g hg e))).trans (h.block g hg hn)⟩
theorem Chg.mono (h : Chg F w w') (hF : ∀ g, g < w.heap.size -> F g -> F' g) : Chg F' w w' := ⟨h.os, h.tape, h.output, h.size, fun g hg hn => h.block g hg (fun e => hn (hF g hg e))⟩
theorem Chg.ofBelow (h : Below w.heap.size w w') : Chg F w w' := ⟨h.os, h.tape, h.output, h.size, fun g hg _ => h.block g hg⟩
theorem Chg.ofGrown {row : Option Nat} (h : w.grownBy w' row) (hr : ∀ g, row = some g -> F g) : Chg F w w' := ⟨h.os, h.tape, h.output, h.size, fun g hg hn => h.block g hg (fun e => hn (hr g e.symm))⟩
theorem Chg.below (h : Chg F w w') {B : Nat} (hB : B <= w.heap.size) (hF : ∀ g, F g -> B <= g) : Below B w w' := ⟨h.os, h.tape, h.output, h.size, fun g hg => h.block g (by omega) (fun e => by have := hF g e; omega)⟩
theorem Chg.setCell (h : Chg F w w') {a : Addr} (ha : F a.block \/ w.heap.size <= a.block) (v : Value) : Chg F w (w'.setCell a v) :=
 ⟨h.os, h.tape, h.output, by simpa using h.size, fun g hg hn => (heap_setCell_other w' a g v (fun e => by rcases ha with ha | ha; exact hn (e ▸ ha); omega)).trans (h.block g hg hn)⟩
end
section
variable {w w' : World} {E D D' F F' G' : Nat -> Prop} {B : Nat}
theorem qb6_ {e : TypeId} {sz n : Nat} {v : Value} {xs : List Value} (h : w.ownsRow B e sz v n xs) (hk : ∀ g, v.ownBlock = some g -> w'.heap[g]? = w.heap[g]?) : w'.ownsRow B e sz v n xs := by
 refine ⟨h.1, ?_⟩
 rcases h.2 with hn | ⟨g, cap, cur, rfl, hb, hg, r⟩
 ·exact .inl hn
 ·exact .inr ⟨g, cap, cur, rfl, hb, (hk g rfl).trans hg, r⟩
end
end
def InsideOK : Prop := ∀ (wa ws a s : Int) (w : World), U64 wa -> U64 ws -> U64 a -> U64 s -> Calls Tryz.prog 116 #[.agg #[.int .u64 wa, .int .u64 ws], .int .u64 a, .int .u64 s] w fun e w' => e = .returned (.bool (qb2_ wa ws a s)) /\ Below w.heap.size w w'
def MeetOK : Prop := ∀ (a s b t : Int) (w : World), U64 a -> U64 s -> U64 b -> U64 t -> Calls Tryz.prog 89 #[.agg #[.int .u64 a, .int .u64 s], .agg #[.int .u64 b, .int .u64 t]] w fun e w' => e = .returned (.bool (meetB a s b t)) /\ Below w.heap.size w w'
def qe3_ (n : Nd) : Bool := decide (0 <= cntV n qav_ 2) && decide (0 <= cntV n qbe_ 1)
def CountsOK : Prop := ∀ (n : Nd) (w : World), n.In w w.heap.size -> Calls Tryz.prog 113 #[n.val] w fun e w' =>
 (qe3_ n = true -> e = .returned (.tuple #[.int .i64 (cntV n qav_ 2), .int .i64 (cntV n qbe_ 1), .int .i64 0])) /\ (qe3_ n = false -> e = .returned (.tuple #[.int .i64 0, .int .i64 0, .int .i64 10])) /\ Below w.heap.size w w'
def RegOK : Prop := ∀ (parent n : Nd) (w : World), parent.In w w.heap.size -> n.In w w.heap.size -> heftN parent <= 1073741824 -> heftN n <= 1073741824 -> Calls Tryz.prog 91 #[parent.val, n.val] w fun e w' =>
 ((regV parent n).1 = true -> ∃ A m c, e = .returned (.tuple #[.slice A m c, .int .i64 0]) /\ Cel2 w' w'.heap.size A m ((regV parent n).2.map winV) /\ m <= c /\ c <= 9223372036854775807) /\ ((regV parent n).1 = false -> ∃ A c, e = .returned (.tuple #[.slice A 0 c, .int .i64 10]) /\ c <= 9223372036854775807) /\ Below w.heap.size w w'
def wideV (zs : List Int) : Int := zs.foldl (fun v z => v * 4294967296 + z) 0
theorem qi7_ (zs : List Int) (k : Nat) (h : k < zs.length) : wideV (zs.take (k + 1)) = wideV (zs.take k) * 4294967296 + zs.getD k 0 := by
 unfold wideV
 rw [qdp_ zs k h, List.foldl_append]
 simp [List.getD, List.getElem?_eq_getElem h]
theorem qgy_ (zs : List Int) (hz : ∀ z ∈ zs, 0 <= z /\ z <= 4294967295) : ∀ k, k <= zs.length -> 0 <= wideV (zs.take k) /\ wideV (zs.take k) < 4294967296 ^ k
 | 0, _ => by simp [wideV]
 | k + 1, h => by
  have h1 := qgy_ zs hz k (by omega)
  have h2 := hz zs[k] (List.getElem_mem (by omega))
  have e : zs.getD k 0 = zs[k] := by simp [List.getD, List.getElem?_eq_getElem (show k < zs.length by omega)]
  rw [qi7_ zs k (by omega), e, Int.pow_succ]
  omega
theorem or_wide (v z : Int) (h0 : 0 <= v) (h1 : v <= 4294967295) (h2 : 0 <= z) (h3 : z <= 4294967295) : bits .or .u64 (v * 4294967296) z = v * 4294967296 + z := by
 obtain ⟨a, rfl⟩ := Int.eq_ofNat_of_zero_le h0
 obtain ⟨b, rfl⟩ := Int.eq_ofNat_of_zero_le h2
 have e : ((a : Int) * 4294967296) = ((a * 4294967296 : Nat) : Int) := by omega
 rw [e, u64_or_nat (a * 4294967296) b (by omega) (by omega), nat_join 32 (a * 4294967296) b (by omega) (by omega)]
 omega
theorem qf2_ (A : Option Addr) (n c : Nat) (zs : List Int) (w : World) (hl : zs.length = n) (hs : Cel w w.heap.size A n (u32s zs)) (hz : ∀ z ∈ zs, 0 <= z /\ z <= 4294967295) (hn : n <= 1099511627776) (hnc : n <= c) (hc : c <= 9223372036854775807) :
  Calls Tryz.prog 146 #[.slice A n c] w fun e w' => e = .returned (.tuple #[.int .u64 (if n <= 2 then wideV zs else 0), .int .i64 (if n <= 2 then 0 else 10)]) /\ w' = w := by
 have HS := Lib.hid hs
 have HL := Lib.hid hl
 have HZ := Lib.hid hz
 clear hs hl hz
 by_cases h2 : n <= 2
 ·have k2 : decide ((2 : Int) < (n : Int)) = false := decide_eq_false (by omega)
  rw [if_pos h2, if_pos h2]
  have H2 := Lib.hid h2
  clear h2
  obtain ⟨V, hV⟩ : ∃ V, wideV zs = V := ⟨_, rfl⟩
  rw [hV]
  have HV := Lib.hid hV
  clear hV
  go_enter Tryz.func146, Tryz.ntmps146
  go_wp2_with fail
  go_loop [4, 12] (fun x i => ∃ (k : Nat) (v : Int), k <= n /\ i = .int .i64 k /\ x = .int .u64 v /\ Hid (v = wideV (zs.take k))) (fun _ i => n - (intOf i).toNat)
  case atStart => exact ⟨0, 0, Nat.zero_le _, rfl, rfl, Lib.hid rfl⟩
  case round =>
   obtain ⟨k, v, hk, rfl, rfl, HW⟩ := hrel
   by_cases hlt : k < n
   ·obtain ⟨b, o, e, _, cc⟩ := u32_cell HS.out HL.out k hlt
    obtain rfl : A = _ := e
    obtain ⟨x, hx⟩ : ∃ x, zs.getD k 0 = x := ⟨_, rfl⟩
    rw [hx] at cc
    have hkz : k < zs.length := by rw [HL.out]; exact hlt
    have hn2 : n <= 2 := H2.out
    have hb1 := qgy_ zs HZ.out k (by omega)
    have hxb : 0 <= x /\ x <= 4294967295 := by
     rw [<- hx]
     have := HZ.out zs[k] (List.getElem_mem hkz)
     simpa [List.getD, List.getElem?_eq_getElem hkz] using this
    have hnx := qi7_ zs k hkz
    rw [hx] at hnx
    rw [<- HW.out] at hb1 hnx
    have hp : (4294967296 : Int) ^ k <= 4294967296 := by
     have := H2.out
     rcases (by omega : k = 0 \/ k = 1) with rfl | rfl <;> decide
    have hv0 : 0 <= v := hb1.1
    have hv1 : v <= 4294967295 := by omega
    have HNX := Lib.hid hnx.symm
    have w2' : IntKind.u64.wrap x = x := IntWalk.u64_in _ (by omega)
    have w3' := or_wide v x hv0 hv1 hxb.1 hxb.2
    clear hb1 hx hnx hp hkz
    go_wp2
    go_round
    case rel => exact ⟨k + 1, v * 4294967296 + x, by omega, by go_num, by first | rfl | rw [w3'], Lib.hid HNX.out⟩
    case measure => simp [intOf]; omega
   ·have HE : Hid (v = V) := Lib.hid (by rw [HW.out, List.take_of_length_le (by rw [HL.out]; omega), HV.out])
    obtain rfl := HE.out
    go_wp2
    go_ret2
    exact ⟨rfl, rfl⟩
 ·have k2 : decide ((2 : Int) < (n : Int)) = true := decide_eq_true (by omega)
  rw [if_neg h2, if_neg h2]
  clear h2
  go_enter Tryz.func146, Tryz.ntmps146
  go_wp2
  go_ret2
  exact ⟨rfl, rfl⟩
theorem qev_ (w : World) : (Go.sizeOf 22).run Tryz.prog w = .ok 1 w := by kernel_rfl
theorem qel_ (cs : List Int) (k : Nat) : u32s (cs.take k) = (u32s cs).take k := by simp [u32s, List.map_take]
theorem qee_ (cs : List Int) (k : Nat) : u32s (cs.drop k) = (u32s cs).drop k := by simp [u32s, List.map_drop]
theorem qnp_ (A : Option Addr) (k c a : Nat) (cs : List Int) (w : World) (hl : cs.length = k) (hs : Cel w w.heap.size A k (u32s cs)) (hz : ∀ z ∈ cs, 0 <= z /\ z <= 4294967295) (hak : a <= k) (ha : a <= 2) (hka : k - a <= 2) (hkc : k <= c) (hc : c <= 9223372036854775807) :
  Calls Tryz.prog 130 #[.slice A k c, .int .i64 a] w fun e w' => e = .returned (.agg #[.int .u64 (wideV (cs.take a)), .int .u64 (wideV (cs.drop a))]) /\ Below w.heap.size w w' := by
 obtain ⟨W0, hW0⟩ : ∃ W0, W0 = w.alloc (.cells #[.int .u64 0, .int .u64 0] 173) := ⟨_, rfl⟩
 have hb0 : Below w.heap.size w W0 := by rw [hW0]; exact (Below.refl w.heap.size w).alloc (Nat.le_refl _) _
 have hs0 : Cel W0 W0.heap.size A k (u32s cs) := hs.on hb0
 obtain ⟨x, hx⟩ : ∃ x, wideV (cs.take a) = x := ⟨_, rfl⟩
 obtain ⟨y, hy⟩ : ∃ y, wideV (cs.drop a) = y := ⟨_, rfl⟩
 have C1 : Calls Tryz.prog 146 #[.slice A a c] W0 fun e w' => e = .returned (.tuple #[.int .u64 x, .int .i64 0]) /\ w' = W0 := by
  have h := qf2_ A a c (cs.take a) W0 (by rw [List.length_take, hl]; omega) (by rw [qel_]; exact hs0.upto hak) (fun z h => hz z (List.mem_of_mem_take h)) (by omega) (by omega) hc
  rwa [if_pos ha, if_pos ha, hx] at h
 have C2 : Calls Tryz.prog 146 #[.slice (cutAt A c a) (k - a) (c - a)] W0 fun e w' => e = .returned (.tuple #[.int .u64 y, .int .i64 0]) /\ w' = W0 := by
  have h := qf2_ (cutAt A c a) (k - a) (c - a) (cs.drop a) W0 (by rw [List.length_drop, hl]) (by rw [qee_]; exact hs0.from_ hak hkc) (fun z h => hz z (List.mem_of_mem_drop h)) (by omega) (by omega) (by omega)
  rwa [if_pos hka, if_pos hka, hy] at h
 rw [hx, hy]
 have R1 : ∀ W : World, (Instr.slice 87 (.slice A k c) none (some (.int .i64 (a : Int))) none).run Tryz.prog W = .ok (.slice A a c) W := fun W => qkm_ Tryz.underlying87 qev_ A k c _ a rfl (by omega) W
 have R2 : ∀ W : World, (Instr.slice 87 (.slice A k c) (some (.int .i64 (a : Int))) none none).run Tryz.prog W = .ok (.slice (cutAt A c a) (k - a) (c - a)) W := fun W => qe9_ Tryz.underlying87 qev_ A k c _ a rfl hak W
 rw [hW0] at C1 C2
 have C1 := Lib.hid C1
 have C2 := Lib.hid C2
 have HB : Hid (Below w.heap.size w (w.alloc (.cells #[.int .u64 x, .int .u64 y] 173))) := Lib.hid ((Below.refl w.heap.size w).alloc (Nat.le_refl _) _)
 clear hW0 hb0 hs0 hs hz hl hx hy
 go_enter Tryz.func130, Tryz.ntmps130
 go_wp2_with fail
 refine C1.out.mono ?_
 rintro e w1 ⟨rfl, rfl⟩
 clear C1 R1
 go_wp2_with fail
 refine C2.out.mono ?_
 rintro e w1 ⟨rfl, rfl⟩
 clear C2 R2
 go_wp2_with fail
 have d0 : (w.alloc (.cells #[.int .u64 x, .int .u64 y] 173)).cell? ⟨w.heap.size, 0, none⟩ = some (.int .u64 x) := World.cell?_alloc_new _ _ _ _
 have d1 : (w.alloc (.cells #[.int .u64 x, .int .u64 y] 173)).cell? ⟨w.heap.size, 1, none⟩ = some (.int .u64 y) := World.cell?_alloc_new _ _ _ _
 refine bodyPost_ret (v := .agg #[.int .u64 x, .int .u64 y]) (by simp [results, Tryz.results130, go_sem, d0, d1]; try rfl) rfl ?_
 exact ⟨rfl, HB.out⟩
theorem qjm_ (zs : List Int) (x m : Nat) : ∀ k, k <= m -> numTo ((zs.drop x).take m) 0 k = numTo zs x k
 | 0, _ => rfl
 | k + 1, h => by
  rw [numTo, numTo, qjm_ zs x m k (by omega), Nat.zero_add]
  simp [List.getD, List.getElem?_take_of_lt (show k < m by omega), List.getElem?_drop]
theorem qnz_ (zs : List Int) (x m : Nat) : cutN zs x m = numTo zs x m := qjm_ zs x m m (Nat.le_refl _)
theorem num_eight (zs : List Int) (x : Nat) : numTo zs x 8 = numTo zs x 4 * 4294967296 + numTo zs (x + 4) 4 := by
 simp only [numTo, Nat.add_zero, Nat.add_assoc, Nat.reduceAdd]
 generalize zs.getD x 0 = a0
 generalize zs.getD (x + 1) 0 = a1
 generalize zs.getD (x + 2) 0 = a2
 generalize zs.getD (x + 3) 0 = a3
 generalize zs.getD (x + 4) 0 = a4
 generalize zs.getD (x + 5) 0 = a5
 generalize zs.getD (x + 6) 0 = a6
 generalize zs.getD (x + 7) 0 = a7
 omega
theorem qgd_ (zs : List Int) (N b : Nat) (hN : zs.length = 4 * N) (hb : b < N) : (qao_ zs).drop b = numTo zs (4 * b) 4 :: (qao_ zs).drop (b + 1) := by
 have e : qao_ zs = (List.range N).map fun i => numTo zs (4 * i) 4 := by
  rw [qao_, if_pos (by omega), show zs.length / 4 = N by omega]
 rw [e, List.drop_eq_getElem_cons (by simpa using hb)]
 simp
theorem qea_ (zs : List Int) (N b m : Nat) (hN : zs.length = 4 * N) (hb : b + m <= N) (hm : m <= 2) : wideV (((qao_ zs).drop b).take m) = numTo zs (4 * b) (4 * m) := by
 rcases (by omega : m = 0 \/ m = 1 \/ m = 2) with rfl | rfl | rfl
 ·rfl
 ·rw [qgd_ zs N b hN (by omega)]
  simp [wideV]
 ·rw [qgd_ zs N b hN (by omega), qgd_ zs N (b + 1) hN (by omega)]
  have := num_eight zs (4 * b)
  rw [show 4 * (b + 1) = 4 * b + 4 by omega]
  simp [wideV]
  omega
theorem chunk_win (zs : List Int) (N j a s : Nat) (hN : zs.length = 4 * N) (hj : j * (a + s) + (a + s) <= N) (ha : a <= 2) (hs : s <= 2) (cs : List Int) (hcs : cs = ((qao_ zs).drop (j * (a + s))).take (a + s)) :
  wideV (cs.take a) = cutN zs (j * (4 * a + 4 * s)) (4 * a) /\ wideV (cs.drop a) = cutN zs (j * (4 * a + 4 * s) + 4 * a) (4 * s) := by
 subst hcs
 have e : j * (4 * a + 4 * s) = 4 * (j * (a + s)) := by rw [<- Nat.mul_add]; exact Nat.mul_left_comm j 4 (a + s)
 rw [qnz_, qnz_, e]
 generalize j * (a + s) = b at *
 refine ⟨?_, ?_⟩
 ·rw [List.take_take, Nat.min_eq_left (by omega)]
  exact qea_ zs N b a hN (by omega) ha
 ·rw [List.drop_take, List.drop_drop, show a + s - a = s by omega, show 4 * b + 4 * a = 4 * (b + a) by omega]
  exact qea_ zs N (b + a) s hN (by omega) hs
theorem chunk_rng (zs : List Int) (N j c p s : Nat) (hN : zs.length = 4 * N) (hj : j * (c + p + s) + (c + p + s) <= N) (hc : c <= 2) (hp : p <= 2) (hs : s <= 2) (cs : List Int) (hcs : cs = ((qao_ zs).drop (j * (c + p + s))).take (c + p + s)) :
  (wideV (cs.take c), wideV ((cs.drop c).take p), wideV (cs.drop (c + p))) = rng ((zs.drop (j * (4 * (c + p + s)))).take (4 * (c + p + s))) (4 * c) (4 * p) := by
 subst hcs
 have e : j * (4 * (c + p + s)) = 4 * (j * (c + p + s)) := Nat.mul_left_comm j 4 (c + p + s)
 rw [e, rng]
 generalize j * (c + p + s) = b at *
 have h1 : wideV ((((qao_ zs).drop b).take (c + p + s)).take c) = numTo ((List.take (4 * (c + p + s)) (List.drop (4 * b) zs)).take (4 * c)) 0 (4 * c) := by
  rw [List.take_take, Nat.min_eq_left (by omega), List.take_take, Nat.min_eq_left (by omega), qjm_ _ _ _ _ (Nat.le_refl _)]
  exact qea_ zs N b c hN (by omega) hc
 have h2 : wideV (((((qao_ zs).drop b).take (c + p + s)).drop c).take p) = numTo (((List.take (4 * (c + p + s)) (List.drop (4 * b) zs)).drop (4 * c)).take (4 * p)) 0 (4 * p) := by
  rw [List.drop_take, List.drop_drop, List.take_take, Nat.min_eq_left (by omega), List.drop_take, List.drop_drop, List.take_take, Nat.min_eq_left (by omega), qjm_ _ _ _ _ (Nat.le_refl _), show 4 * b + 4 * c = 4 * (b + c) by omega]
  exact qea_ zs N (b + c) p hN (by omega) hp
 have h3 : wideV ((((qao_ zs).drop b).take (c + p + s)).drop (c + p)) = numTo ((List.take (4 * (c + p + s)) (List.drop (4 * b) zs)).drop (4 * c + 4 * p)) 0 ((List.take (4 * (c + p + s)) (List.drop (4 * b) zs)).length - (4 * c + 4 * p)) := by
  have hl : (List.take (4 * (c + p + s)) (List.drop (4 * b) zs)).length = 4 * (c + p + s) := by
   rw [List.length_take, List.length_drop, hN]
   omega
  rw [hl, List.drop_take, List.drop_drop, List.drop_take, List.drop_drop, show c + p + s - (c + p) = s by omega, show 4 * (c + p + s) - (4 * c + 4 * p) = 4 * s by omega, qjm_ _ _ _ _ (Nat.le_refl _), show 4 * b + (4 * c + 4 * p) = 4 * (b + (c + p)) by omega]
  exact qea_ zs N (b + (c + p)) s hN (by omega) hs
 rw [h1, h2, h3]
theorem qlv_ (A : Option Addr) (k c0 c p : Nat) (cs : List Int) (w : World) (hl : cs.length = k) (hs : Cel w w.heap.size A k (u32s cs)) (hz : ∀ z ∈ cs, 0 <= z /\ z <= 4294967295) (hck : c + p <= k) (hc2 : c <= 2) (hp2 : p <= 2) (hks : k - (c + p) <= 2) (hkc : k <= c0) (hc0 : c0 <= 9223372036854775807) :
  Calls Tryz.prog 115 #[.slice A k c0, .int .i64 c, .int .i64 p] w fun e w' => e = .returned (.agg #[.int .u64 (wideV (cs.take c)), .int .u64 (wideV ((cs.drop c).take p)), .int .u64 (wideV (cs.drop (c + p)))]) /\ Below w.heap.size w w' := by
 obtain ⟨W0, hW0⟩ : ∃ W0, W0 = w.alloc (.cells #[.int .u64 0, .int .u64 0, .int .u64 0] 171) := ⟨_, rfl⟩
 have hb0 : Below w.heap.size w W0 := by rw [hW0]; exact (Below.refl w.heap.size w).alloc (Nat.le_refl _) _
 have hs0 : Cel W0 W0.heap.size A k (u32s cs) := hs.on hb0
 obtain ⟨x, hx⟩ : ∃ x, wideV (cs.take c) = x := ⟨_, rfl⟩
 obtain ⟨y, hy⟩ : ∃ y, wideV ((cs.drop c).take p) = y := ⟨_, rfl⟩
 obtain ⟨z, hzz⟩ : ∃ z, wideV (cs.drop (c + p)) = z := ⟨_, rfl⟩
 obtain ⟨q, hq⟩ : ∃ q, c + p = q := ⟨_, rfl⟩
 rw [hq] at hck hks hzz
 have hqp : q - c = p := by omega
 have C1 : Calls Tryz.prog 146 #[.slice A c c0] W0 fun e w' => e = .returned (.tuple #[.int .u64 x, .int .i64 0]) /\ w' = W0 := by
  have h := qf2_ A c c0 (cs.take c) W0 (by rw [List.length_take, hl]; omega) (by rw [qel_]; exact hs0.upto (by omega)) (fun z h => hz z (List.mem_of_mem_take h)) (by omega) (by omega) hc0
  rwa [if_pos hc2, if_pos hc2, hx] at h
 have C2 : Calls Tryz.prog 146 #[.slice (cutAt A c0 c) p (c0 - c)] W0 fun e w' => e = .returned (.tuple #[.int .u64 y, .int .i64 0]) /\ w' = W0 := by
  have h := qf2_ (cutAt A c0 c) p (c0 - c) ((cs.drop c).take p) W0 (by rw [List.length_take, List.length_drop, hl]; omega) (by rw [qel_, qee_]; exact (hs0.from_ (by omega) hkc).upto (by omega)) (fun z h => hz z (List.mem_of_mem_drop (List.mem_of_mem_take h))) (by omega) (by omega) (by omega)
  rwa [if_pos hp2, if_pos hp2, hy] at h
 have C3 : Calls Tryz.prog 146 #[.slice (cutAt A c0 q) (k - q) (c0 - q)] W0 fun e w' => e = .returned (.tuple #[.int .u64 z, .int .i64 0]) /\ w' = W0 := by
  have h := qf2_ (cutAt A c0 q) (k - q) (c0 - q) (cs.drop q) W0 (by rw [List.length_drop, hl]) (by rw [qee_]; exact hs0.from_ hck hkc) (fun z h => hz z (List.mem_of_mem_drop h)) (by omega) (by omega) (by omega)
  rwa [if_pos hks, if_pos hks, hzz] at h
 rw [hx, hy, hq, hzz]
 have R1 : ∀ W : World, (Instr.slice 87 (.slice A k c0) none (some (.int .i64 (c : Int))) none).run Tryz.prog W = .ok (.slice A c c0) W := fun W => qkm_ Tryz.underlying87 qev_ A k c0 _ c rfl (by omega) W
 have R2 : ∀ W : World, (Instr.slice 87 (.slice A k c0) (some (.int .i64 (c : Int))) (some (.int .i64 (q : Int))) none).run Tryz.prog W = .ok (.slice (cutAt A c0 c) p (c0 - c)) W := fun W => by
  have h := run_cut Tryz.underlying87 qev_ A k c0 (c : Int) (q : Int) c q rfl rfl (by omega) (by omega) W
  rwa [hqp] at h
 have R3 : ∀ W : World, (Instr.slice 87 (.slice A k c0) (some (.int .i64 (q : Int))) none none).run Tryz.prog W = .ok (.slice (cutAt A c0 q) (k - q) (c0 - q)) W := fun W => qe9_ Tryz.underlying87 qev_ A k c0 _ q rfl hck W
 have e1 : IntKind.i64.wrap ((c : Int) + (p : Int)) = (q : Int) := by rw [IntWalk.i64_in _ (by omega)]; omega
 rw [hW0] at C1 C2 C3
 have C1 := Lib.hid C1
 have C2 := Lib.hid C2
 have C3 := Lib.hid C3
 have HB : Hid (Below w.heap.size w (w.alloc (.cells #[.int .u64 x, .int .u64 y, .int .u64 z] 171))) := Lib.hid ((Below.refl w.heap.size w).alloc (Nat.le_refl _) _)
 clear hW0 hb0 hs0 hs hz hl hx hy hzz hq hqp
 go_enter Tryz.func115, Tryz.ntmps115
 go_wp2_with fail
 refine C1.out.mono ?_
 rintro e w1 ⟨rfl, rfl⟩
 clear C1 R1
 go_wp2_with fail
 refine C2.out.mono ?_
 rintro e w1 ⟨rfl, rfl⟩
 clear C2 R2
 go_wp2_with fail
 refine C3.out.mono ?_
 rintro e w1 ⟨rfl, rfl⟩
 clear C3 R3
 go_wp2_with fail
 have d0 : (w.alloc (.cells #[.int .u64 x, .int .u64 y, .int .u64 z] 171)).cell? ⟨w.heap.size, 0, none⟩ = some (.int .u64 x) := World.cell?_alloc_new _ _ _ _
 have d1 : (w.alloc (.cells #[.int .u64 x, .int .u64 y, .int .u64 z] 171)).cell? ⟨w.heap.size, 1, none⟩ = some (.int .u64 y) := World.cell?_alloc_new _ _ _ _
 have d2 : (w.alloc (.cells #[.int .u64 x, .int .u64 y, .int .u64 z] 171)).cell? ⟨w.heap.size, 2, none⟩ = some (.int .u64 z) := World.cell?_alloc_new _ _ _ _
 refine bodyPost_ret (v := .agg #[.int .u64 x, .int .u64 y, .int .u64 z]) (by simp [results, Tryz.results115, go_sem, d0, d1, d2]; try rfl) rfl ?_
 exact ⟨rfl, HB.out⟩
def qiq_ (v : Int) : Value := if 0 <= v then .tuple #[.int .i64 v, .int .i64 0] else .tuple #[.int .i64 0, .int .i64 10]
theorem cnt_any (n : Nd) (s : ByteArray) (d : Int) (w : World) (hin : n.In w w.heap.size) (hs : s.size <= 140737488351232) (hd : 0 <= d) :
  Calls Tryz.prog 144 #[n.val, .string s, .int .i64 d] w fun e w' => e = .returned (qiq_ (cntV n s d)) /\ Below w.heap.size w w' := by
 have C := Lib.hid (fun W hW => oneOK n s W hW hs)
 have hb := qin_ hin s
 have HV : Hid (cntV n s d = if (oneV n s).2.2 ≠ 0 \/ 2 < (oneV n s).1 then -1 else if (oneV n s).2.1 = false then d else (oneV n s).1) := Lib.hid rfl
 have HI := Lib.hid hin
 have HD := Lib.hid hd
 obtain ⟨O, hO⟩ : ∃ O, oneV n s = O := ⟨_, rfl⟩
 rw [hO] at C hb HV
 obtain ⟨v, ok, E⟩ := O
 obtain ⟨r, hr⟩ : ∃ r, qiq_ (cntV n s d) = r := ⟨_, rfl⟩
 have HRR := Lib.hid hr
 rw [hr]
 obtain ⟨v0, v1⟩ : 0 <= v /\ v <= 4294967295 := hb
 replace HV : Hid (cntV n s d = if E ≠ 0 \/ 2 < v then -1 else if ok = false then d else v) := HV
 clear hin hs hd hO hr
 obtain ⟨nm, pa, pc, ps, ka, kc, ks⟩ := n
 simp only [Nd.val, Nd.pv, Nd.kv, Nd.name, Nd.pa, Nd.pc, Nd.props, Nd.ka, Nd.kc, Nd.kids, qfz_] at C ⊢
 have HB := Lib.hid ((Below.refl w.heap.size w).alloc (Nat.le_refl _) (.cells #[Value.string nm, .slice pa ps.length pc, .slice ka ks.length kc] 27))
 by_cases hE : E = 0
 ·subst hE
  by_cases hv : 2 < v
  ·have q1 : decide ((2 : Int) < v) = true := decide_eq_true hv
   have HR : Hid (r = .tuple #[.int .i64 0, .int .i64 10]) := Lib.hid (by rw [<- HRR.out, HV.out, if_pos (.inr hv)]; rfl)
   clear hv
   go_enter Tryz.func144, Tryz.ntmps144
   go_wp2_with fail
   refine (C.out _ (Nd.In.more HB.out.size (HI.out.under HB.out))).mono ?_
   rintro e w1 ⟨rfl, hb⟩
   have HB1 := Lib.hid (HB.out.trans (hb.mono HB.out.size))
   clear hb
   go_wp2
   go_ret2
   exact ⟨by rw [HR.out]; rfl, HB1.out⟩
  ·have q1 : decide ((2 : Int) < v) = false := decide_eq_false hv
   cases ok
   ·have HR : Hid (r = .tuple #[.int .i64 d, .int .i64 0]) := Lib.hid (by rw [<- HRR.out, HV.out, if_neg (by simp; omega), if_pos rfl, qiq_, if_pos HD.out])
    clear hv
    go_enter Tryz.func144, Tryz.ntmps144
    go_wp2_with fail
    refine (C.out _ (Nd.In.more HB.out.size (HI.out.under HB.out))).mono ?_
    rintro e w1 ⟨rfl, hb⟩
    have HB1 := Lib.hid (HB.out.trans (hb.mono HB.out.size))
    clear hb
    go_wp2
    go_ret2
    exact ⟨by rw [HR.out]; rfl, HB1.out⟩
   ·have HR : Hid (r = .tuple #[.int .i64 v, .int .i64 0]) := Lib.hid (by rw [<- HRR.out, HV.out, if_neg (by simp; omega), if_neg (by simp), qiq_, if_pos v0])
    have hcv : IntKind.i64.wrap v = v := by rw [IntKind.wrap_i64]; omega
    clear hv
    go_enter Tryz.func144, Tryz.ntmps144
    go_wp2_with fail
    refine (C.out _ (Nd.In.more HB.out.size (HI.out.under HB.out))).mono ?_
    rintro e w1 ⟨rfl, hb⟩
    have HB1 := Lib.hid (HB.out.trans (hb.mono HB.out.size))
    clear hb
    go_wp2
    go_ret2
    exact ⟨by rw [HR.out]; rfl, HB1.out⟩
 ·have q0 : (E != 0) = true := by rw [bne_iff_ne]; exact hE
  have HR : Hid (r = .tuple #[.int .i64 0, .int .i64 10]) := Lib.hid (by rw [<- HRR.out, HV.out, if_pos (.inl hE)]; rfl)
  clear hE
  go_enter Tryz.func144, Tryz.ntmps144
  go_wp2_with fail
  refine (C.out _ (Nd.In.more HB.out.size (HI.out.under HB.out))).mono ?_
  rintro e w1 ⟨rfl, hb⟩
  have HB1 := Lib.hid (HB.out.trans (hb.mono HB.out.size))
  clear hb
  go_wp2
  go_ret2
  exact ⟨by rw [HR.out]; rfl, HB1.out⟩
theorem qkk_ : CountsOK := by
 intro n w hin
 have CA := Lib.hid (fun W hW => cnt_any n qav_ 2 W hW (by decide) (by decide))
 have CS := Lib.hid (fun W hW => cnt_any n qbe_ 1 W hW (by decide) (by decide))
 have HI := Lib.hid hin
 have HOK : Hid (qe3_ n = (decide (0 <= cntV n qav_ 2) && decide (0 <= cntV n qbe_ 1))) := Lib.hid rfl
 obtain ⟨ok, hok⟩ : ∃ ok, qe3_ n = ok := ⟨_, rfl⟩
 rw [hok] at HOK ⊢
 obtain ⟨va, hva⟩ : ∃ v, cntV n qav_ 2 = v := ⟨_, rfl⟩
 obtain ⟨vs, hvs⟩ : ∃ v, cntV n qbe_ 1 = v := ⟨_, rfl⟩
 rw [hva] at CA HOK ⊢
 rw [hvs] at CS HOK ⊢
 clear hin hva hvs hok
 obtain ⟨nm, pa, pc, ps, ka, kc, ks⟩ := n
 simp only [Nd.val, Nd.pv, Nd.kv, Nd.name, Nd.pa, Nd.pc, Nd.props, Nd.ka, Nd.kc, Nd.kids, qav_, qbe_] at CA CS ⊢
 have HB := Lib.hid ((Below.refl w.heap.size w).alloc (Nat.le_refl _) (.cells #[Value.string nm, .slice pa ps.length pc, .slice ka ks.length kc] 27))
 have BX : Hid (∀ W, Below (w.heap.size + 1) (w.alloc (.cells #[Value.string nm, .slice pa ps.length pc, .slice ka ks.length kc] 27)) W -> (W.cell? ⟨w.heap.size, 0, none⟩ = some (.string nm) /\ W.cell? ⟨w.heap.size, 1, none⟩ = some (.slice pa ps.length pc) /\ W.cell? ⟨w.heap.size, 2, none⟩ = some (.slice ka ks.length kc))) := Lib.hid (fun W h =>
  ⟨(h.cell (Nat.lt_succ_self _)).trans (World.cell?_alloc_new _ _ _ _), (h.cell (Nat.lt_succ_self _)).trans (World.cell?_alloc_new _ _ _ _), (h.cell (Nat.lt_succ_self _)).trans (World.cell?_alloc_new _ _ _ _)⟩)
 have IN := Lib.hid (fun W (h : Below w.heap.size w W) => Nd.In.more h.size (HI.out.under h))
 by_cases ha : 0 <= va
 ·have EA : qiq_ va = .tuple #[.int .i64 va, .int .i64 0] := if_pos ha
  rw [EA] at CA
  have HOK2 : Hid (ok = decide (0 <= vs)) := Lib.hid (by rw [HOK.out, decide_eq_true ha, Bool.true_and])
  clear EA ha HOK
  go_enter Tryz.func113, Tryz.ntmps113
  go_wp2_with fail
  refine (CA.out _ (IN.out _ HB.out)).mono ?_
  rintro e w1 ⟨rfl, hb⟩
  have HB1 := Lib.hid (HB.out.trans (hb.mono HB.out.size))
  obtain ⟨d0, d1, d2⟩ := BX.out _ (hb.mono (by simp))
  clear hb CA
  by_cases hs : 0 <= vs
  ·have ES : qiq_ vs = .tuple #[.int .i64 vs, .int .i64 0] := if_pos hs
   rw [ES] at CS
   have HOK3 : Hid (ok = true) := Lib.hid (by rw [HOK2.out, decide_eq_true hs])
   clear ES hs HOK2
   go_wp2_with fail
   refine (CS.out _ (IN.out _ HB1.out)).mono ?_
   rintro e w2 ⟨rfl, hb⟩
   have HB2 := Lib.hid (HB1.out.trans (hb.mono HB1.out.size))
   clear hb CS d0 d1 d2
   go_wp2
   go_ret3
   exact ⟨fun _ => rfl, fun h => (by rw [HOK3.out] at h; cases h), HB2.out⟩
  ·have ES : qiq_ vs = .tuple #[.int .i64 0, .int .i64 10] := if_neg hs
   rw [ES] at CS
   have HOK3 : Hid (ok = false) := Lib.hid (by rw [HOK2.out, decide_eq_false hs])
   clear ES hs HOK2
   go_wp2_with fail
   refine (CS.out _ (IN.out _ HB1.out)).mono ?_
   rintro e w2 ⟨rfl, hb⟩
   have HB2 := Lib.hid (HB1.out.trans (hb.mono HB1.out.size))
   clear hb CS d0 d1 d2
   go_wp2
   go_ret3
   exact ⟨fun h => (by rw [HOK3.out] at h; cases h), fun _ => rfl, HB2.out⟩
 ·have EA : qiq_ va = .tuple #[.int .i64 0, .int .i64 10] := if_neg ha
  rw [EA] at CA
  have HOK3 : Hid (ok = false) := Lib.hid (by rw [HOK.out, decide_eq_false ha, Bool.false_and])
  clear EA ha HOK
  go_enter Tryz.func113, Tryz.ntmps113
  go_wp2_with fail
  refine (CA.out _ (IN.out _ HB.out)).mono ?_
  rintro e w1 ⟨rfl, hb⟩
  have HB1 := Lib.hid (HB.out.trans (hb.mono HB.out.size))
  clear hb CA
  go_wp2
  go_ret3
  exact ⟨fun h => (by rw [HOK3.out] at h; cases h), fun _ => rfl, HB1.out⟩
def winUp (U : Int -> Int -> Option Int) : List (Int × Int) -> List (Int × Int) -> Bool × List (Int × Int)
 | acc, [] => (true, acc)
 | acc, x :: r => match U x.1 x.2 with
  | none => (false, [])
  | some b => winUp U (acc ++ [(b, x.2)]) r
def winsV (root : Nd) (z : List Int) (n : Nat) : Bool × List (Int × Int) :=
 if (regV ((nodeZ root (z.take (n - 1))).getD ndZ) ((nodeZ root (z.take n)).getD ndZ)).1 = false then (false, [])
 else winUp (fun a s => upV root (z.take (n - 1)) s (n - 1) a) [] (regV ((nodeZ root (z.take (n - 1))).getD ndZ) ((nodeZ root (z.take n)).getD ndZ)).2
theorem wins_64 {zs : List Int} (h : ∀ z ∈ zs, 0 <= z /\ z < 256) {p q m : Nat} (hp : p <= 8) (hq : q <= 8) : ∀ x ∈ wins zs p q m, U64 x.1 /\ U64 x.2 := by
 intro x hx
 obtain ⟨j, _, rfl⟩ := List.mem_map.1 hx
 exact ⟨qbq_ _ 0 _ (qfv_ fun z hz => h z (List.mem_of_mem_drop (List.mem_of_mem_take hz))) hp, qbq_ _ 0 _ (qfv_ fun z hz => h z (List.mem_of_mem_drop (List.mem_of_mem_take hz))) hq⟩
theorem qny_ {w : World} {B : Nat} {parent n : Nd} (hpn : parent.In w B) (hin : n.In w B) : ∀ x ∈ (regV parent n).2, U64 x.1 /\ U64 x.2 := by
 have hc := qdw_ hpn qav_ 2 (by omega)
 have hs := qdw_ hpn qbe_ 1 (by omega)
 unfold regV
 split
 ·intro r hr; cases hr
 ·rename_i x hx
  have hb := (hin.prop (List.mem_of_find?_eq_some hx)).2.1.2.1
  split
  ·intro r hr; cases hr
  ·exact wins_64 hb (by omega) (by omega)
theorem qn5_ {parent n : Nd} : (regV parent n).2.length <= heftN n := by
 unfold regV
 split
 ·exact Nat.zero_le _
 ·rename_i x hx
  split
  ·exact Nat.zero_le _
  ·rw [qmo_]
   obtain ⟨k, hk, rfl⟩ := List.getElem_of_mem (List.mem_of_find?_eq_some hx)
   exact Nat.le_trans (Nat.div_le_self _ _) (qc0_ hk)
def XRangesOK : Prop := ∀ (parent n : Nd) (w : World), parent.In w w.heap.size -> n.In w w.heap.size -> heftN parent <= 1073741824 -> heftN n <= 1073741824 -> Calls Tryz.prog 73 #[parent.val, n.val] w fun e w' =>
 ((qap_ parent n).2.1 = true -> ∃ A m c, e = .returned (.tuple #[.slice A m c, .bool (qap_ parent n).1, .int .i64 0]) /\ Cel3 w' w'.heap.size A m ((qap_ parent n).2.2.map rngV) /\ m <= c /\ c <= 9223372036854775807) /\ ((qap_ parent n).2.1 = false -> ∃ A c, e = .returned (.tuple #[.slice A 0 c, .bool false, .int .i64 10]) /\ c <= 9223372036854775807) /\ Below w.heap.size w w'
def qpk_ : Prop := ∀ (t : Tr) (z : List Int) (A : Option Addr) (n c : Nat) (w : World), t.In w w.heap.size -> Cel w w.heap.size A n (intsZ z) -> n <= c -> c <= 9223372036854775807 -> heftN t.root <= 134217728 -> n <= 40 -> qb5_ t = 0 -> Calls Tryz.prog 76 #[t.val, .slice A n c] w fun e w' =>
 (nodeZ t.root z = none -> ∃ A c, e = .returned (.tuple #[.slice A 0 c, .int .i64 8]) /\ c <= 9223372036854775807) /\ ((∃ y, nodeZ t.root z = some y) -> (n = 0 -> ∃ A c, e = .returned (.tuple #[.slice A 0 c, .int .i64 1]) /\ c <= 9223372036854775807) /\ (0 < n -> ((winsV t.root z n).1 = false -> ∃ A c, ∃ er : Int, e = .returned (.tuple #[.slice A 0 c, .int .i64 er]) /\ c <= 9223372036854775807 /\ (er = 12 \/ er = 10)) /\ ((winsV t.root z n).1 = true -> ∃ A m c, e = .returned (.tuple #[.slice A m c, .int .i64 0]) /\ Cel2 w' w'.heap.size A m ((winsV t.root z n).2.map winV) /\ m <= c /\ c <= 9223372036854775807))) /\ Below w.heap.size w w'
end Go.Proofs.YtcfinbapfhhpgaaGreatDoor
