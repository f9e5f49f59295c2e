/-
  What a value says: cells, a text, texts, the one cell of a property: the document's answers.
-/
import Derived.Test.YthlaoidlhbjaiaaQRef
import Derived.Test.YthlaoidlhbjaiaaQRow
import Derived.Test.YthlaoidlhbjaiaaTFind
namespace Go.Proofs.Ythlaoidlhbjaiaa
open Go.RowKit
set_option linter.unusedVariables false
set_option linter.unusedSimpArgs false

theorem info_u32 : (Try.prog.info? 33).map (fun i => (i.zero, i.size, i.bytes)) = some (some (.int .u32 0), 1, 4) := by kernel_rfl
theorem info_str : (Try.prog.info? 9).map (fun i => (i.zero, i.size, i.bytes)) = some (some (.string ⟨#[]⟩), 1, 16) := by kernel_rfl

/-- append of one value, laid by the call itself. -/
theorem app_lit {t e : TypeId} {i0 : TypeInfo} {z : Value} {bytes : Nat} (ht : Try.prog.underlying t = some (.slice e)) (hi : Try.prog.info? e = some i0) (hz : i0.zero = some z) (hs1 : i0.size = 1) (hby : i0.bytes = bytes) (hzs : z.cells.size = 1)
    {w : World} {B n : Nat} {v : Value} {xs : List Value} (h : w.ownsRow B e 1 v n xs) (x : Value) (hx : x.oneCell' = true) (hbig : (n + 1) * bytes ≤ 140737488355328) (hlen : n + 1 ≤ 140737488355328) (hB : B ≤ w.heap.size) (ty : TypeId) :
    ∃ A' c' w', (Builtin.append_ #[t, t] ty #[v, .slice (some ⟨w.heap.size, 0, none⟩) 1 1]).run Try.prog (w.alloc (.cells #[x] e)) = .ok (.slice A' (n + 1) c') w' ∧ w'.ownsRow B e 1 (.slice A' (n + 1) c') (n + 1) (xs ++ [x]) ∧ Below B w w' := by
  have hl : xs.length = n := by have := h.1; omega
  have h1 : (w.alloc (.cells #[x] e)).ownsRow B e 1 v xs.length xs := by rw [hl]; exact h.alloc _
  have hc : Cel (w.alloc (.cells #[x] e)) (w.heap.size + 1) (some ⟨w.heap.size, 0, none⟩) 1 [x] := ⟨rfl, fun _ => ⟨w.heap.size, 0, rfl, Nat.lt_succ_self _, fun i hi => by
    obtain rfl : i = 0 := by omega
    exact World.cell?_alloc_new _ _ _ _⟩⟩
  obtain ⟨v', w', r, g1, g2, g3⟩ := app_cel ht hi hz hs1 hby hzs 1 h1 hc (fun u hu => by rw [List.mem_singleton.1 hu]; exact hx) (by rw [hl]; simpa using hbig) (by rw [hl]; simpa using hlen) (by simp; omega) ty
  rw [List.length_append, hl] at g1
  have g1' : w'.ownsRow B e 1 v' (n + 1) (xs ++ [x]) := g1
  obtain ⟨A', c', rfl, _⟩ := owned_cel g1'
  exact ⟨A', c', w', r, g1', ((Below.refl B w).alloc hB (.cells #[x] e)).grown g2 (by simp; omega) (fun q hq => (h1.lt q hq).1)⟩

/-- The cells of a value. -/
def cellV (zs : List Int) (i : Nat) : Value := .int .u32 (numTo zs (4 * i) 4)
def cellRow (zs : List Int) (k : Nat) : List Value := (List.range k).map (cellV zs)
theorem cellRow_next (zs : List Int) (k : Nat) : cellRow zs (k + 1) = cellRow zs k ++ [cellV zs k] := by
  unfold cellRow; rw [List.range_succ, List.map_append]; rfl
def CellsOut (w w' : World) (n : Nat) (zs : List Int) (e : Ending) : Prop :=
  (n % 4 ≠ 0 → e = .returned (.tuple #[.slice none 0 0, .int .i64 4])) ∧ (n % 4 = 0 → ∃ A c, e = .returned (.tuple #[.slice A (n / 4) c, .int .i64 0]) ∧ w'.ownsRow w.heap.size 33 1 (.slice A (n / 4) c) (n / 4) (cellRow zs (n / 4)))

theorem numTo_u32 {w : World} {B n : Nat} {A : Option Addr} {zs : List Int} (hs : Shows w B A n zs) (a : Nat) : 0 ≤ numTo zs a 4 ∧ numTo zs a 4 ≤ 4294967295 := by
  have h := numTo_bound zs a hs.byte 4
  have e : (256 : Int) ^ 4 = 4294967296 := by decide
  omega

set_option maxRecDepth 20000 in
set_option maxHeartbeats 4000000 in
theorem refcells_any (A : Option Addr) (n c : Nat) (zs : List Int) (w : World) (hs : Shows w w.heap.size A n zs) (hn : n ≤ 140737488351232) (hnc : n ≤ c) (hc : c ≤ 9223372036854775807) :
    Calls Try.prog 9 #[.slice A n c] w fun e w' => CellsOut w w' n zs e ∧ Below w.heap.size w w' := by
  have HS := Lib.hid hs
  have HC := Lib.hid (And.intro hnc hc)
  clear hs hnc hc
  by_cases h4 : n % 4 = 0
  · have q1 : (((n : Int) % 4) != 0) = false := by rw [bne_eq_false_iff_eq]; omega
    have H4 := Lib.hid h4
    have info := info_any info_u32
    clear h4
    go_enter Try.func9, Try.ntmps9
    go_wp2_with fail
    go_loopw [4, 5] (fun out i wr => ∃ k a : Nat, Hid (a = 4 * k ∧ a ≤ n) ∧ i = .int .i64 a ∧ (∃ Ao co, out = .slice Ao k co ∧ wr.ownsRow w.heap.size 33 1 (.slice Ao k co) k (cellRow zs k)) ∧ Below w.heap.size w wr) (fun _ i _ => n - (intOf i).toNat)
    case atStart => exact ⟨0, 0, Lib.hid ⟨rfl, Nat.zero_le _⟩, rfl, ⟨none, 0, rfl, World.ownsRow_nil _ _ _ _⟩, Below.refl _ _⟩
    case round =>
      obtain ⟨k, a, HA, rfl, ⟨Ao, co, rfl, hown⟩, hb⟩ := hrel
      have HB := Lib.hid hb
      have HO := Lib.hid hown
      by_cases hlt : a < n
      · have ha4 : a + 4 ≤ n := by have := HA.out; have := H4.out; omega
        have CN := Lib.hid (number_yes A n c 4 a zs wr w.heap.size (HS.out.below hb) ha4 (by omega) (by omega) (by omega))
        have hnum := numTo_u32 HS.out a
        obtain ⟨x, hx⟩ : ∃ x, numTo zs a 4 = x := ⟨_, rfl⟩
        rw [hx] at CN hnum
        have HX : Hid (cellV zs k = .int .u32 x) := Lib.hid (by rw [← hx, cellV, ← HA.out.1])
        have hcv : IntKind.u32.wrap x = x := IntWalk.u32_in _ hnum
        obtain ⟨i0, hi, hz, hs1, hby⟩ := info
        obtain ⟨A', c', w', r, g1, g2⟩ := app_lit Try.underlying24 hi hz hs1 hby rfl hown (.int .u32 x) rfl (by have := HA.out; omega) (by have := HA.out; omega) hb.size 24
        have HR := Lib.hid (And.intro g1 (hb.trans g2))
        clear hx hi hz hs1 hby g1 g2 hown hb
        go_wp2_with fail
        refine CN.out.mono ?_
        rintro e w2 ⟨rfl, rfl⟩
        go_wp2_with (at_builtin; refine Lib.wpList_append_run_sl _ rfl _ _ _ rfl _ _ rfl rfl r ?_)
        go_roundw
        case rel => exact ⟨k + 1, a + 4, Lib.hid ⟨by have := HA.out; omega, ha4⟩, by go_num, ⟨A', c', rfl, by rw [cellRow_next, HX.out]; exact HR.out.1⟩, HR.out.2⟩
        case measure => simp [intOf]; omega
      · have HE : Hid (k = n / 4) := Lib.hid (by have := HA.out; omega)
        clear hown hb
        go_wp2
        go_ret2
        exact ⟨⟨fun h => absurd H4.out h, fun _ => ⟨Ao, co, by rw [← HE.out]; rfl, by rw [← HE.out]; exact HO.out⟩⟩, HB.out⟩
  · have q1 : (((n : Int) % 4) != 0) = true := by rw [bne_iff_ne]; omega
    have H4 := Lib.hid h4
    clear h4
    go_enter Try.func9, Try.ntmps9
    go_wp2
    go_ret2
    exact ⟨⟨fun _ => rfl, fun h => absurd h H4.out⟩, Below.refl _ _⟩

/-- The text that a value is. -/
noncomputable def textV (zs : List Int) : Option (List Int) := match textFrom zs 0 with
  | none => none
  | some s => if s.length + 1 = zs.length then some s else none
def TextVOut (e : Ending) (o : Option (List Int)) : Prop := e = .returned (.tuple (match o with | none => #[.string ⟨#[]⟩, .int .i64 4] | some s => #[.string (strOfNums s), .int .i64 0]))
theorem strOf_size6 (s : List Int) : (strOfNums s).size = s.length := by
  show (strOfNums s).data.toList.length = s.length
  rw [strOfNums_data, List.length_map]

set_option maxHeartbeats 2000000 in
theorem reftextV_any (A : Option Addr) (n c : Nat) (zs : List Int) (w : World) (B : Nat) (hs : Shows w B A n zs) (hn : n ≤ 140737488351232) (hnc : n ≤ c) (hc : c ≤ 9223372036854775807) :
    Calls Try.prog 11 #[.slice A n c] w fun e w' => TextVOut e (textV zs) ∧ w = w' := by
  have hl := hs.1
  have C := reftext_any A n c 0 zs w B hs hn hnc hc (by omega)
  have HV : Hid (textV zs = match textFrom zs 0 with | none => none | some s => if s.length + 1 = zs.length then some s else none) := Lib.hid rfl
  obtain ⟨o, ho⟩ : ∃ o, textFrom zs 0 = o := ⟨_, rfl⟩
  rw [ho] at C HV
  have HO := Lib.hid ho
  have HL := Lib.hid hl
  clear hs hl ho
  rcases o with _ | s
  · have HC := Lib.hid (show Calls _ _ _ w fun e w' => e = .returned (.tuple #[.string ByteArray.empty, .bool false]) ∧ w = w' from C)
    clear C
    go_enter Try.func11, Try.ntmps11
    go_wp2_with fail
    refine HC.out.mono ?_
    rintro e w2 ⟨rfl, rfl⟩
    go_wp2
    go_ret2
    exact ⟨by rw [HV.out]; rfl, rfl⟩
  · have HC := Lib.hid (show Calls _ _ _ w fun e w' => e = .returned (.tuple #[.string (strOfNums s), .bool true]) ∧ w = w' from C)
    obtain ⟨x, hx⟩ : ∃ x, strOfNums s = x := ⟨_, rfl⟩
    have hsz : x.size = s.length := by rw [← hx]; exact strOf_size6 s
    have HX := Lib.hid hx
    have hb := textFrom_len HO.out
    rw [hx] at HC
    obtain ⟨m, hm⟩ : ∃ m, x.size = m := ⟨_, rfl⟩
    have HM := Lib.hid (hm.symm.trans hsz)
    clear C hx hsz
    by_cases he : m + 1 = n
    · have k1 : ((m : Int) != (n : Int) - 1) = false := by rw [bne_eq_false_iff_eq]; omega
      have HE : Hid (textV zs = some s) := Lib.hid (by rw [HV.out]; exact if_pos (by rw [HL.out, ← HM.out]; exact he))
      clear he hb
      go_enter Try.func11, Try.ntmps11
      go_wp2_with fail
      refine HC.out.mono ?_
      rintro e w2 ⟨rfl, rfl⟩
      go_wp2
      go_ret2
      exact ⟨by rw [HE.out, ← HX.out]; rfl, rfl⟩
    · have k1 : ((m : Int) != (n : Int) - 1) = true := by rw [bne_iff_ne]; omega
      have HE : Hid (textV zs = none) := Lib.hid (by rw [HV.out]; exact if_neg (by rw [HL.out, ← HM.out]; exact he))
      clear he hb
      go_enter Try.func11, Try.ntmps11
      go_wp2_with fail
      refine HC.out.mono ?_
      rintro e w2 ⟨rfl, rfl⟩
      go_wp2
      go_ret2
      exact ⟨by rw [HE.out]; rfl, rfl⟩

/-! ### Texts -/
noncomputable def textsGo (zs : List Int) : Nat → Nat → List (List Int)
  | 0, _ => []
  | f + 1, a => if a < zs.length then (match textFrom zs a with | none => [] | some s => s :: textsGo zs f (a + s.length + 1)) else []
/-- The texts that a value is. -/
noncomputable def textsV (zs : List Int) : Option (List (List Int)) := if 0 < zs.length ∧ zs.getD (zs.length - 1) 0 ≠ 0 then none else some (textsGo zs zs.length 0)
abbrev strRow (l : List (List Int)) : List Value := l.map fun s => Value.string (strOfNums s)
def TextsOut (w w' : World) (zs : List Int) (e : Ending) : Prop :=
  (textsV zs = none → e = .returned (.tuple #[.slice none 0 0, .int .i64 4])) ∧ (∀ l, textsV zs = some l → ∃ A c, e = .returned (.tuple #[.slice A l.length c, .int .i64 0]) ∧ w'.ownsRow w.heap.size 9 1 (.slice A l.length c) l.length (strRow l))
theorem text_there {zs : List Int} {a : Nat} (h : zs.getD (zs.length - 1) 0 = 0) (ha : a < zs.length) : ∃ s, textFrom zs a = some s := by
  rw [textFrom, if_pos]
  · exact ⟨_, rfl⟩
  · refine List.mem_of_getElem? (i := zs.length - 1 - a) ?_
    rw [List.getElem?_drop, show a + (zs.length - 1 - a) = zs.length - 1 by omega, List.getElem?_eq_getElem (by omega)]
    simp only [List.getD, List.getElem?_eq_getElem (show zs.length - 1 < zs.length by omega), Option.getD_some] at h
    rw [h]

set_option maxRecDepth 20000 in
set_option maxHeartbeats 4000000 in
theorem reftexts_any (A : Option Addr) (n c : Nat) (zs : List Int) (w : World) (hs : Shows w w.heap.size A n zs) (hn : n ≤ 1099511627776) (hnc : n ≤ c) (hc : c ≤ 9223372036854775807) :
    Calls Try.prog 13 #[.slice A n c] w fun e w' => TextsOut w w' zs e ∧ Below w.heap.size w w' := by
  have HS := Lib.hid hs
  have HC := Lib.hid (And.intro hnc hc)
  have HL := Lib.hid hs.1
  by_cases hbad : 0 < n ∧ zs.getD (n - 1) 0 ≠ 0
  · obtain ⟨h0, hlast⟩ := hbad
    obtain ⟨b, o, rfl, _, hcell⟩ := hs.at_ h0
    have hc1 := hcell (n - 1) (by omega)
    obtain ⟨x, hx⟩ : ∃ x, zs.getD (n - 1) 0 = x := ⟨_, rfl⟩
    have HE : Hid (textsV zs = none) := Lib.hid (by rw [textsV, HL.out]; exact if_pos ⟨h0, hlast⟩)
    rw [hx] at hc1 hlast
    obtain ⟨m, rfl⟩ : ∃ m, n = m + 1 := ⟨n - 1, by omega⟩
    have e1 : ((m + 1 : Nat) : Int) - 1 = (m : Int) := by omega
    rw [show m + 1 - 1 = m from rfl] at hc1
    have k1 : (x != 0) = true := by rw [bne_iff_ne]; exact hlast
    clear hcell hx hlast hs
    go_enter Try.func13, Try.ntmps13
    go_wp2
    go_ret2
    exact ⟨⟨fun _ => rfl, fun l h => by rw [HE.out] at h; cases h⟩, Below.refl _ _⟩
  · have HT : Hid (textsV zs = some (textsGo zs n 0)) := Lib.hid (by rw [textsV, HL.out]; exact if_neg hbad)
    have HZ : Hid (0 < n → zs.getD (n - 1) 0 = 0) := Lib.hid (fun h0 => Classical.byContradiction fun h => hbad ⟨h0, h⟩)
    have info := info_any info_str
    clear hs hbad
    have main : ∀ (Kc : Unit), Calls Try.prog 13 #[.slice A n c] w fun e w' => TextsOut w w' zs e ∧ Below w.heap.size w w' := by
      intro _
      rcases Nat.eq_zero_or_pos n with h0 | h0
      · subst h0
        go_enter Try.func13, Try.ntmps13
        go_wp2_with fail
        go_loopw [4, 5] (fun out i wr => out = .slice none 0 0 ∧ i = .int .i64 0 ∧ wr = w) (fun _ i _ => 0)
        case atStart => exact ⟨rfl, rfl, rfl⟩
        case round =>
          obtain ⟨rfl, rfl, rfl⟩ := hrel
          go_wp2
          go_ret2
          exact ⟨⟨fun h => (by rw [HT.out] at h; cases h), fun l h => by
            rw [HT.out] at h
            have e := Option.some.inj h
            subst e
            exact ⟨none, 0, rfl, World.ownsRow_nil _ _ _ _⟩⟩, Below.refl _ _⟩
      · obtain ⟨b, o, rfl, _, hcell⟩ := HS.out.at_ h0
        have hc1 := hcell (n - 1) (by omega)
        rw [HZ.out h0] at hc1
        obtain ⟨m, rfl⟩ : ∃ m, n = m + 1 := ⟨n - 1, by omega⟩
        have e1 : ((m + 1 : Nat) : Int) - 1 = (m : Int) := by omega
        rw [show m + 1 - 1 = m from rfl] at hc1
        have HN := Lib.hid h0
        clear hcell h0
        go_enter Try.func13, Try.ntmps13
        go_wp2_with fail
        go_loopw [4, 5] (fun out i wr => ∃ (xs : List (List Int)) (f a k : Nat), Hid ((xs ++ textsGo zs f a = textsGo zs (m + 1) 0 ∧ xs.length = k) ∧ a ≤ m + 1 ∧ m + 1 - a ≤ f ∧ k ≤ a) ∧ i = .int .i64 a ∧ (∃ Ao co, out = .slice Ao k co ∧ wr.ownsRow w.heap.size 9 1 (.slice Ao k co) k (strRow xs)) ∧ Below w.heap.size w wr) (fun _ i _ => m + 1 - (intOf i).toNat)
        case atStart => exact ⟨[], m + 1, 0, 0, Lib.hid ⟨⟨rfl, rfl⟩, Nat.zero_le _, by omega, Nat.le_refl _⟩, rfl, ⟨none, 0, rfl, World.ownsRow_nil _ _ _ _⟩, Below.refl _ _⟩
        case round =>
          obtain ⟨xs, f, a, k, HA, rfl, ⟨Ao, co, rfl, hown⟩, hb⟩ := hrel
          have HB := Lib.hid hb
          have HO := Lib.hid hown
          by_cases hlt : a < m + 1
          · obtain ⟨s, hsx⟩ := text_there (zs := zs) (a := a) (by rw [HL.out]; exact HZ.out HN.out) (by rw [HL.out]; exact hlt)
            have hlen := textFrom_len hsx
            rw [HL.out] at hlen
            have CT := reftext_any (some ⟨b, o, none⟩) (m + 1) c a zs wr w.heap.size (HS.out.below hb) (by omega) HC.out.1 HC.out.2 (by omega)
            rw [hsx] at CT
            obtain ⟨x, hx⟩ : ∃ x, strOfNums s = x := ⟨_, rfl⟩
            obtain ⟨l, hl⟩ : ∃ l, x.size = l := ⟨_, rfl⟩
            have hsl : s.length = l := by rw [← hl, ← hx]; exact (strOf_size6 s).symm
            have CT2 := Lib.hid (show Calls Try.prog 23 #[.slice (some ⟨b, o, none⟩) (m + 1) c, .int .i64 a] wr fun e w' => e = .returned (.tuple #[.string x, .bool true]) ∧ wr = w' from by rw [← hx]; exact CT)
            have HG : Hid (∃ f', f = f' + 1 ∧ textsGo zs f a = s :: textsGo zs f' (a + l + 1)) := Lib.hid (by
              obtain ⟨f', rfl⟩ : ∃ f', f = f' + 1 := ⟨f - 1, by have := HA.out.2; omega⟩
              refine ⟨f', rfl, ?_⟩
              rw [textsGo, if_pos (by rw [HL.out]; exact hlt), hsx]
              simp only [hsl])
            obtain ⟨i0, hi, hz, hs1, hby⟩ := info
            obtain ⟨A', c', w', r, g1, g2⟩ := app_lit Try.underlying30 hi hz hs1 hby rfl hown (.string x) rfl (by have := HA.out.2; omega) (by have := HA.out.2; omega) hb.size 30
            have HR := Lib.hid (And.intro g1 (hb.trans g2))
            have HX := Lib.hid hx
            have hl2 : a + l + 1 ≤ m + 1 := by omega
            clear CT hx hi hz hs1 hby g1 g2 hown hb hsx hsl hlen
            go_wp2_with fail
            refine CT2.out.mono ?_
            rintro e w2 ⟨rfl, rfl⟩
            go_wp2_with (at_builtin; refine Lib.wpList_append_run_sl _ rfl _ _ _ rfl _ _ rfl rfl r ?_)
            go_roundw
            case rel =>
              obtain ⟨f', hf, hg⟩ := HG.out
              refine ⟨xs ++ [s], f', a + l + 1, k + 1, Lib.hid ⟨⟨?_, ?_⟩, hl2, ?_, ?_⟩, by go_num, ⟨A', c', rfl, ?_⟩, HR.out.2⟩
              · have := HA.out.1.1
                rw [hg] at this
                rw [List.append_assoc]
                exact this
              · rw [List.length_append, HA.out.1.2]; rfl
              · have := HA.out.2; omega
              · have := HA.out.2; omega
              · rw [strRow, List.map_append]
                have h := HR.out.1
                rw [← HX.out] at h
                exact h
            case measure => simp [intOf]; omega
          · have HE : Hid (textsV zs = some xs) := Lib.hid (by
              have h1 := HA.out.1.1
              have h2 : textsGo zs f a = [] := by
                cases f with
                | zero => rfl
                | succ f => rw [textsGo, if_neg (by rw [HL.out]; exact hlt)]
              rw [h2, List.append_nil] at h1
              rw [HT.out, h1])
            clear hown hb
            go_wp2
            go_ret2
            exact ⟨⟨fun h => (by rw [HE.out] at h; cases h), fun l h => by
              rw [HE.out] at h
              have e := Option.some.inj h
              subst e
              rw [HA.out.1.2]
              exact ⟨Ao, co, rfl, HO.out⟩⟩, HB.out⟩
    exact main ()
end Go.Proofs.Ythlaoidlhbjaiaa
