/-
  Base, part 5: what the proofs of this claim lean on.
-/
import Derived.Test.YtnopcnbeklbfoaaBase4
import Derived.Test.YtnopcnbeklbfoaaBase2
import Derived.Test.YtnopcnbeklbfoaaBase3
import Derived.Test.YtnopcnbeklbfoaaBase1
import Derived.Lib.AppendZerosOnto

/-! Layer 4: the root that a structure says. -/
namespace Go.Proofs.Ytnopcnbeklbfoaa
open Go.RowKit Go.Maps Go.WideMaps
set_option linter.unusedVariables false
set_option linter.unusedSimpArgs false

/-- Where the reader stands, of a world. -/
def posAt (R : Nat) (w : World) : Nat := match w.cell? ⟨R, 2, none⟩ with | some (.int _ z) => z.toNat | _ => 0
theorem posAt_of {R p : Nat} {w : World} (h : w.cell? ⟨R, 2, none⟩ = some (.int .i64 p)) : posAt R w = p := by simp [posAt, h]
theorem RSt.at_ {w : World} {B R : Nat} {Sv Tv : Value} {st : PSt} (h : RSt w B R Sv Tv st) : w.cell? ⟨R, 2, none⟩ = some (.int .i64 st.pos) := by
  obtain ⟨_, _, _, _, _, h, _⟩ := h
  exact h.cells.2.2.1
theorem RSt.drew {w : World} {B R : Nat} {Sv Tv : Value} {st : PSt} (h : RSt w B R Sv Tv st) (m : Nat) : RSt (w.drewN m) B R Sv Tv st := by
  obtain ⟨g, c, fs, f, L, h, r⟩ := h
  exact ⟨g, c, fs, f, L, h.under (draws_under w m), r⟩
theorem RSt.lt {w : World} {B R : Nat} {Sv Tv : Value} {st : PSt} (h : RSt w B R Sv Tv st) : B ≤ R ∧ R < w.heap.size ∧ B ≤ w.heap.size := by
  obtain ⟨_, _, _, _, _, h, _⟩ := h
  exact ⟨h.rlt.1, h.rlt.2, h.base⟩
theorem stand_st {w : World} {B R : Nat} {Sv Tv : Value} {st : PSt} (h : RSt w B R Sv Tv st) (hf : Fits st) (tok : Int) (r : Bool) (hr : standB st.below.length st.top.kids.length tok = r) :
    Calls Try.prog 47 #[.pointer (some ⟨R, 0, none⟩), .int .u32 tok] w fun e w' => e = .returned (.bool r) ∧ ∃ q, w' = w.drewN q := by
  obtain ⟨g, c, fs, f, L, h, h1, h2, h3, h4, _⟩ := h
  have e1 : st.below.length = fs.length := by rw [h4]; simp
  have e2 : st.top.kids.length = f.kids.length := by rw [h3]; simp [Fr.pure]
  rw [e1, e2] at hr
  exact stand_any h (by have := hf.1; omega) h1 h2 tok r hr

/-- What a reader that has read nothing lies as. -/
theorem Rdr.first (w : World) (Sv Tv : Value) : Rdr (w.alloc (.cells #[Sv, Tv, .int .i64 0, .slice none 0 0] 91)) w.heap.size w.heap.size Sv Tv 0 (.slice none 0 0) [] (fun b => if b = w.heap.size then 1 else 0) :=
  ⟨World.ownsRow_lit w #[Sv, Tv, .int .i64 0, .slice none 0 0] 1 (Nat.le_refl _) (by unfold maxLen; omega) rfl, if_pos rfl, World.ownsRow_nil _ _ _ _, fun g e => (by cases e), fun i hi => (by cases hi), by simp⟩

/-- The root is the one node that stands in none. -/
theorem RSt.root {w : World} {B R : Nat} {Sv Tv : Value} {st : PSt} (h : RSt w B R Sv Tv st) (h0 : st.below.length = 0) (h1 : st.top.kids.length = 1) :
    ∃ g c f L kb kc nd, Rdr w B R Sv Tv st.pos (.slice (some ⟨g, 0, none⟩) (([] : List Fr).length + 1) c) ([] ++ [f]) L ∧ 1 ≤ c ∧ c ≤ 9223372036854775807 ∧ f.kv = .slice (some ⟨kb, 0, none⟩) 1 kc ∧ 1 ≤ kc ∧ w.cell? ⟨kb, 0, none⟩ = some (.string nd.name) ∧ w.cell? ⟨kb, 1, none⟩ = some nd.pv ∧ w.cell? ⟨kb, 2, none⟩ = some nd.kv ∧
      nd.In w w.heap.size ∧ nd.At (Done B w L) ∧ st.top.kids.headD default = pureN nd := by
  obtain ⟨g, c, fs, f, L, h, hc1, hc2, h3, h4, _⟩ := h
  have e1 : fs.length = 0 := by rw [h4] at h0; simpa using h0
  obtain rfl : fs = [] := List.eq_nil_of_length_eq_zero e1
  have e2 : f.kids.length = 1 := by rw [h3] at h1; simpa [Fr.pure] using h1
  obtain ⟨nd, hnd⟩ : ∃ nd, f.kids = [nd] := List.length_eq_one_iff.1 e2
  have ht := ok_top h.ok
  obtain ⟨kb, kc, e3, hk1, hk2, _, _⟩ := ownsRow_slice ht.krow (by omega)
  have hk := ht.krow
  rw [e3] at hk
  have hg : f.kids[0]'(by omega) = nd := by simp [hnd]
  have hin := ht.kids nd (by rw [hnd]; simp)
  rw [e2] at e3 hk1
  have hcell : ∀ r, r < 3 → w.cell? ⟨kb, r, none⟩ = (kC nd)[r]? := fun r hr => by
    rw [hk.cellAt r (by omega), hnd]
    simp
  refine ⟨g, c, f, L, kb, kc, nd, h, hc1, hc2, e3, hk1, hcell 0 (by omega), hcell 1 (by omega), hcell 2 (by omega), hin.1, hin.2, ?_⟩
  rw [h3]
  simp [Fr.pure, hnd]

abbrev zeroN : Obj := .cells #[.string ⟨#[]⟩, .slice none 0 0, .slice none 0 0] 38
/-- What readRoot answers. -/
def RootOut (B : Nat) (w' : World) (ans : Except Int PN) (e : Ending) : Prop :=
  ∃ v, e = .returned (.tuple #[v, .int .i64 (errOf ans)]) ∧ (∀ pn, ans = .ok pn → ∃ nd : Nd, v = nd.val ∧ nd.In w' w'.heap.size ∧ nd.At (fun b => B ≤ b) ∧ pureN nd = pn) ∧ (∀ E, ans = .error E → v = .agg #[.string ⟨#[]⟩, .slice none 0 0, .slice none 0 0])
theorem errOf_ok {α : Type} (x : α) : errOf (.ok x) = 0 := rfl
theorem rootF_ok_ne {S T : List Int} : ∀ (f : Nat) (st : PSt) (E : Int), rootF S T f st = .error E → E ≠ 0
  | 0, st, E, h => by simp only [rootF, Except.error.injEq] at h; omega
  | f + 1, st, E, h => by
    unfold rootF at h
    split at h
    · simp only [Except.error.injEq] at h; omega
    · split at h
      · simp only [Except.error.injEq] at h; omega
      · split at h
        · rename_i e he
          simp only [Except.error.injEq] at h
          subst h
          exact readF_err_ne he
        · split at h
          · split at h
            · cases h
            · simp only [Except.error.injEq] at h; omega
          · exact rootF_ok_ne f _ E h

/-- What becomes of it behind a token that was read. -/
noncomputable def afterRead (S T : List Int) (fuel : Nat) (x : Int) : Except Int PSt → Except Int PN
  | .error e => .error e
  | .ok st' => if x = 9 then (if st'.pos = S.length then .ok (st'.top.kids.headD default) else .error 4) else rootF S T fuel st'
theorem rootF_tok {S T : List Int} {fuel : Nat} {st : PSt} (h : st.pos + 4 ≤ S.length) : rootF S T (fuel + 1) st = if standB st.below.length st.top.kids.length (numTo S st.pos 4) = false then .error 4 else afterRead S T fuel (numTo S st.pos 4) (readF S T st (numTo S st.pos 4)) := by
  conv => lhs; unfold rootF tokAt
  rw [if_pos h]
  simp only
  split
  · rfl
  · cases readF S T st (numTo S st.pos 4) <;> rfl

set_option maxRecDepth 20000 in
set_option maxHeartbeats 4000000 in
theorem readRoot_any {w : World} {n c n2 c2 : Nat} {A A2 : Option Addr} {S T : List Int} (hs : Shows w w.heap.size A n S) (hn : n ≤ 1048576) (hnc : n ≤ c) (hcm : c ≤ 9223372036854775807) (hs2 : Shows w w.heap.size A2 n2 T) (hn2 : n2 ≤ 1048576) (hnc2 : n2 ≤ c2) (hcm2 : c2 ≤ 9223372036854775807)
    (ans : Except Int PN) (hans : rootF S T (n + 1) start = ans) :
    Calls Try.prog 30 #[.slice A n c, .slice A2 n2 c2] w fun e w' => RootOut w.heap.size w' ans e ∧ Below w.heap.size w w' := by
  have hl := hs.1
  have F := Rdr.first (w.alloc zeroN) (.slice A n c) (.slice A2 n2 c2)
  have ez : (w.alloc zeroN).heap.size = w.heap.size + 1 := by simp
  rw [ez] at F
  have HB0 := Lib.hid ((Below.refl w.heap.size w).alloc (Nat.le_refl _) zeroN)
  have HB1 := Lib.hid (((Below.refl (w.heap.size + 1) (w.alloc zeroN)).alloc (Nat.le_of_eq ez.symm) (.cells #[.slice A n c, .slice A2 n2 c2, .int .i64 0, .slice none 0 0] 91)))
  have HS := Lib.hid (hs.more (Nat.le_succ w.heap.size))
  have HS2 := Lib.hid (hs2.more (Nat.le_succ w.heap.size))
  have hkeep : ∀ wr, Below (w.heap.size + 1) (w.alloc zeroN) wr → Shows wr (w.heap.size + 1) A n S ∧ Shows wr (w.heap.size + 1) A2 n2 T := fun wr hb =>
    ⟨(((hs.below HB0.out).more (Nat.le_succ _)).below hb), (((hs2.below HB0.out).more (Nat.le_succ _)).below hb)⟩
  have HK := Lib.hid hkeep
  have HF := Lib.hid F
  have HA := Lib.hid hans
  clear hs hs2 F hkeep hans
  go_enter Try.func30, Try.ntmps30
  go_wp2_with fail
  refine (enter_any HF.out (Nat.zero_le _) ⟨#[]⟩ (Nat.zero_le _)).mono ?_
  rintro e w1 ⟨rfl, ⟨v', L', p, k, hr1⟩, hb1⟩
  have HR1 := Lib.hid (RSt.mk (fs := []) hr1 ⟨rfl, fun x hx => (by cases hx)⟩)
  have HB2 := Lib.hid (HB1.out.trans hb1)
  clear hr1 hb1
  go_wp2_with fail
  go_loopw [] (fun wr => ∃ (st : PSt) (fuel : Nat), RSt wr (w.heap.size + 1) (w.heap.size + 1) (.slice A n c) (.slice A2 n2 c2) st ∧ Fits st ∧ st.pos ≤ n ∧ Below (w.heap.size + 1) (w.alloc zeroN) wr ∧ rootF S T fuel st = ans ∧ n + 4 ≤ st.pos + 4 * fuel) (fun wr => n + 4 - posAt (w.heap.size + 1) wr)
  case atStart => exact ⟨start, n + 1, HR1.out, ⟨by simp [start], fun f hf => (by
    have : f = PF.new ⟨#[]⟩ := by simpa [start] using hf
    subst this
    simp [PF.new, start])⟩, Nat.zero_le _, HB2.out, HA.out, by omega⟩
  case round =>
    obtain ⟨st, fuel, hrs, hfit, hpos, hbe, hrt, hfuel⟩ := hrel
    obtain ⟨fuel, rfl⟩ : ∃ m, fuel = m + 1 := ⟨fuel - 1, by omega⟩
    have c2' := hrs.at_
    have HRS := Lib.hid hrs
    have HFI := Lib.hid hfit
    have HBE := Lib.hid hbe
    have HP := Lib.hid (posAt_of c2')
    obtain ⟨hk1, hk2⟩ := HK.out wr hbe
    have HK1 := Lib.hid hk1
    have HK2 := Lib.hid hk2
    have ZF : Hid (∀ W : World, Below (w.heap.size + 1) (w.alloc zeroN) W → (W.cell? ⟨w.heap.size, 0, none⟩ = some (.string ⟨#[]⟩) ∧ W.cell? ⟨w.heap.size, 1, none⟩ = some (.slice none 0 0) ∧ W.cell? ⟨w.heap.size, 2, none⟩ = some (.slice none 0 0)) ∧
        (W.frozen? ⟨w.heap.size, 0, none⟩ = false ∧ W.frozen? ⟨w.heap.size, 1, none⟩ = false ∧ W.frozen? ⟨w.heap.size, 2, none⟩ = false) ∧ w.heap.size < W.heap.size) := Lib.hid (fun W hbe =>
      ⟨⟨(hbe.cell (p := ⟨w.heap.size, 0, none⟩) (Nat.lt_succ_self _)).trans (World.cell?_alloc_new _ _ _ _), (hbe.cell (p := ⟨w.heap.size, 1, none⟩) (Nat.lt_succ_self _)).trans (World.cell?_alloc_new _ _ _ _), (hbe.cell (p := ⟨w.heap.size, 2, none⟩) (Nat.lt_succ_self _)).trans (World.cell?_alloc_new _ _ _ _)⟩,
       ⟨(hbe.frozen (p := ⟨w.heap.size, 0, none⟩) (Nat.lt_succ_self _)).trans (World.frozen?_alloc_new _ _ _ _), (hbe.frozen (p := ⟨w.heap.size, 1, none⟩) (Nat.lt_succ_self _)).trans (World.frozen?_alloc_new _ _ _ _), (hbe.frozen (p := ⟨w.heap.size, 2, none⟩) (Nat.lt_succ_self _)).trans (World.frozen?_alloc_new _ _ _ _)⟩,
       by have := hbe.size; omega⟩)
    obtain ⟨⟨z0, z1, z2⟩, ⟨y0, y1, y2⟩, hlt⟩ := ZF.out wr hbe
    have HOUT : Hid (∀ W : World, Below (w.heap.size + 1) (w.alloc zeroN) W → Below w.heap.size w (((W.setCell ⟨w.heap.size, 0, none⟩ (.string ⟨#[]⟩)).setCell ⟨w.heap.size, 1, none⟩ (.slice none 0 0)).setCell ⟨w.heap.size, 2, none⟩ (.slice none 0 0))) :=
      Lib.hid (fun W hW => (((HB0.out.trans (hW.mono (Nat.le_succ _))).setCell (Nat.le_refl _) _).setCell (Nat.le_refl _) _).setCell (Nat.le_refl _) _)
    obtain ⟨ps, hps⟩ : ∃ ps, st.pos = ps := ⟨_, rfl⟩
    rw [hps] at c2' hpos hfuel HP
    have HPS := Lib.hid hps
    have HRT := Lib.hid hrt
    clear hk1 hk2 hrs hfit hbe hps hrt
    by_cases h4 : ps + 4 ≤ n
    · obtain ⟨x, hx⟩ : ∃ x, numTo S ps 4 = x := ⟨_, rfl⟩
      obtain ⟨sb, hsb⟩ : ∃ sb, standB st.below.length st.top.kids.length x = sb := ⟨_, rfl⟩
      have G := Lib.hid (get_ite A n c ps (ps : Int) rfl S wr (w.heap.size + 1) HK1.out hn hnc hcm (by omega) x true (decide_eq_true h4) (by rw [if_pos h4]; exact hx))
      have CS := Lib.hid (stand_st HRS.out HFI.out x sb hsb)
      have HRT2 : Hid ((if sb = false then Except.error 4 else afterRead S T fuel x (readF S T st x)) = ans) := by
        have := HRT.out
        rw [rootF_tok (by rw [HPS.out]; omega), HPS.out, hx, hsb] at this
        exact Lib.hid this
      have HSB := Lib.hid hsb
      clear hx hsb HRT
      go_wp2_with fail
      refine G.out.mono ?_
      rintro e w2 ⟨rfl, rfl⟩
      go_wp2_with fail
      refine CS.out.mono ?_
      rintro e w2 ⟨rfl, q, rfl⟩
      cases sb with
      | false =>
        have hans : ans = .error 4 := HRT2.out.symm
        subst hans
        go_wp2
        refine bodyPost_ret (v := .tuple #[.agg #[.string ⟨#[]⟩, .slice none 0 0, .slice none 0 0], .int .i64 4]) (by simp [results, Try.results30, go_sem, z0, z1, z2, hlt]; try rfl) rfl ?_
        exact ⟨⟨_, rfl, (fun _ h => by cases h), fun _ _ => rfl⟩, HOUT.out _ (HBE.out.trans (drew_below _ _ q))⟩
      | true =>
        obtain ⟨r, hr⟩ : ∃ r, readF S T st x = r := ⟨_, rfl⟩
        have CR := Lib.hid (read_any (HRS.out.drew q) (HK1.out.drewN q) hn hnc hcm (HK2.out.drewN q) hn2 hnc2 hcm2 (by rw [HPS.out]; exact h4) HFI.out x HSB.out r hr)
        have HRT3 : Hid (afterRead S T fuel x r = ans) := by
          have := HRT2.out
          rw [hr] at this
          exact Lib.hid this
        have HRF := Lib.hid hr
        clear hr HRT2 z0 z1 z2 y0 y1 y2 hlt
        go_wp2_with fail
        refine CR.out.mono ?_
        rintro e w3 ⟨rfl, hb3, hr3⟩
        have hb3' := (HBE.out.trans (drew_below _ _ q)).trans hb3
        have HB3 := Lib.hid hb3'
        obtain ⟨⟨z0, z1, z2⟩, ⟨y0, y1, y2⟩, hlt⟩ := ZF.out w3 hb3'
        have HR3 := Lib.hid hr3
        clear hb3 hr3 hb3'
        cases r with
        | error E =>
          have hE := readF_err_ne HRF.out
          have hans : ans = .error E := HRT3.out.symm
          subst hans
          have n1 : (errOf (Except.error E : Except Int PSt) != 0) = true := by rw [bne_iff_ne]; exact hE
          clear hE
          go_wp2
          refine bodyPost_ret (v := .tuple #[.agg #[.string ⟨#[]⟩, .slice none 0 0, .slice none 0 0], .int .i64 E]) (by simp [results, Try.results30, go_sem, z0, z1, z2, hlt, errOf]; try rfl) rfl ?_
          exact ⟨⟨_, rfl, (fun _ h => by cases h), fun _ _ => rfl⟩, HOUT.out _ HB3.out⟩
        | ok st' =>
          have hp' := readF_pos (by rw [HPS.out, hl]; exact h4) HRF.out
          rw [HPS.out, hl] at hp'
          have hf' := fits_read (by rw [HPS.out, hl]; exact h4) HFI.out HRF.out
          have hrs3 := HR3.out st' rfl
          have cp := hrs3.at_
          obtain ⟨p', hpp⟩ : ∃ p', st'.pos = p' := ⟨_, rfl⟩
          rw [hpp] at cp hp'
          have HPP := Lib.hid hpp
          have HRS3 := Lib.hid hrs3
          have HF' := Lib.hid hf'
          have HP3 := Lib.hid (posAt_of cp)
          have n0 : (errOf (Except.ok st' : Except Int PSt) != 0) = false := rfl
          clear hpp hrs3 hf'
          by_cases hx9 : x = 9
          · subst hx9
            have hst' : st' = skipF st := by
              have := HRF.out
              rw [readF, if_neg (by omega), if_neg (by omega), if_neg (by omega)] at this
              exact (Except.ok.inj this).symm
            have hsb := HSB.out
            rw [standB, if_neg (by omega), if_neg (by omega), if_neg (by omega), if_neg (by omega), if_pos rfl, Bool.and_eq_true, decide_eq_true_eq, decide_eq_true_eq] at hsb
            have hbl : st'.below.length = 0 := by rw [hst']; exact hsb.1
            have hkl : st'.top.kids.length = 1 := by rw [hst']; exact hsb.2
            have HRT4 : Hid ((if st'.pos = S.length then Except.ok (st'.top.kids.headD default) else .error 4) = ans) := by
              have := HRT3.out
              rw [afterRead, if_pos rfl] at this
              exact Lib.hid this
            clear hst' hsb HRT3
            by_cases hpn : p' = n
            · subst hpn
              obtain ⟨g, oc, f, L, kb, kc, nd, hR, hc1, hc2, hkv, hkc, q0, q1, q2, hin, hat, hpure⟩ := HRS3.out.root hbl hkl
              have C := Lib.hid (innermost_any hR (Nat.zero_le _) hc1 hc2)
              have hans : ans = .ok (pureN nd) := by
                rw [← HRT4.out, if_pos (by rw [HPP.out, hl]), hpure]
              subst hans
              replace q1 : _ = some (Value.slice nd.pa nd.props.length nd.pc) := q1
              replace q2 : _ = some (Value.slice nd.ka nd.kids.length nd.kc) := q2
              obtain ⟨_, _, t2, _, _⟩ := hR.top
              rw [hkv] at t2
              simp only [List.length_nil, Nat.zero_mul, Nat.zero_add] at t2
              have HIN := Lib.hid hin
              have HAT := Lib.hid hat
              simp only [List.length_nil, Nat.zero_mul] at C
              clear hR hin hat hpure hbl hkl HRT4 hkv
              go_wp2_with fail
              refine C.out.mono ?_
              rintro e w4 ⟨rfl, q4, rfl⟩
              go_wp2
              refine bodyPost_ret (v := .tuple #[.agg #[.string nd.name, .slice nd.pa nd.props.length nd.pc, .slice nd.ka nd.kids.length nd.kc], .int .i64 0]) (by simp [results, Try.results30, go_sem, z0, z1, z2, hlt]; try rfl) rfl ?_
              have hset : ∀ (u v x : Value) (a : Addr), Done (w.heap.size + 1) w3 L a.block → ((((w3.drewN q4).setCell ⟨w.heap.size, 0, none⟩ u).setCell ⟨w.heap.size, 1, none⟩ v).setCell ⟨w.heap.size, 2, none⟩ x).cell? a = w3.cell? a := fun u v x a ha => by
                have h1 : w.heap.size + 1 ≤ a.block := ha.1
                have hne : ∀ o, (⟨w.heap.size, o, none⟩ : Addr) ≠ a := fun o e => by rw [← e] at h1; simp at h1; omega
                exact ((World.cell?_setCell_other _ _ _ _ (hne 2)).trans (World.cell?_setCell_other _ _ _ _ (hne 1))).trans (World.cell?_setCell_other _ _ _ _ (hne 0))
              have hfin : ∀ u v x : Value, nd.In ((((w3.drewN q4).setCell ⟨w.heap.size, 0, none⟩ u).setCell ⟨w.heap.size, 1, none⟩ v).setCell ⟨w.heap.size, 2, none⟩ x) ((((w3.drewN q4).setCell ⟨w.heap.size, 0, none⟩ u).setCell ⟨w.heap.size, 1, none⟩ v).setCell ⟨w.heap.size, 2, none⟩ x).heap.size := fun u v x => by
                have := Nd.In.at_ (hset u v x) HIN.out HAT.out
                simpa using this
              refine ⟨⟨_, rfl, fun pn h => ⟨nd, rfl, ?_, HAT.out.mono (fun b hb => Nat.le_trans (Nat.le_succ _) hb.1), Except.ok.inj h⟩, fun _ h => by cases h⟩, ?_⟩
              · exact hfin _ _ _
              · exact (((HB0.out.trans ((HB3.out.trans (drew_below _ _ q4)).mono (Nat.le_succ _))).setCell (Nat.le_refl _) _).setCell (Nat.le_refl _) _).setCell (Nat.le_refl _) _
            · have hans : ans = .error 4 := by rw [← HRT4.out, if_neg (by rw [HPP.out, hl]; exact hpn)]
              subst hans
              have npn : ((p' : Int) != (n : Int)) = true := by rw [bne_iff_ne]; omega
              clear hpn hbl hkl
              go_wp2
              refine bodyPost_ret (v := .tuple #[.agg #[.string ⟨#[]⟩, .slice none 0 0, .slice none 0 0], .int .i64 4]) (by simp [results, Try.results30, go_sem, z0, z1, z2, hlt]; try rfl) rfl ?_
              exact ⟨⟨_, rfl, (fun _ h => by cases h), fun _ _ => rfl⟩, HOUT.out _ HB3.out⟩
          · have nx : (x == 9) = false := by rw [beq_eq_false_iff_ne]; exact hx9
            have HRT4 : Hid (rootF S T fuel st' = ans) := by
              have := HRT3.out
              rw [afterRead, if_neg hx9] at this
              exact Lib.hid this
            clear hx9 HRT3
            go_wp2
            go_roundw
            case rel => exact ⟨st', fuel, HRS3.out, HF'.out, by rw [HPP.out]; exact hp'.2, HB3.out, HRT4.out, by rw [HPP.out]; omega⟩
            case measure => rw [HP.out, HP3.out]; omega
    · have hans : ans = .error 4 := by
        rw [← HRT.out]; unfold rootF tokAt
        rw [if_neg (by rw [HPS.out]; omega)]
      have G := Lib.hid (get_ite A n c ps (ps : Int) rfl S wr (w.heap.size + 1) HK1.out hn hnc hcm (by omega) 0 false (decide_eq_false h4) (if_neg h4))
      subst hans
      go_wp2_with fail
      refine G.out.mono ?_
      rintro e w2 ⟨rfl, rfl⟩
      go_wp2
      refine bodyPost_ret (v := .tuple #[.agg #[.string ⟨#[]⟩, .slice none 0 0, .slice none 0 0], .int .i64 4]) (by simp [results, Try.results30, go_sem, z0, z1, z2, hlt]; try rfl) rfl ?_
      exact ⟨⟨_, rfl, (fun _ h => by cases h), fun _ _ => rfl⟩, HOUT.out _ HBE.out⟩
end Go.Proofs.Ytnopcnbeklbfoaa

/-! Layer 4: the reserves of a blob. -/
namespace Go.Proofs.Ytnopcnbeklbfoaa
open Go.RowKit Go.Maps Go.WideMaps
set_option linter.unusedVariables false
set_option linter.unusedSimpArgs false

theorem get64_ite (A : Option Addr) (n c a : Nat) (q : Int) (hq : q = (a : Int)) (zs : List Int) (w : World) (B : Nat) (hs : Shows w B A n zs) (hn : n ≤ 1048576) (hnc : n ≤ c) (hc : c ≤ maxLen) (ha : a ≤ 4611686018427387904) (x : Int) (b : Bool) (hb : decide (a + 8 ≤ n) = b) (hx : (if a + 8 ≤ n then numTo zs a 8 else 0) = x) :
    Calls Try.prog 45 #[.slice A n c, .int .i64 q] w fun e w' => e = .returned (.tuple #[.int .u64 x, .bool b]) ∧ w = w' := by
  subst hq
  by_cases h : a + 8 ≤ n
  · rw [if_pos h] at hx
    rw [decide_eq_true h] at hb
    subst hx hb
    have HH := Lib.hid (numb_yes A n c 8 a zs w B hs h (by omega) hnc hc (by omega) (by omega))
    clear hs
    go_enter Try.func45, Try.ntmps45
    go_wp2_with (go_at_call 39; refine HH.out.mono ?_; rintro e w' ⟨rfl, rfl⟩)
    go_ret2
    exact ⟨rfl, rfl⟩
  · rw [if_neg h] at hx
    rw [decide_eq_false h] at hb
    subst hx hb
    have HH := Lib.hid (numb_no A n c (a : Int) 8 w (by omega) (by omega) (by omega) (by omega))
    clear hs
    go_enter Try.func45, Try.ntmps45
    go_wp2_with (go_at_call 39; refine HH.out.mono ?_; rintro e w' ⟨rfl, rfl⟩)
    go_ret2
    exact ⟨rfl, rfl⟩

def rC (r : Int × Int) : List Value := [.int .u64 r.1, .int .u64 r.2]
theorem info_res : (Try.prog.info? 62).map (fun i => (i.zero, i.size, i.bytes)) = some (some (.agg #[.int .u64 0, .int .u64 0]), 2, 16) := by kernel_rfl
theorem own_val {w : World} {base n sz : Nat} {t : TypeId} {v : Value} {xs : List Value} (h : w.ownsRow base t sz v n xs) : ∃ A c, v = .slice A n c ∧ n ≤ c ∧ c ≤ 9223372036854775807 := by
  rcases h.2 with ⟨rfl, rfl⟩ | ⟨g, cap, cur, rfl, _, _, h1, h2, _⟩
  · exact ⟨none, 0, rfl, Nat.le_refl _, by omega⟩
  · exact ⟨_, cap, rfl, h1, h2⟩
/-- What readReserves answers. -/
def ResOut (w w' : World) (ans : Except Int (List (Int × Int))) (e : Ending) : Prop :=
  ∃ v, e = .returned (.tuple #[v, .int .i64 (errOf ans)]) ∧ (∀ l, ans = .ok l → w'.ownsRow w.heap.size 62 2 v l.length (l.flatMap rC) ∧ ∀ r ∈ l, (0 ≤ r.1 ∧ r.1 ≤ 18446744073709551615) ∧ 0 ≤ r.2 ∧ r.2 ≤ 18446744073709551615) ∧ (∀ E, ans = .error E → v = .slice none 0 0)
theorem resF_err_ne {zs : List Int} : ∀ (f a : Nat) (l : List (Int × Int)) (E : Int), resF zs f a l = .error E → E ≠ 0
  | 0, a, l, E, h => by simp only [resF, Except.error.injEq] at h; omega
  | f + 1, a, l, E, h => by
    unfold resF at h
    split at h
    · split at h
      · split at h
        · simp only [Except.error.injEq] at h; omega
        · cases h
      · exact resF_err_ne f _ _ E h
    · simp only [Except.error.injEq] at h; omega

set_option maxRecDepth 20000 in
set_option maxHeartbeats 4000000 in
theorem readReserves_any {w : World} {n c a0 : Nat} {A : Option Addr} {zs : List Int} (q0 : Int) (hq0 : q0 = (a0 : Int)) (hs : Shows w w.heap.size A n zs) (hn : n ≤ 1048576) (hnc : n ≤ c) (hcm : c ≤ 9223372036854775807) (ha0 : a0 ≤ n) (ans : Except Int (List (Int × Int))) (hans : resF zs (n + 1) a0 [] = ans) :
    Calls Try.prog 29 #[.slice A n c, .int .i64 q0] w fun e w' => ResOut w w' ans e ∧ Below w.heap.size w w' := by
  subst hq0
  have hl := hs.1
  have HS := Lib.hid hs
  have HA := Lib.hid hans
  clear hs hans
  go_enter Try.func29, Try.ntmps29
  go_wp2_with fail
  go_loopw [1, 6] (fun i v wr => ∃ (a fuel : Nat) (l : List (Int × Int)), i = .int .i64 a ∧ a ≤ n ∧ wr.ownsRow w.heap.size 62 2 v l.length (l.flatMap rC) ∧ (∀ r ∈ l, (0 ≤ r.1 ∧ r.1 ≤ 18446744073709551615) ∧ 0 ≤ r.2 ∧ r.2 ≤ 18446744073709551615) ∧ l.length ≤ a ∧ Below w.heap.size w wr ∧ resF zs fuel a l = ans ∧ n < a + fuel) (fun i _ _ => n + 16 - (intOf i).toNat)
  case atStart => exact ⟨a0, n + 1, [], rfl, ha0, World.ownsRow_nil _ _ _ _, (fun r hr => by cases hr), Nat.zero_le _, Below.refl _ _, HA.out, by omega⟩
  case round =>
    obtain ⟨a, fuel, l, rfl, han, hown, hnum, hla, hbe, hrt, hfuel⟩ := hrel
    obtain ⟨fuel, rfl⟩ : ∃ m, fuel = m + 1 := ⟨fuel - 1, by omega⟩
    obtain ⟨A1, c1, rfl, hl1, hl2⟩ := own_val hown
    have HO := Lib.hid hown
    have HN := Lib.hid hnum
    have HBE := Lib.hid hbe
    have HRT := Lib.hid hrt
    have hsr := HS.out.below hbe
    have HSR := Lib.hid hsr
    clear hown hnum hbe hrt hsr
    by_cases h16 : a + 16 ≤ n
    · obtain ⟨x, hx⟩ : ∃ x, numTo zs a 8 = x := ⟨_, rfl⟩
      obtain ⟨y, hy⟩ : ∃ y, numTo zs (a + 8) 8 = y := ⟨_, rfl⟩
      have bx := numTo_lt64 zs a 8 HSR.out.byte (Nat.le_refl _)
      have by' := numTo_lt64 zs (a + 8) 8 HSR.out.byte (Nat.le_refl _)
      rw [hx] at bx
      rw [hy] at by'
      have G1 := Lib.hid (get64_ite A n c a (a : Int) rfl zs wr w.heap.size HSR.out hn hnc hcm (by omega) x true (decide_eq_true (by omega)) (by rw [if_pos (by omega)]; exact hx))
      have G2 := Lib.hid (fun (q : Int) (hq : q = ((a + 8 : Nat) : Int)) => get64_ite A n c (a + 8) q hq zs wr w.heap.size HSR.out hn hnc hcm (by omega) y true (decide_eq_true (by omega)) (by rw [if_pos (by omega)]; exact hy))
      have HRT2 : Hid ((if x = 0 ∧ y = 0 then (if 64 < l.length then Except.error 7 else .ok l) else resF zs fuel (a + 16) (l ++ [(x, y)])) = ans) := by
        have := HRT.out
        unfold resF at this
        rw [if_pos (by rw [hl]; exact h16), hx, hy] at this
        exact Lib.hid this
      have HBX := Lib.hid bx
      have HBY := Lib.hid by'
      clear hx hy HRT bx by'
      by_cases hz : x = 0 ∧ y = 0
      · obtain ⟨rfl, rfl⟩ := hz
        by_cases h64 : 64 < l.length
        · have hans : ans = .error 7 := by rw [← HRT2.out, if_pos ⟨rfl, rfl⟩, if_pos h64]
          subst hans
          have h64i : (64 : Int) < (l.length : Int) := by omega
          have HBF := Lib.hid (HBE.out.alloc (Nat.le_trans (Nat.le_refl _) HBE.out.size) (.cells #[.int .u64 0, .int .u64 0] 62))
          clear h64
          go_wp2_with fail
          refine G1.out.mono ?_
          rintro e w2 ⟨rfl, rfl⟩
          go_wp2_with fail
          refine (G2.out _ (by omega)).mono ?_
          rintro e w2 ⟨rfl, rfl⟩
          go_wp2
          go_ret2
          exact ⟨⟨_, rfl, (fun _ h => by cases h), fun _ _ => rfl⟩, HBF.out⟩
        · have hans : ans = .ok l := by rw [← HRT2.out, if_pos ⟨rfl, rfl⟩, if_neg h64]
          subst hans
          have h64i : ¬ (64 : Int) < (l.length : Int) := by omega
          have HBF := Lib.hid (HBE.out.alloc (Nat.le_trans (Nat.le_refl _) HBE.out.size) (.cells #[.int .u64 0, .int .u64 0] 62))
          have HOF := Lib.hid (HO.out.alloc (.cells #[.int .u64 0, .int .u64 0] 62))
          clear h64
          go_wp2_with fail
          refine G1.out.mono ?_
          rintro e w2 ⟨rfl, rfl⟩
          go_wp2_with fail
          refine (G2.out _ (by omega)).mono ?_
          rintro e w2 ⟨rfl, rfl⟩
          go_wp2
          go_ret2
          exact ⟨⟨_, rfl, fun l' h => by rw [← Except.ok.inj h]; exact ⟨HOF.out, HN.out⟩, (fun _ h => by cases h)⟩, HBF.out⟩
      · have hans : resF zs fuel (a + 16) (l ++ [(x, y)]) = ans := by rw [← HRT2.out, if_neg hz]
        obtain ⟨i0, hi0, hz0, hz1, hz2⟩ := info_parts info_res
        obtain ⟨v6, w6, hrun, hown6, hg6, _, _⟩ := run_append_own_at (P := Try.prog) ((wr.alloc (.cells #[.int .u64 x, .int .u64 y] 62)).alloc (.cells #[.int .u64 x, .int .u64 y] 62)) w.heap.size 34 34 62 i0 _ 2 16 Try.underlying34 hi0 hz0 hz1 hz2 rfl (by omega) (.slice A1 l.length c1) l.length _ ((HO.out.alloc _).alloc _)
          ⟨wr.heap.size + 1, 0, none⟩ 1 1 [.int .u64 x, .int .u64 y] rfl (by have := cells_new (wr.alloc (.cells #[.int .u64 x, .int .u64 y] 62)) [.int .u64 x, .int .u64 y] 62; simpa using this) (fun u hu => by
            simp only [List.mem_cons, List.not_mem_nil, or_false] at hu
            rcases hu with rfl | rfl <;> rfl) (by unfold maxLen; omega) (by omega) (by have := HBE.out.size; simp; omega)
        have hbf : Below w.heap.size w w6 := ((HBE.out.alloc HBE.out.size _).alloc (by have := HBE.out.size; simp; omega) _).grown hg6 (by have := HBE.out.size; simp; omega) (fun k e => (HO.out.lt k e).1)
        have hof : w6.ownsRow w.heap.size 62 2 v6 (l ++ [(x, y)]).length ((l ++ [(x, y)]).flatMap rC) := by
          have e1 : (l ++ [(x, y)]).length = l.length + 1 := by simp
          rw [e1, List.flatMap_append]
          simpa [rC] using hown6
        obtain ⟨A6, c6, rfl, _, _⟩ := own_val hown6
        have HRUN := Lib.hid hrun
        have HBF := Lib.hid hbf
        have HOF := Lib.hid hof
        have HAN := Lib.hid hans
        clear hrun hown6 hg6 hbf hof hi0 hz0 hz1 hz2 hans HRT2
        by_cases hx0 : x = 0
        · subst hx0
          have hy0 : ¬ (y = 0) := fun h => hz ⟨rfl, h⟩
          have hy1 : ¬ (0 = y) := fun h => hy0 h.symm
          clear hz
          go_wp2_with fail
          refine G1.out.mono ?_
          rintro e w2 ⟨rfl, rfl⟩
          go_wp2_with fail
          refine (G2.out _ (by omega)).mono ?_
          rintro e w2 ⟨rfl, rfl⟩
          go_wp2_with (first | (at_builtin; refine Lib.wpList_append_run_sl _ rfl _ _ 34 rfl _ _ rfl rfl HRUN.out ?_) | fail)
          go_roundw
          case rel => exact ⟨a + 16, fuel, l ++ [(_, y)], by go_num, h16, by have := HOF.out; simpa using this, fun r hr => (by
            rcases List.mem_append.1 hr with h | h
            · exact HN.out r h
            · rw [List.mem_singleton.1 h]; exact ⟨HBX.out, HBY.out⟩), by simp; omega, HBF.out, HAN.out, by omega⟩
          case measure => simp [intOf]; omega
        · have hx1 : ¬ (0 = x) := fun h => hx0 h.symm
          clear hz
          go_wp2_with fail
          refine G1.out.mono ?_
          rintro e w2 ⟨rfl, rfl⟩
          go_wp2_with fail
          refine (G2.out _ (by omega)).mono ?_
          rintro e w2 ⟨rfl, rfl⟩
          go_wp2_with (first | (at_builtin; refine Lib.wpList_append_run_sl _ rfl _ _ 34 rfl _ _ rfl rfl HRUN.out ?_) | fail)
          go_roundw
          case rel => exact ⟨a + 16, fuel, l ++ [(_, y)], by go_num, h16, by have := HOF.out; simpa using this, fun r hr => (by
            rcases List.mem_append.1 hr with h | h
            · exact HN.out r h
            · rw [List.mem_singleton.1 h]; exact ⟨HBX.out, HBY.out⟩), by simp; omega, HBF.out, HAN.out, by omega⟩
          case measure => simp [intOf]; omega
    · have hans : ans = .error 4 := by
        rw [← HRT.out]; unfold resF
        rw [if_neg (by rw [hl]; exact h16)]
      obtain ⟨x1, hx1⟩ : ∃ x1, (if a + 8 ≤ n then numTo zs a 8 else 0) = x1 := ⟨_, rfl⟩
      obtain ⟨b1, hb1⟩ : ∃ b1, decide (a + 8 ≤ n) = b1 := ⟨_, rfl⟩
      have G1 := Lib.hid (get64_ite A n c a (a : Int) rfl zs wr w.heap.size HSR.out hn hnc hcm (by omega) x1 b1 hb1 hx1)
      have G2 := Lib.hid (fun (q : Int) (hq : q = ((a + 8 : Nat) : Int)) => get64_ite A n c (a + 8) q hq zs wr w.heap.size HSR.out hn hnc hcm (by omega) 0 false (decide_eq_false (by omega)) (by rw [if_neg (by omega)]))
      subst hans
      clear hx1 hb1
      go_wp2_with fail
      refine G1.out.mono ?_
      rintro e w2 ⟨rfl, rfl⟩
      go_wp2_with fail
      refine (G2.out _ (by omega)).mono ?_
      rintro e w2 ⟨rfl, rfl⟩
      go_wp2
      go_ret2
      exact ⟨⟨_, rfl, (fun _ h => by cases h), fun _ _ => rfl⟩, HBE.out⟩
end Go.Proofs.Ytnopcnbeklbfoaa

/-! Layer 4: Decode of bytes with a good header. -/
namespace Go.Proofs.Ytnopcnbeklbfoaa
open Go.RowKit Go.Maps Go.WideMaps
set_option linter.unusedVariables false
set_option linter.unusedSimpArgs false

section
variable {P : Program} {t e : TypeId} (ht : P.underlying t = some (.slice e)) (he : ∀ w, (Go.sizeOf e).run P w = .ok 1 w)
include ht he
theorem run_from32 (A : Option Addr) (n c : Nat) (L : Int) (l : Nat) (hL : L = l) (hl : l ≤ n) (W : World) : (Instr.slice t (.slice A n c) (some (.int .u32 L)) none none).run P W = .ok (.slice (cutAt A c l) (n - l) (c - l)) W := by
  subst hL
  have ht' : P.underlying t = some (.slice (P.elem t)) := by simp [Program.elem, ht]
  have he' : P.elem t = e := by simp [Program.elem, ht]
  rw [run_slice_l W t _ _ _ ht' .u32 _ (by omega) (by omega), he', he]
  simp [Result.andThen, sliced, cutAt]
end

theorem part_any (A : Option Addr) (n c a k : Nat) (q1 q2 : Int) (h1 : q1 = (a : Int)) (h2 : q2 = (k : Int)) (hk : a + k ≤ n) (hnc : n ≤ c) (w : World) :
    Calls Try.prog 31 #[.slice A n c, .int .u32 q1, .int .u32 q2] w fun e w' => e = .returned (.slice (cutAt A c a) k (c - a)) ∧ w = w' := by
  subst h1 h2
  have r1 := run_from32 (P := Try.prog) Try.underlying26 size_u8 A n c (a : Int) a rfl (by omega)
  have r2 := run_upto32 (P := Try.prog) Try.underlying26 size_u8 (cutAt A c a) (n - a) (c - a) (k : Int) k rfl (by omega)
  go_enter Try.func31, Try.ntmps31
  go_wp2
  go_ret
  exact ⟨rfl, rfl⟩

theorem within_iff {a s t : Int} (h : within a s t = true) : 40 ≤ a ∧ a ≤ t ∧ s ≤ t - a := of_decide_eq_true h
/-- What a good header says of its cells. -/
theorem head_good {n : Nat} {x0 x1 x2 x3 x4 x5 x6 x8 x9 : Int} (h : headE n x0 x1 x2 x3 x4 x5 x6 x8 x9 = 0) : x1 = (n : Int) ∧ (40 ≤ x2 ∧ x2 ≤ n ∧ x9 ≤ n - x2 ∧ x2 % 4 = 0) ∧ (40 ≤ x3 ∧ x3 ≤ n ∧ x8 ≤ n - x3) ∧ (40 ≤ x4 ∧ x4 ≤ n ∧ x4 % 8 = 0) := by
  unfold headE at h
  split at h
  · split at h
    · split at h
      · rename_i h1
        obtain ⟨e, hp⟩ := h1
        subst e
        unfold parts at hp
        simp only [Bool.and_eq_true, decide_eq_true_eq] at hp
        obtain ⟨p1, p2, p3, p4, p5⟩ := hp
        have q1 := within_iff p1
        have q3 := within_iff p3
        have q4 := within_iff p4
        exact ⟨rfl, ⟨q1.1, q1.2.1, q1.2.2, p2⟩, ⟨q3.1, q3.2.1, q3.2.2⟩, q4.1, q4.2.1, p5⟩
      · omega
    · omega
  · omega

def bothF : Except Int (List (Int × Int)) → Except Int PN → Except Int (List (Int × Int) × PN)
  | .error e, _ => .error e
  | .ok _, .error e => .error e
  | .ok rs, .ok n => .ok (rs, n)
theorem readAll_both (zs : List Int) : readAll zs = bothF (resF zs (zs.length + 1) (hcell zs 4).toNat []) (rootF (partL zs (hcell zs 2).toNat (hcell zs 9).toNat) (partL zs (hcell zs 3).toNat (hcell zs 8).toNat) ((hcell zs 9).toNat + 1) start) := by
  unfold readAll
  cases resF zs (zs.length + 1) (hcell zs 4).toNat [] with
  | error e => rfl
  | ok rs => cases rootF (partL zs (hcell zs 2).toNat (hcell zs 9).toNat) (partL zs (hcell zs 3).toNat (hcell zs 8).toNat) ((hcell zs 9).toNat + 1) start <;> rfl

abbrev zeroTv : Value := .agg #[.int .u32 0, .slice none 0 0, .string ⟨#[]⟩, .slice none 0 0, .slice none 0 0]
/-- What Decode answers of bytes with a good header. -/
def DecOut (w' : World) (zs : List Int) (e : Ending) : Prop :=
  (∀ E, readAll zs = .error E → e = .returned (.tuple #[zeroTv, .int .i64 E])) ∧
  (∀ rs pn, readAll zs = .ok (rs, pn) → ∃ tr : Tr, tr.In w' w'.heap.size ∧ tr.boot = hcell zs 7 ∧ tr.rs = rs ∧ pureN tr.root = pn ∧ (checkE tr ≠ 0 → e = .returned (.tuple #[zeroTv, .int .i64 (checkE tr)])) ∧ (checkE tr = 0 → e = .returned (.tuple #[tr.val, .int .i64 0])))

/-- All rows of a tree lie from a block on. -/
structure Tr.Up (B : Nat) (t : Tr) : Prop where
  row : 0 < t.rs.length → ∀ b o, t.ra = some ⟨b, o, none⟩ → B ≤ b
  root : t.root.At (fun b => B ≤ b)
theorem Tr.In.keepUp {w w' : World} {B lo : Nat} {t : Tr} (h : t.In w B) (hu : t.Up lo) (hk : ∀ a : Addr, lo ≤ a.block → w'.cell? a = w.cell? a) : t.In w' B :=
  ⟨h.boot, h.len, fun h0 => by
    obtain ⟨b, o, e, hb, hc⟩ := h.row h0
    exact ⟨b, o, e, hb, fun i hi => ⟨(hk _ (hu.row h0 b o e)).trans (hc i hi).1, (hk _ (hu.row h0 b o e)).trans (hc i hi).2⟩⟩, h.nums, Nd.In.at_ (fun a ha => hk a ha) h.root hu.root⟩
theorem set_low {w : World} {X : Nat} (o : Nat) (u : Value) (a : Addr) (h : X + 1 ≤ a.block) : (w.setCell ⟨X, o, none⟩ u).cell? a = w.cell? a :=
  World.cell?_setCell_other _ _ _ _ (fun e => by rw [← e] at h; simp at h; omega)
theorem Tr.In.set5 {w : World} {X : Nat} {t : Tr} (h : t.In w w.heap.size) (hu : t.Up (X + 1)) (u0 u1 u2 u3 u4 : Value) : t.In (((((w.setCell ⟨X, 0, none⟩ u0).setCell ⟨X, 1, none⟩ u1).setCell ⟨X, 2, none⟩ u2).setCell ⟨X, 3, none⟩ u3).setCell ⟨X, 4, none⟩ u4) (((((w.setCell ⟨X, 0, none⟩ u0).setCell ⟨X, 1, none⟩ u1).setCell ⟨X, 2, none⟩ u2).setCell ⟨X, 3, none⟩ u3).setCell ⟨X, 4, none⟩ u4).heap.size := by
  have := h.keepUp (w' := ((((w.setCell ⟨X, 0, none⟩ u0).setCell ⟨X, 1, none⟩ u1).setCell ⟨X, 2, none⟩ u2).setCell ⟨X, 3, none⟩ u3).setCell ⟨X, 4, none⟩ u4) hu (fun a ha => ((((set_low 4 u4 a ha).trans (set_low 3 u3 a ha)).trans (set_low 2 u2 a ha)).trans (set_low 1 u1 a ha)).trans (set_low 0 u0 a ha))
  simpa using this
theorem nd_set3 {w : World} {X : Nat} {n : Nd} (h : n.In w w.heap.size) (hu : n.At (fun b => X + 1 ≤ b)) (u0 u1 u2 : Value) : n.In (((w.setCell ⟨X, 0, none⟩ u0).setCell ⟨X, 1, none⟩ u1).setCell ⟨X, 2, none⟩ u2) (((w.setCell ⟨X, 0, none⟩ u0).setCell ⟨X, 1, none⟩ u1).setCell ⟨X, 2, none⟩ u2).heap.size := by
  have := Nd.In.at_ (w' := ((w.setCell ⟨X, 0, none⟩ u0).setCell ⟨X, 1, none⟩ u1).setCell ⟨X, 2, none⟩ u2) (fun a ha => ((set_low 2 u2 a ha).trans (set_low 1 u1 a ha)).trans (set_low 0 u0 a ha)) h hu
  simpa using this
theorem set3_cells {w : World} {X : Nat} {a b c : Value} (h0 : w.cell? ⟨X, 0, none⟩ = some a) (h1 : w.cell? ⟨X, 1, none⟩ = some b) (h2 : w.cell? ⟨X, 2, none⟩ = some c) (u0 u1 u2 : Value) :
    (((w.setCell ⟨X, 0, none⟩ u0).setCell ⟨X, 1, none⟩ u1).setCell ⟨X, 2, none⟩ u2).cell? ⟨X, 0, none⟩ = some u0 ∧ (((w.setCell ⟨X, 0, none⟩ u0).setCell ⟨X, 1, none⟩ u1).setCell ⟨X, 2, none⟩ u2).cell? ⟨X, 1, none⟩ = some u1 ∧ (((w.setCell ⟨X, 0, none⟩ u0).setCell ⟨X, 1, none⟩ u1).setCell ⟨X, 2, none⟩ u2).cell? ⟨X, 2, none⟩ = some u2 := by
  have ne : ∀ {i j : Nat}, i ≠ j → (⟨X, i, none⟩ : Addr) ≠ ⟨X, j, none⟩ := fun h e => h (by simpa using congrArg Addr.off e)
  have s0 := World.cell?_setCell_same w ⟨X, 0, none⟩ u0 h0
  have s1 := World.cell?_setCell_same (w.setCell ⟨X, 0, none⟩ u0) ⟨X, 1, none⟩ u1 ((World.cell?_setCell_other _ _ _ _ (ne (by omega))).trans h1)
  have s2 := World.cell?_setCell_same ((w.setCell ⟨X, 0, none⟩ u0).setCell ⟨X, 1, none⟩ u1) ⟨X, 2, none⟩ u2 ((World.cell?_setCell_other _ _ _ _ (ne (by omega))).trans ((World.cell?_setCell_other _ _ _ _ (ne (by omega))).trans h2))
  exact ⟨(World.cell?_setCell_other _ _ _ _ (ne (by omega))).trans ((World.cell?_setCell_other _ _ _ _ (ne (by omega))).trans s0), (World.cell?_setCell_other _ _ _ _ (ne (by omega))).trans s1, s2⟩
theorem new3_cells (w : World) (u0 u1 u2 : Value) : (w.alloc (.cells #[u0, u1, u2] 38)).cell? ⟨w.heap.size, 0, none⟩ = some u0 ∧ (w.alloc (.cells #[u0, u1, u2] 38)).cell? ⟨w.heap.size, 1, none⟩ = some u1 ∧ (w.alloc (.cells #[u0, u1, u2] 38)).cell? ⟨w.heap.size, 2, none⟩ = some u2 :=
  ⟨World.cell?_alloc_new _ _ _ _, World.cell?_alloc_new _ _ _ _, World.cell?_alloc_new _ _ _ _⟩
theorem resF_len {zs : List Int} : ∀ (f a : Nat) (l r : List (Int × Int)), resF zs f a l = .ok r → r.length ≤ 64
  | 0, a, l, r, h => by cases h
  | f + 1, a, l, r, h => by
    unfold resF at h
    split at h
    · split at h
      · split at h
        · cases h
        · have := Except.ok.inj h
          subst this
          omega
      · exact resF_len f _ _ r h
    · cases h
/-- The reserves' row as it lies. -/
theorem rrow_of {w : World} {base c : Nat} {A : Option Addr} {l : List (Int × Int)} (h : w.ownsRow base 62 2 (.slice A l.length c) l.length (l.flatMap rC)) : RRow w w.heap.size A l ∧ (0 < l.length → ∀ b o, A = some ⟨b, o, none⟩ → base ≤ b) := by
  refine ⟨fun h0 => ?_, fun h0 b o e => (h.lt b (by rw [e]; rfl)).1⟩
  obtain ⟨b, cap, e, _, _, hb, _⟩ := ownsRow_slice h h0
  simp only [Value.slice.injEq] at e
  obtain ⟨rfl, _, rfl⟩ := e
  refine ⟨b, 0, rfl, hb, fun i hi => ?_⟩
  have at2 := fun r (hr : r < 2) => flat_at (f := rC) (sz := 2) (fun _ => rfl) l i r hi hr
  rw [Nat.zero_add, h.cellAt (i * 2) (by omega), h.cellAt (i * 2 + 1) (by omega)]
  exact ⟨at2 0 (by omega), at2 1 (by omega)⟩

set_option maxRecDepth 20000 in
set_option maxHeartbeats 8000000 in
theorem decode_good (A : Option Addr) (n c : Nat) (zs : List Int) (w : World) (hs : Shows w w.heap.size A n zs) (h40 : 40 ≤ n) (hn : n ≤ 1048576) (hnc : n ≤ c) (hc : c ≤ maxLen)
    (hE : headE n (hcell zs 0) (hcell zs 1) (hcell zs 2) (hcell zs 3) (hcell zs 4) (hcell zs 5) (hcell zs 6) (hcell zs 8) (hcell zs 9) = 0) :
    Calls Try.prog 16 #[.slice A n c] w fun e w' => DecOut w' zs e ∧ Below w.heap.size w w' := by
  have hl := hs.1
  obtain ⟨hh1, ⟨hh2, hh2', hh9, _⟩, ⟨hh3, hh3', hh8⟩, ⟨hh4, hh4', _⟩⟩ := head_good hE
  have hX := (Below.refl w.heap.size w).alloc (Nat.le_refl _) (.cells #[.int .u32 0, .slice none 0 0, .string ⟨#[]⟩, .slice none 0 0, .slice none 0 0] 40)
  have CH := Lib.hid (header_yes A n c zs (w.alloc (.cells #[.int .u32 0, .slice none 0 0, .string ⟨#[]⟩, .slice none 0 0, .slice none 0 0] 40)) ((hs.below hX).more (by simp)) h40 hn hnc hc 0 hE)
  have hFB : ∀ i, 0 ≤ hcell zs i ∧ hcell zs i ≤ 4294967295 := fun i => hcell_bound hs.byte i
  obtain ⟨ans1, hans1⟩ : ∃ ans1, resF zs (n + 1) (hcell zs 4).toNat [] = ans1 := ⟨_, rfl⟩
  obtain ⟨ans2, hans2⟩ : ∃ ans2, rootF (partL zs (hcell zs 2).toNat (hcell zs 9).toNat) (partL zs (hcell zs 3).toNat (hcell zs 8).toNat) ((hcell zs 9).toNat + 1) start = ans2 := ⟨_, rfl⟩
  have HRA : Hid (readAll zs = bothF ans1 ans2) := by
    rw [readAll_both, hl, hans1, hans2]
    exact Lib.hid rfl
  obtain ⟨f, hf⟩ : ∃ f, hcell zs = f := ⟨_, rfl⟩
  rw [hf] at hh1 hh2 hh2' hh9 hh3 hh3' hh8 hh4 hh4' CH hFB hans1 hans2
  have hx : (f 0, f 1, f 2, f 3) = (f 0, f 1, f 2, f 3) := rfl
  clear hx
  have HS := Lib.hid hs
  have HX := Lib.hid hX
  have HF7 := Lib.hid (show hcell zs 7 = f 7 by rw [hf])
  have hb2 := hFB 2; have hb3 := hFB 3; have hb4 := hFB 4; have hb8 := hFB 8; have hb9 := hFB 9; have hb7 := hFB 7
  obtain ⟨b2a, b2b⟩ := hb2; obtain ⟨b3a, b3b⟩ := hb3; obtain ⟨b4a, b4b⟩ := hb4; obtain ⟨b8a, b8b⟩ := hb8; obtain ⟨b9a, b9b⟩ := hb9; obtain ⟨b7a, b7b⟩ := hb7
  have HA1 := Lib.hid hans1
  have HA2 := Lib.hid hans2
  clear hs hE hX hf hans1 hans2 hFB hh1
  go_enter Try.func16, Try.ntmps16
  go_wp2_with fail
  refine CH.out.mono ?_
  rintro e w1 ⟨⟨v, rfl, hv, _⟩, hb1⟩
  obtain rfl := hv rfl
  rw [filled_all]
  have HB1 := Lib.hid (HX.out.trans (hb1.mono (by simp)))
  have hlt1 : w.heap.size < w1.heap.size := by have := hb1.size; simp at this; omega
  have BF : Hid (∀ W : World, Below (w.heap.size + 1) w1 W → (W.cell? ⟨w.heap.size, 0, none⟩ = some (.int .u32 0) ∧ W.cell? ⟨w.heap.size, 1, none⟩ = some (.slice none 0 0) ∧ W.cell? ⟨w.heap.size, 2, none⟩ = some (.string ⟨#[]⟩) ∧ W.cell? ⟨w.heap.size, 3, none⟩ = some (.slice none 0 0) ∧ W.cell? ⟨w.heap.size, 4, none⟩ = some (.slice none 0 0)) ∧
      (W.frozen? ⟨w.heap.size, 0, none⟩ = false ∧ W.frozen? ⟨w.heap.size, 1, none⟩ = false ∧ W.frozen? ⟨w.heap.size, 2, none⟩ = false ∧ W.frozen? ⟨w.heap.size, 3, none⟩ = false ∧ W.frozen? ⟨w.heap.size, 4, none⟩ = false) ∧ w.heap.size < W.heap.size) := by
    have hb1' : Below (w.heap.size + 1) (w.alloc (.cells #[.int .u32 0, .slice none 0 0, .string ⟨#[]⟩, .slice none 0 0, .slice none 0 0] 40)) w1 := by simpa using hb1
    refine Lib.hid (fun W hW => ?_)
    have hb := hb1'.trans hW
    have cc := fun i => (hb.cell (p := ⟨w.heap.size, i, none⟩) (Nat.lt_succ_self _)).trans (World.cell?_alloc_new _ _ _ _)
    have ff := fun i => (hb.frozen (p := ⟨w.heap.size, i, none⟩) (Nat.lt_succ_self _)).trans (World.frozen?_alloc_new _ _ _ _)
    exact ⟨⟨cc 0, cc 1, cc 2, cc 3, cc 4⟩, ⟨ff 0, ff 1, ff 2, ff 3, ff 4⟩, by have := hW.size; omega⟩
  have HTB : Hid (Below (w.heap.size + 1) w1 (w1.alloc (.cells #[.int .u32 (f 0), .int .u32 (f 1), .int .u32 (f 2), .int .u32 (f 3), .int .u32 (f 4), .int .u32 (f 5), .int .u32 (f 6), .int .u32 (f 7), .int .u32 (f 8), .int .u32 (f 9)] 23))) := Lib.hid ((Below.refl _ _).alloc hlt1 _)
  have CR := Lib.hid (fun (q0 : Int) (hq : q0 = ((f 4).toNat : Int)) => readReserves_any (w := w1.alloc (.cells #[.int .u32 (f 0), .int .u32 (f 1), .int .u32 (f 2), .int .u32 (f 3), .int .u32 (f 4), .int .u32 (f 5), .int .u32 (f 6), .int .u32 (f 7), .int .u32 (f 8), .int .u32 (f 9)] 23)) q0 hq (((HS.out.below HB1.out).below ((Below.refl w.heap.size w1).alloc (Nat.le_of_lt hlt1) _)).more (by simp; omega)) hn hnc hc (by omega) ans1 HA1.out)
  clear hb1 CH HX
  go_wp2_with fail
  refine (CR.out _ (by omega)).mono ?_
  rintro e w3 ⟨⟨v, rfl, hok, herr⟩, hb3'⟩
  have hb3 : Below (w1.heap.size + 1) (w1.alloc (.cells #[.int .u32 (f 0), .int .u32 (f 1), .int .u32 (f 2), .int .u32 (f 3), .int .u32 (f 4), .int .u32 (f 5), .int .u32 (f 6), .int .u32 (f 7), .int .u32 (f 8), .int .u32 (f 9)] 23)) w3 := by simpa using hb3'
  have AF : Hid (∀ W : World, Below (w1.heap.size + 1) (w1.alloc (.cells #[.int .u32 (f 0), .int .u32 (f 1), .int .u32 (f 2), .int .u32 (f 3), .int .u32 (f 4), .int .u32 (f 5), .int .u32 (f 6), .int .u32 (f 7), .int .u32 (f 8), .int .u32 (f 9)] 23)) W →
      W.cell? ⟨w1.heap.size, 2, none⟩ = some (.int .u32 (f 2)) ∧ W.cell? ⟨w1.heap.size, 9, none⟩ = some (.int .u32 (f 9)) ∧ W.cell? ⟨w1.heap.size, 3, none⟩ = some (.int .u32 (f 3)) ∧ W.cell? ⟨w1.heap.size, 8, none⟩ = some (.int .u32 (f 8)) ∧ W.cell? ⟨w1.heap.size, 7, none⟩ = some (.int .u32 (f 7))) := Lib.hid (fun W hW =>
    have cc := fun i => (hW.cell (p := ⟨w1.heap.size, i, none⟩) (Nat.lt_succ_self _)).trans (World.cell?_alloc_new _ _ _ _)
    ⟨cc 2, cc 9, cc 3, cc 8, cc 7⟩)
  have TF : Hid (∀ W : World, Below (w1.heap.size + 1) (w1.alloc (.cells #[.int .u32 (f 0), .int .u32 (f 1), .int .u32 (f 2), .int .u32 (f 3), .int .u32 (f 4), .int .u32 (f 5), .int .u32 (f 6), .int .u32 (f 7), .int .u32 (f 8), .int .u32 (f 9)] 23)) W → Below (w.heap.size + 1) w1 W ∧ Below w.heap.size w W ∧ w1.heap.size < W.heap.size) := Lib.hid (fun W hW =>
    ⟨HTB.out.trans (hW.mono (by omega)), HB1.out.trans ((HTB.out.trans (hW.mono (by omega))).mono (Nat.le_succ _)), by have := hW.size; simp at this; omega⟩)
  obtain ⟨⟨x0, x1, x2, x3, x4⟩, ⟨y0, y1, y2, y3, y4⟩, xlt⟩ := BF.out w3 (TF.out w3 hb3).1
  have HOUT : Hid (∀ (W : World) (u0 u1 u2 u3 u4 : Value), Below (w1.heap.size + 1) (w1.alloc (.cells #[.int .u32 (f 0), .int .u32 (f 1), .int .u32 (f 2), .int .u32 (f 3), .int .u32 (f 4), .int .u32 (f 5), .int .u32 (f 6), .int .u32 (f 7), .int .u32 (f 8), .int .u32 (f 9)] 23)) W →
      Below w.heap.size w (((((W.setCell ⟨w.heap.size, 0, none⟩ u0).setCell ⟨w.heap.size, 1, none⟩ u1).setCell ⟨w.heap.size, 2, none⟩ u2).setCell ⟨w.heap.size, 3, none⟩ u3).setCell ⟨w.heap.size, 4, none⟩ u4)) :=
    Lib.hid (fun W u0 u1 u2 u3 u4 hW => ((((((TF.out W hW).2.1.setCell (Nat.le_refl _) _).setCell (Nat.le_refl _) _).setCell (Nat.le_refl _) _).setCell (Nat.le_refl _) _).setCell (Nat.le_refl _) _))
  have HB3 := Lib.hid hb3
  clear hb3 hb3' CR
  cases ans1 with
  | error E1 =>
    have hE1 := resF_err_ne _ _ _ _ HA1.out
    obtain rfl := herr E1 rfl
    have n1 : (errOf (Except.error E1 : Except Int (List (Int × Int))) != 0) = true := by rw [bne_iff_ne]; exact hE1
    clear hE1 hok herr
    go_wp2
    refine bodyPost_ret (v := .tuple #[zeroTv, .int .i64 E1]) (by simp [results, Try.results16, go_sem, x0, x1, x2, x3, x4, xlt, errOf]; try rfl) rfl ?_
    refine ⟨⟨fun E h => ?_, fun rs pn h => ?_⟩, HOUT.out _ _ _ _ _ _ HB3.out⟩
    · rw [HRA.out] at h
      have h' : E1 = E := Except.error.inj h
      rw [h']
    · rw [HRA.out] at h; cases h
  | ok rs =>
    obtain ⟨hown, hnum⟩ := hok rs rfl
    obtain ⟨Ar, cr, rfl, hr1, hr2⟩ := own_val hown
    have HO := Lib.hid hown
    have HN := Lib.hid hnum
    have n0 : (errOf (Except.ok rs : Except Int (List (Int × Int))) != 0) = false := rfl
    obtain ⟨a2, a9, a3, a8, _⟩ := AF.out w3 HB3.out
    clear hok herr hown hnum
    have SA : Hid (∀ W : World, Below (w1.heap.size + 1) (w1.alloc (.cells #[.int .u32 (f 0), .int .u32 (f 1), .int .u32 (f 2), .int .u32 (f 3), .int .u32 (f 4), .int .u32 (f 5), .int .u32 (f 6), .int .u32 (f 7), .int .u32 (f 8), .int .u32 (f 9)] 23)) W → (fun W => W.cell? ⟨w1.heap.size, 2, none⟩ = some (.int .u32 (f 2)) ∧ W.cell? ⟨w1.heap.size, 9, none⟩ = some (.int .u32 (f 9)) ∧ W.cell? ⟨w1.heap.size, 3, none⟩ = some (.int .u32 (f 3)) ∧ W.cell? ⟨w1.heap.size, 8, none⟩ = some (.int .u32 (f 8))) W) := Lib.hid (fun W hW => ⟨(AF.out W hW).1, (AF.out W hW).2.1, (AF.out W hW).2.2.1, (AF.out W hW).2.2.2.1⟩)
    have HBd := Lib.hid HB3.out.drew
    obtain ⟨k2, hk2⟩ : ∃ k2 : Nat, f 2 = (k2 : Int) := ⟨(f 2).toNat, by omega⟩
    obtain ⟨k9, hk9⟩ : ∃ k9 : Nat, f 9 = (k9 : Int) := ⟨(f 9).toNat, by omega⟩
    obtain ⟨k3, hk3⟩ : ∃ k3 : Nat, f 3 = (k3 : Int) := ⟨(f 3).toNat, by omega⟩
    obtain ⟨k8, hk8⟩ : ∃ k8 : Nat, f 8 = (k8 : Int) := ⟨(f 8).toNat, by omega⟩
    have ha2 : rootF (partL zs k2 k9) (partL zs k3 k8) (k9 + 1) start = ans2 := by have := HA2.out; rw [hk2, hk9, hk3, hk8] at this; simpa using this
    have P1 := Lib.hid (fun W => part_any A n c k2 k9 (f 2) (f 9) hk2 hk9 (by omega) hnc W)
    have P2 := Lib.hid (fun W => part_any A n c k3 k8 (f 3) (f 8) hk3 hk8 (by omega) hnc W)
    have CRT : Hid (∀ W : World, Below (w1.heap.size + 1) (w1.alloc (.cells #[.int .u32 (f 0), .int .u32 (f 1), .int .u32 (f 2), .int .u32 (f 3), .int .u32 (f 4), .int .u32 (f 5), .int .u32 (f 6), .int .u32 (f 7), .int .u32 (f 8), .int .u32 (f 9)] 23)) W → Calls Try.prog 30 #[.slice (cutAt A c k2) k9 (c - k2), .slice (cutAt A c k3) k8 (c - k3)] W fun e w' => RootOut W.heap.size w' ans2 e ∧ Below W.heap.size W w') := Lib.hid (fun W hW => by
      have hsW := (HS.out.below (TF.out W hW).2.1).more (TF.out W hW).2.1.size
      have s1 := hsW.cut (l := k2) (h := k2 + k9) (by omega) (by omega) hnc
      have s2 := hsW.cut (l := k3) (h := k3 + k8) (by omega) (by omega) hnc
      simp only [Nat.add_sub_cancel_left] at s1 s2
      exact readRoot_any s1 (by omega) (by omega) (by have : c ≤ 9223372036854775807 := hc; omega) s2 (by omega) (by omega) (by have : c ≤ 9223372036854775807 := hc; omega) ans2 ha2)
    have n2 : ∀ n : PN, (errOf (Except.ok n : Except Int PN) != 0) = false := fun _ => rfl
    have hrs64 := resF_len _ _ _ _ HA1.out
    have HA3 := Lib.hid ha2
    have HK := Lib.hid (⟨hk2, hk9, hk3, hk8⟩ : f 2 = (k2 : Int) ∧ f 9 = (k9 : Int) ∧ f 3 = (k3 : Int) ∧ f 8 = (k8 : Int))
    clear ha2 HA2 a2 a9 a3 a8 hk2 hk9 hk3 hk8
    obtain ⟨aa2, aa9, aa3, aa8⟩ := SA.out w3 HB3.out
    go_wp2_with fail
    refine wp_region_held_drew (S := (fun W => W.cell? ⟨w1.heap.size, 2, none⟩ = some (.int .u32 (f 2)) ∧ W.cell? ⟨w1.heap.size, 9, none⟩ = some (.int .u32 (f 9)) ∧ W.cell? ⟨w1.heap.size, 3, none⟩ = some (.int .u32 (f 3)) ∧ W.cell? ⟨w1.heap.size, 8, none⟩ = some (.int .u32 (f 8)))) (by kernel_rfl) (SA.out _ HBd.out) (fun hHeld => ?_)
    refine held_take 0 rfl (by kernel_rfl) (by kernel_rfl) (by kernel_rfl) (fun _ _ _ h => h) (by rfl) hHeld (v := ?_) (fun w hSw => ?_) (fun _ => ?_)
    rotate_left
    · ((try dsimp only at hSw); go_simp; (try with_reducible rfl))
    simp only [Act.put, List.setIfInBounds_toArray, List.set_cons_zero, List.set_cons_succ]
    refine held_take 1 rfl (by kernel_rfl) (by kernel_rfl) (by kernel_rfl) (fun _ _ _ h => h) (by rfl) hHeld (v := ?_) (fun w hSw => ?_) (fun _ => ?_)
    rotate_left
    · ((try dsimp only at hSw); go_simp; (try with_reducible rfl))
    simp only [Act.put, List.setIfInBounds_toArray, List.set_cons_zero, List.set_cons_succ]
    refine held_take 2 rfl (by kernel_rfl) (by kernel_rfl) (by kernel_rfl) (fun _ _ _ h => h) (by rfl) hHeld (v := ?_) (fun w hSw => ?_) (fun _ => ?_)
    rotate_left
    · ((try dsimp only at hSw); go_simp; (try with_reducible rfl))
    simp only [Act.put, List.setIfInBounds_toArray, List.set_cons_zero, List.set_cons_succ]
    refine held_take 3 rfl (by kernel_rfl) (by kernel_rfl) (by kernel_rfl) (fun _ _ _ h => h) (by rfl) hHeld (v := ?_) (fun w hSw => ?_) (fun _ => ?_)
    rotate_left
    · ((try dsimp only at hSw); go_simp; (try with_reducible rfl))
    simp only [Act.put, List.setIfInBounds_toArray, List.set_cons_zero, List.set_cons_succ]
    refine held_take 4 rfl (by kernel_rfl) (by kernel_rfl) (by kernel_rfl) (fun _ _ _ h => h) (by rfl) hHeld (v := ?_) (fun w hSw => ?_) (fun _ => ?_)
    rotate_left
    · ((try dsimp only at hSw); go_simp; (try with_reducible rfl))
    simp only [Act.put, List.setIfInBounds_toArray, List.set_cons_zero, List.set_cons_succ]
    refine held_take 6 rfl (by kernel_rfl) (by kernel_rfl) (by kernel_rfl) (fun _ _ _ h => h) (by rfl) hHeld (v := ?_) (fun w hSw => ?_) (fun _ => ?_)
    rotate_left
    · ((try dsimp only at hSw); go_simp; (try with_reducible rfl))
    simp only [Act.put, List.setIfInBounds_toArray, List.set_cons_zero, List.set_cons_succ]
    refine held_take 7 rfl (by kernel_rfl) (by kernel_rfl) (by kernel_rfl) (fun _ _ _ h => h) (by rfl) hHeld (v := ?_) (fun w hSw => ?_) (fun _ => ?_)
    rotate_left
    · ((try dsimp only at hSw); go_simp; (try with_reducible rfl))
    simp only [Act.put, List.setIfInBounds_toArray, List.set_cons_zero, List.set_cons_succ]
    refine held_take 8 rfl (by kernel_rfl) (by kernel_rfl) (by kernel_rfl) (fun _ _ _ h => h) (by rfl) hHeld (v := ?_) (fun w hSw => ?_) (fun _ => ?_)
    rotate_left
    · ((try dsimp only at hSw); go_simp; (try with_reducible rfl))
    simp only [Act.put, List.setIfInBounds_toArray, List.set_cons_zero, List.set_cons_succ]
    refine held_take 9 rfl (by kernel_rfl) (by kernel_rfl) (by kernel_rfl) (fun _ _ _ h => h) (by rfl) hHeld (v := ?_) (fun w hSw => ?_) (fun _ => ?_)
    rotate_left
    · ((try dsimp only at hSw); go_simp; (try with_reducible rfl))
    simp only [Act.put, List.setIfInBounds_toArray, List.set_cons_zero, List.set_cons_succ]
    refine held_take 10 rfl (by kernel_rfl) (by kernel_rfl) (by kernel_rfl) (fun _ _ _ h => h) (by rfl) hHeld (v := ?_) (fun w hSw => ?_) (fun _ => ?_)
    rotate_left
    · ((try dsimp only at hSw); go_simp; (try with_reducible rfl))
    simp only [Act.put, List.setIfInBounds_toArray, List.set_cons_zero, List.set_cons_succ]
    have HBa : Hid (Below (w1.heap.size + 1) (w1.alloc (.cells #[.int .u32 (f 0), .int .u32 (f 1), .int .u32 (f 2), .int .u32 (f 3), .int .u32 (f 4), .int .u32 (f 5), .int .u32 (f 6), .int .u32 (f 7), .int .u32 (f 8), .int .u32 (f 9)] 23)) (w3.alloc zeroN).drew) := Lib.hid ((HB3.out.alloc (by have := (TF.out w3 HB3.out).2.2; omega) _).drew)
    refine held_two 5 16 (by kernel_rfl) rfl rfl (by rfl) (by rfl) (fun K hK => ?_) (fun K hK => ?_)
    · go_simp
      refine (P1.out _).mono ?_
      rintro e w4 ⟨rfl, rfl⟩
      dsimp only
      refine hK.out _ _ hHeld (fun hHeld => ?_)
      clear hK K
      refine held_two 11 16 (by kernel_rfl) rfl rfl (by rfl) (by rfl) (fun K hK => ?_) (fun K hK => ?_)
      · go_simp
        refine (P2.out _).mono ?_
        rintro e w4 ⟨rfl, rfl⟩
        dsimp only
        refine hK.out _ _ hHeld (fun hHeld => ?_)
        clear hK K
        refine held_two 12 16 (by kernel_rfl) rfl rfl (by rfl) (by rfl) (fun K hK => ?_) (fun K hK => ?_)
        · go_simp
          refine (CRT.out _ HBd.out).mono ?_
          rintro e w5 ⟨⟨v5, rfl, hok5, herr5⟩, hb5⟩
          have HB5 := Lib.hid (HBd.out.trans (hb5.mono (by have := (TF.out _ HBd.out).2.2; omega)))
          dsimp only
          refine hK.out _ _ (SA.out _ HB5.out) (fun hHeld => ?_)
          clear hK K
          have HTB2 : w1.heap.size + 1 ≤ w5.heap.size := by have := (TF.out w5 HB5.out).2.2; omega
          have HB6 := Lib.hid (HB5.out.alloc HTB2 zeroN)
          have HB35 : Hid (Below w3.heap.size w3 w5) := Lib.hid ((Below.refl w3.heap.size w3).drew.trans hb5)
          refine held_take 13 rfl (by kernel_rfl) (by kernel_rfl) (by kernel_rfl) (fun _ _ _ h => h) (by rfl) hHeld (v := ?_) (fun w hSw => ?_) (fun _ => ?_)
          rotate_left
          · ((try dsimp only at hSw); go_simp; (try with_reducible rfl))
          simp only [Act.put, List.setIfInBounds_toArray, List.set_cons_zero, List.set_cons_succ]
          cases ans2 with
          | error E2 =>
            have hE2 := rootF_ok_ne _ _ _ HA3.out
            obtain rfl := herr5 E2 rfl
            have n3 : (errOf (Except.error E2 : Except Int PN) != 0) = true := by rw [bne_iff_ne]; exact hE2
            clear hok5 herr5 hE2 hb5
            refine held_take 14 rfl (by kernel_rfl) (by kernel_rfl) (by kernel_rfl) (fun _ _ _ h => h) (by rfl) hHeld (v := ?_) (fun w hSw => ?_) (fun _ => ?_)
            rotate_left
            · ((try dsimp only at hSw); go_simp; (try with_reducible rfl))
            simp only [Act.put, List.setIfInBounds_toArray, List.set_cons_zero, List.set_cons_succ]
            refine held_take 15 rfl (by kernel_rfl) (by kernel_rfl) (by kernel_rfl) (fun _ _ _ h => h) (by rfl) hHeld (v := ?_) (fun w hSw => ?_) (fun _ => ?_)
            rotate_left
            · ((try dsimp only at hSw); go_simp; (try with_reducible rfl))
            simp only [Act.put, List.setIfInBounds_toArray, List.set_cons_zero, List.set_cons_succ]
            refine held_call 16 (by kernel_rfl) rfl (by rfl) (fun K hK => ?_)
            go_simp
            refine hK.out _ _ (SA.out _ HB6.out) (fun hHeld => ?_)
            clear hK K
            have HB7 := Lib.hid (show Below (w1.heap.size + 1) (w1.alloc (.cells #[.int .u32 (f 0), .int .u32 (f 1), .int .u32 (f 2), .int .u32 (f 3), .int .u32 (f 4), .int .u32 (f 5), .int .u32 (f 6), .int .u32 (f 7), .int .u32 (f 8), .int .u32 (f 9)] 23)) (w5.alloc (.cells #[.string ⟨#[]⟩, .slice none 0 0, .slice none 0 0] 38)) from HB5.out.alloc HTB2 _)
            refine held_call 17 (by kernel_rfl) rfl (by rfl) (fun K hK => ?_)
            go_simp
            refine hK.out _ _ (SA.out _ HB7.out) (fun hHeld => ?_)
            clear hK K
            refine held_take 18 rfl (by kernel_rfl) (by kernel_rfl) (by kernel_rfl) (fun _ _ _ h => h) (by rfl) hHeld (v := ?_) (fun w hSw => ?_) (fun _ => ?_)
            rotate_left
            · ((try dsimp only at hSw); go_simp; (try with_reducible rfl))
            simp only [Act.put, List.setIfInBounds_toArray, List.set_cons_zero, List.set_cons_succ]
            obtain ⟨⟨x0, x1, x2, x3, x4⟩, ⟨y0, y1, y2, y3, y4⟩, xlt⟩ := BF.out w5 (TF.out w5 HB5.out).1
            refine wpAnyH_done (by kernel_rfl) ?_ _
            clear hHeld
            go_wp2
            refine bodyPost_ret (v := .tuple #[zeroTv, .int .i64 E2]) (by simp [results, Try.results16, go_sem, x0, x1, x2, x3, x4, xlt, errOf]; try rfl) rfl ?_
            refine ⟨⟨fun E h => ?_, fun rs' pn h => ?_⟩, (HOUT.out _ _ _ _ _ _ HB5.out).alloc (by have h9 := (TF.out w5 HB5.out).2.1.size; simpa using h9) _⟩
            · rw [HRA.out] at h
              have h' : E2 = E := Except.error.inj h
              rw [h']
            · rw [HRA.out] at h; cases h
          | ok pn =>
            obtain ⟨nd, rfl, hin5, hat5, rfl⟩ := hok5 pn rfl
            have HIN5 := Lib.hid hin5
            have HAT5 : Hid (nd.At (fun b => w3.heap.size + 0 ≤ b)) := Lib.hid (hat5.mono (fun b hb => by simpa using hb))
            clear hok5 herr5 hin5 hat5 hb5
            rw [show nd.val = .agg #[.string nd.name, .slice nd.pa nd.props.length nd.pc, .slice nd.ka nd.kids.length nd.kc] from rfl]
            refine held_take 14 rfl (by kernel_rfl) (by kernel_rfl) (by kernel_rfl) (fun _ _ _ h => h) (by rfl) hHeld (v := ?_) (fun w hSw => ?_) (fun _ => ?_)
            rotate_left
            · ((try dsimp only at hSw); go_simp; (try with_reducible rfl))
            simp only [Act.put, List.setIfInBounds_toArray, List.set_cons_zero, List.set_cons_succ]
            refine held_take 15 rfl (by kernel_rfl) (by kernel_rfl) (by kernel_rfl) (fun _ _ _ h => h) (by rfl) hHeld (v := ?_) (fun w hSw => ?_) (fun _ => ?_)
            rotate_left
            · ((try dsimp only at hSw); go_simp; (try with_reducible rfl))
            simp only [Act.put, List.setIfInBounds_toArray, List.set_cons_zero, List.set_cons_succ]
            refine held_call 16 (by kernel_rfl) rfl (by rfl) (fun K hK => ?_)
            go_simp
            refine hK.out _ _ (SA.out _ HB6.out) (fun hHeld => ?_)
            clear hK K
            have HB7 := Lib.hid (show Below (w1.heap.size + 1) (w1.alloc (.cells #[.int .u32 (f 0), .int .u32 (f 1), .int .u32 (f 2), .int .u32 (f 3), .int .u32 (f 4), .int .u32 (f 5), .int .u32 (f 6), .int .u32 (f 7), .int .u32 (f 8), .int .u32 (f 9)] 23)) (w5.alloc (.cells #[.string nd.name, .slice nd.pa nd.props.length nd.pc, .slice nd.ka nd.kids.length nd.kc] 38)) from HB5.out.alloc HTB2 _)
            refine held_call 17 (by kernel_rfl) rfl (by rfl) (fun K hK => ?_)
            go_simp
            refine hK.out _ _ (SA.out _ HB7.out) (fun hHeld => ?_)
            clear hK K
            refine held_take 18 rfl (by kernel_rfl) (by kernel_rfl) (by kernel_rfl) (fun _ _ _ h => h) (by rfl) hHeld (v := ?_) (fun w hSw => ?_) (fun _ => ?_)
            rotate_left
            · ((try dsimp only at hSw); go_simp; (try with_reducible rfl))
            simp only [Act.put, List.setIfInBounds_toArray, List.set_cons_zero, List.set_cons_succ]
            refine wpAnyH_done (by kernel_rfl) ?_ _
            clear hHeld
            have HIN7 := Lib.hid (HIN5.out.on ((Below.refl w5.heap.size w5).alloc (Nat.le_refl _) (.cells #[.string nd.name, .slice nd.pa nd.props.length nd.pc, .slice nd.ka nd.kids.length nd.kc] 38)))
            have HB37 := Lib.hid (HB35.out.alloc HB35.out.size (.cells #[.string nd.name, .slice nd.pa nd.props.length nd.pc, .slice nd.ka nd.kids.length nd.kc] 38))
            have HUP : Hid (nd.At (fun b => w.heap.size + 1 ≤ b)) := Lib.hid (HAT5.out.mono (fun b hb => by have := (TF.out w3 HB3.out).2.2; omega))
            obtain ⟨tc0, tc1, tc2⟩ := new3_cells w5 (.string nd.name) (.slice nd.pa nd.props.length nd.pc) (.slice nd.ka nd.kids.length nd.kc)
            generalize hW7 : (w5.alloc (.cells #[.string nd.name, .slice nd.pa nd.props.length nd.pc, .slice nd.ka nd.kids.length nd.kc] 38)) = W7 at *
            clear hW7
            have HTR : Hid ((⟨f 7, Ar, cr, rs, nd⟩ : Tr).In W7 W7.heap.size) := Lib.hid ⟨⟨b7a, b7b⟩, ⟨hr1, hr2, by have := hrs64; show rs.length * 16 ≤ _; omega⟩, ((rrow_of HO.out).1.keep (fun a ha => HB37.out.cell ha)).more HB37.out.size, HN.out, HIN7.out⟩
            have HTU : Hid ((⟨f 7, Ar, cr, rs, nd⟩ : Tr).Up (w.heap.size + 1)) := Lib.hid ⟨fun h0 b o e => by have h1 := (rrow_of HO.out).2 h0 b o e; simp at h1; omega, HUP.out⟩
            obtain ⟨⟨x0, x1, x2, x3, x4⟩, ⟨y0, y1, y2, y3, y4⟩, xlt⟩ := BF.out W7 (TF.out W7 HB7.out).1
            obtain ⟨_, _, _, _, a7⟩ := AF.out W7 HB7.out
            have HB8 : Hid (Below (w1.heap.size + 1) (w1.alloc (.cells #[.int .u32 (f 0), .int .u32 (f 1), .int .u32 (f 2), .int .u32 (f 3), .int .u32 (f 4), .int .u32 (f 5), .int .u32 (f 6), .int .u32 (f 7), .int .u32 (f 8), .int .u32 (f 9)] 23)) (W7.alloc (.cells #[.int .u32 (f 7), .slice Ar rs.length cr, .string nd.name, .slice nd.pa nd.props.length nd.pc, .slice nd.ka nd.kids.length nd.kc] 40))) := Lib.hid (HB7.out.alloc (by have := (TF.out _ HB7.out).2.2; omega) _)
            obtain ⟨E, hE⟩ : ∃ E, checkE ⟨f 7, Ar, cr, rs, nd⟩ = E := ⟨_, rfl⟩
            have CK := Lib.hid (check_any ⟨f 7, Ar, cr, rs, nd⟩ _ (HTR.out.on ((Below.refl W7.heap.size W7).alloc (Nat.le_refl _) (.cells #[.int .u32 (f 7), .slice Ar rs.length cr, .string nd.name, .slice nd.pa nd.props.length nd.pc, .slice nd.ka nd.kids.length nd.kc] 40))) E hE)
            have HEE := Lib.hid hE
            clear hE x0 x1 x2 x3 x4 y0 y1 y2 y3 y4 xlt
            go_wp2_with fail
            refine CK.out.mono ?_
            rintro e w8 ⟨rfl, hb8⟩
            have HB9 := Lib.hid (HB8.out.trans (hb8.mono (by have := (TF.out _ HB8.out).2.2; omega)))
            have HTR8 := Lib.hid ((HTR.out.on ((Below.refl W7.heap.size W7).alloc (Nat.le_refl _) (.cells #[.int .u32 (f 7), .slice Ar rs.length cr, .string nd.name, .slice nd.pa nd.props.length nd.pc, .slice nd.ka nd.kids.length nd.kc] 40))).on hb8)
            obtain ⟨⟨x0, x1, x2, x3, x4⟩, ⟨y0, y1, y2, y3, y4⟩, xlt⟩ := BF.out w8 (TF.out w8 HB9.out).1
            have v8 := fun i => (hb8.cell (p := ⟨W7.heap.size, i, none⟩) (by simp)).trans (World.cell?_alloc_new W7 _ _ i)
            have v80 : w8.cell? ⟨W7.heap.size, 0, none⟩ = some (.int .u32 (f 7)) := v8 0
            have v81 : w8.cell? ⟨W7.heap.size, 1, none⟩ = some (.slice Ar rs.length cr) := v8 1
            have v82 : w8.cell? ⟨W7.heap.size, 2, none⟩ = some (.string nd.name) := v8 2
            have v83 : w8.cell? ⟨W7.heap.size, 3, none⟩ = some (.slice nd.pa nd.props.length nd.pc) := v8 3
            have v84 : w8.cell? ⟨W7.heap.size, 4, none⟩ = some (.slice nd.ka nd.kids.length nd.kc) := v8 4
            have hxx : w.heap.size < W7.heap.size := by have := (TF.out W7 HB7.out).1.size; have := (TF.out W7 HB7.out).2.2; omega
            have TRF : Hid (∀ u0 u1 u2 u3 u4 : Value, (⟨f 7, Ar, cr, rs, nd⟩ : Tr).In (((((w8.setCell ⟨w.heap.size, 0, none⟩ u0).setCell ⟨w.heap.size, 1, none⟩ u1).setCell ⟨w.heap.size, 2, none⟩ u2).setCell ⟨w.heap.size, 3, none⟩ u3).setCell ⟨w.heap.size, 4, none⟩ u4) (((((w8.setCell ⟨w.heap.size, 0, none⟩ u0).setCell ⟨w.heap.size, 1, none⟩ u1).setCell ⟨w.heap.size, 2, none⟩ u2).setCell ⟨w.heap.size, 3, none⟩ u3).setCell ⟨w.heap.size, 4, none⟩ u4).heap.size) := Lib.hid (fun u0 u1 u2 u3 u4 => HTR8.out.set5 HTU.out u0 u1 u2 u3 u4)
            clear hb8 v8 CK
            by_cases hE0 : E = 0
            · subst hE0
              go_wp2
              refine bodyPost_ret (v := .tuple #[(⟨f 7, Ar, cr, rs, nd⟩ : Tr).val, .int .i64 0]) (by simp [results, Try.results16, go_sem, x0, x1, x2, x3, x4, xlt, Tr.val, Tr.rv, Nd.pv, Nd.kv]; try rfl) rfl ?_
              refine ⟨⟨fun E h => ?_, fun rs' pn h => ?_⟩, HOUT.out _ _ _ _ _ _ HB9.out⟩
              · rw [HRA.out] at h; cases h
              · rw [HRA.out] at h
                have h' := Except.ok.inj h
                simp only [Prod.mk.injEq] at h'
                obtain ⟨rfl, rfl⟩ := h'
                exact ⟨⟨f 7, Ar, cr, rs, nd⟩, TRF.out _ _ _ _ _, HF7.out.symm, rfl, rfl, fun h => absurd HEE.out h, fun _ => rfl⟩
            · have nE : (E != 0) = true := by rw [bne_iff_ne]; exact hE0
              have HE0 := Lib.hid hE0
              clear hE0
              go_wp2
              refine bodyPost_ret (v := .tuple #[zeroTv, .int .i64 E]) (by simp [results, Try.results16, go_sem, x0, x1, x2, x3, x4, xlt]; try rfl) rfl ?_
              refine ⟨⟨fun E h => ?_, fun rs' pn h => ?_⟩, HOUT.out _ _ _ _ _ _ HB9.out⟩
              · rw [HRA.out] at h; cases h
              · rw [HRA.out] at h
                have h' := Except.ok.inj h
                simp only [Prod.mk.injEq] at h'
                obtain ⟨rfl, rfl⟩ := h'
                exact ⟨⟨f 7, Ar, cr, rs, nd⟩, TRF.out _ _ _ _ _, HF7.out.symm, rfl, rfl, fun _ => by rw [HEE.out], fun h => absurd (HEE.out.symm.trans h) HE0.out⟩
        · go_simp
          refine hK.out _ _ (SA.out _ HBa.out) (fun hHeld => ?_)
          clear hK K
          refine held_call 12 (by kernel_rfl) rfl (by rfl) (fun K hK => ?_)
          go_simp
          refine (CRT.out _ HBa.out).mono ?_
          rintro e w5 ⟨⟨v5, rfl, hok5, herr5⟩, hb5⟩
          have HB5 := Lib.hid (HBa.out.trans (hb5.mono (by have := (TF.out _ HBa.out).2.2; omega)))
          dsimp only
          refine hK.out _ _ (SA.out _ HB5.out) (fun hHeld => ?_)
          clear hK K
          have t50 : w5.cell? ⟨w3.heap.size, 0, none⟩ = some (.string ⟨#[]⟩) := (hb5.cell (p := ⟨w3.heap.size, 0, none⟩) (by simp)).trans (World.cell?_alloc_new w3 _ _ _)
          have t51 : w5.cell? ⟨w3.heap.size, 1, none⟩ = some (.slice none 0 0) := (hb5.cell (p := ⟨w3.heap.size, 1, none⟩) (by simp)).trans (World.cell?_alloc_new w3 _ _ _)
          have t52 : w5.cell? ⟨w3.heap.size, 2, none⟩ = some (.slice none 0 0) := (hb5.cell (p := ⟨w3.heap.size, 2, none⟩) (by simp)).trans (World.cell?_alloc_new w3 _ _ _)
          have u50 : w5.frozen? ⟨w3.heap.size, 0, none⟩ = false := (hb5.frozen (p := ⟨w3.heap.size, 0, none⟩) (by simp)).trans (World.frozen?_alloc_new w3 _ _ _)
          have u51 : w5.frozen? ⟨w3.heap.size, 1, none⟩ = false := (hb5.frozen (p := ⟨w3.heap.size, 1, none⟩) (by simp)).trans (World.frozen?_alloc_new w3 _ _ _)
          have u52 : w5.frozen? ⟨w3.heap.size, 2, none⟩ = false := (hb5.frozen (p := ⟨w3.heap.size, 2, none⟩) (by simp)).trans (World.frozen?_alloc_new w3 _ _ _)
          have lt5 : w3.heap.size < w5.heap.size := by have := hb5.size; simp at this; omega
          have HTB2 : w1.heap.size + 1 ≤ w3.heap.size := by have := (TF.out w3 HB3.out).2.2; omega
          have HB35 : Hid (Below w3.heap.size w3 w5) := Lib.hid ((((Below.refl w3.heap.size w3).alloc (Nat.le_refl _) zeroN).drew).trans (hb5.mono (by simp)))
          refine held_take 13 rfl (by kernel_rfl) (by kernel_rfl) (by kernel_rfl) (fun _ _ _ h => h) (by rfl) hHeld (v := ?_) (fun w hSw => ?_) (fun _ => ?_)
          rotate_left
          · ((try dsimp only at hSw); go_simp; (try with_reducible rfl))
          simp only [Act.put, List.setIfInBounds_toArray, List.set_cons_zero, List.set_cons_succ]
          cases ans2 with
          | error E2 =>
            have hE2 := rootF_ok_ne _ _ _ HA3.out
            obtain rfl := herr5 E2 rfl
            have n3 : (errOf (Except.error E2 : Except Int PN) != 0) = true := by rw [bne_iff_ne]; exact hE2
            clear hok5 herr5 hE2 hb5
            refine held_take 14 rfl (by kernel_rfl) (by kernel_rfl) (by kernel_rfl) (fun _ _ _ h => h) (by rfl) hHeld (v := ?_) (fun w hSw => ?_) (fun _ => ?_)
            rotate_left
            · ((try dsimp only at hSw); go_simp; (try with_reducible rfl))
            simp only [Act.put, List.setIfInBounds_toArray, List.set_cons_zero, List.set_cons_succ]
            refine held_take 15 rfl (by kernel_rfl) (by kernel_rfl) (by kernel_rfl) (fun _ _ _ h => h) (by rfl) hHeld (v := ?_) (fun w hSw => ?_) (fun _ => ?_)
            rotate_left
            · ((try dsimp only at hSw); go_simp; (try with_reducible rfl))
            simp only [Act.put, List.setIfInBounds_toArray, List.set_cons_zero, List.set_cons_succ]
            have HB7 := Lib.hid (show Below (w1.heap.size + 1) (w1.alloc (.cells #[.int .u32 (f 0), .int .u32 (f 1), .int .u32 (f 2), .int .u32 (f 3), .int .u32 (f 4), .int .u32 (f 5), .int .u32 (f 6), .int .u32 (f 7), .int .u32 (f 8), .int .u32 (f 9)] 23)) (((w5.setCell ⟨w3.heap.size, 0, none⟩ (.string ⟨#[]⟩)).setCell ⟨w3.heap.size, 1, none⟩ (.slice none 0 0)).setCell ⟨w3.heap.size, 2, none⟩ (.slice none 0 0)) from (((HB5.out.setCell HTB2 _).setCell HTB2 _).setCell HTB2 _))
            refine held_call 17 (by kernel_rfl) rfl (by rfl) (fun K hK => ?_)
            go_simp
            refine hK.out _ _ (SA.out _ HB7.out) (fun hHeld => ?_)
            clear hK K
            refine held_take 18 rfl (by kernel_rfl) (by kernel_rfl) (by kernel_rfl) (fun _ _ _ h => h) (by rfl) hHeld (v := ?_) (fun w hSw => ?_) (fun _ => ?_)
            rotate_left
            · ((try dsimp only at hSw); go_simp; (try with_reducible rfl))
            simp only [Act.put, List.setIfInBounds_toArray, List.set_cons_zero, List.set_cons_succ]
            obtain ⟨⟨x0, x1, x2, x3, x4⟩, ⟨y0, y1, y2, y3, y4⟩, xlt⟩ := BF.out w5 (TF.out w5 HB5.out).1
            refine wpAnyH_done (by kernel_rfl) ?_ _
            clear hHeld
            go_wp2
            refine bodyPost_ret (v := .tuple #[zeroTv, .int .i64 E2]) (by simp [results, Try.results16, go_sem, x0, x1, x2, x3, x4, xlt, errOf]; try rfl) rfl ?_
            refine ⟨⟨fun E h => ?_, fun rs' pn h => ?_⟩, HOUT.out _ _ _ _ _ _ HB7.out⟩
            · rw [HRA.out] at h
              have h' : E2 = E := Except.error.inj h
              rw [h']
            · rw [HRA.out] at h; cases h
          | ok pn =>
            obtain ⟨nd, rfl, hin5, hat5, rfl⟩ := hok5 pn rfl
            have HIN5 := Lib.hid hin5
            have HAT5 : Hid (nd.At (fun b => w3.heap.size + 1 ≤ b)) := Lib.hid (hat5.mono (fun b hb => by simpa using hb))
            clear hok5 herr5 hin5 hat5 hb5
            rw [show nd.val = .agg #[.string nd.name, .slice nd.pa nd.props.length nd.pc, .slice nd.ka nd.kids.length nd.kc] from rfl]
            refine held_take 14 rfl (by kernel_rfl) (by kernel_rfl) (by kernel_rfl) (fun _ _ _ h => h) (by rfl) hHeld (v := ?_) (fun w hSw => ?_) (fun _ => ?_)
            rotate_left
            · ((try dsimp only at hSw); go_simp; (try with_reducible rfl))
            simp only [Act.put, List.setIfInBounds_toArray, List.set_cons_zero, List.set_cons_succ]
            refine held_take 15 rfl (by kernel_rfl) (by kernel_rfl) (by kernel_rfl) (fun _ _ _ h => h) (by rfl) hHeld (v := ?_) (fun w hSw => ?_) (fun _ => ?_)
            rotate_left
            · ((try dsimp only at hSw); go_simp; (try with_reducible rfl))
            simp only [Act.put, List.setIfInBounds_toArray, List.set_cons_zero, List.set_cons_succ]
            have HB7 := Lib.hid (show Below (w1.heap.size + 1) (w1.alloc (.cells #[.int .u32 (f 0), .int .u32 (f 1), .int .u32 (f 2), .int .u32 (f 3), .int .u32 (f 4), .int .u32 (f 5), .int .u32 (f 6), .int .u32 (f 7), .int .u32 (f 8), .int .u32 (f 9)] 23)) (((w5.setCell ⟨w3.heap.size, 0, none⟩ (.string nd.name)).setCell ⟨w3.heap.size, 1, none⟩ (.slice nd.pa nd.props.length nd.pc)).setCell ⟨w3.heap.size, 2, none⟩ (.slice nd.ka nd.kids.length nd.kc)) from (((HB5.out.setCell HTB2 _).setCell HTB2 _).setCell HTB2 _))
            refine held_call 17 (by kernel_rfl) rfl (by rfl) (fun K hK => ?_)
            go_simp
            refine hK.out _ _ (SA.out _ HB7.out) (fun hHeld => ?_)
            clear hK K
            refine held_take 18 rfl (by kernel_rfl) (by kernel_rfl) (by kernel_rfl) (fun _ _ _ h => h) (by rfl) hHeld (v := ?_) (fun w hSw => ?_) (fun _ => ?_)
            rotate_left
            · ((try dsimp only at hSw); go_simp; (try with_reducible rfl))
            simp only [Act.put, List.setIfInBounds_toArray, List.set_cons_zero, List.set_cons_succ]
            refine wpAnyH_done (by kernel_rfl) ?_ _
            clear hHeld
            have HIN7 := Lib.hid (nd_set3 HIN5.out HAT5.out (.string nd.name) (.slice nd.pa nd.props.length nd.pc) (.slice nd.ka nd.kids.length nd.kc))
            have HB37 := Lib.hid (((HB35.out.setCell (p := ⟨w3.heap.size, 0, none⟩) (Nat.le_refl _) (.string nd.name)).setCell (p := ⟨w3.heap.size, 1, none⟩) (Nat.le_refl _) (.slice nd.pa nd.props.length nd.pc)).setCell (p := ⟨w3.heap.size, 2, none⟩) (Nat.le_refl _) (.slice nd.ka nd.kids.length nd.kc))
            have HUP : Hid (nd.At (fun b => w.heap.size + 1 ≤ b)) := Lib.hid (HAT5.out.mono (fun b hb => by have := (TF.out w3 HB3.out).2.2; omega))
            obtain ⟨tc0, tc1, tc2⟩ := set3_cells t50 t51 t52 (.string nd.name) (.slice nd.pa nd.props.length nd.pc) (.slice nd.ka nd.kids.length nd.kc)
            generalize hW7 : (((w5.setCell ⟨w3.heap.size, 0, none⟩ (.string nd.name)).setCell ⟨w3.heap.size, 1, none⟩ (.slice nd.pa nd.props.length nd.pc)).setCell ⟨w3.heap.size, 2, none⟩ (.slice nd.ka nd.kids.length nd.kc)) = W7 at *
            clear hW7
            have HTR : Hid ((⟨f 7, Ar, cr, rs, nd⟩ : Tr).In W7 W7.heap.size) := Lib.hid ⟨⟨b7a, b7b⟩, ⟨hr1, hr2, by have := hrs64; show rs.length * 16 ≤ _; omega⟩, ((rrow_of HO.out).1.keep (fun a ha => HB37.out.cell ha)).more HB37.out.size, HN.out, HIN7.out⟩
            have HTU : Hid ((⟨f 7, Ar, cr, rs, nd⟩ : Tr).Up (w.heap.size + 1)) := Lib.hid ⟨fun h0 b o e => by have h1 := (rrow_of HO.out).2 h0 b o e; simp at h1; omega, HUP.out⟩
            obtain ⟨⟨x0, x1, x2, x3, x4⟩, ⟨y0, y1, y2, y3, y4⟩, xlt⟩ := BF.out W7 (TF.out W7 HB7.out).1
            obtain ⟨_, _, _, _, a7⟩ := AF.out W7 HB7.out
            have HB8 : Hid (Below (w1.heap.size + 1) (w1.alloc (.cells #[.int .u32 (f 0), .int .u32 (f 1), .int .u32 (f 2), .int .u32 (f 3), .int .u32 (f 4), .int .u32 (f 5), .int .u32 (f 6), .int .u32 (f 7), .int .u32 (f 8), .int .u32 (f 9)] 23)) (W7.alloc (.cells #[.int .u32 (f 7), .slice Ar rs.length cr, .string nd.name, .slice nd.pa nd.props.length nd.pc, .slice nd.ka nd.kids.length nd.kc] 40))) := Lib.hid (HB7.out.alloc (by have := (TF.out _ HB7.out).2.2; omega) _)
            obtain ⟨E, hE⟩ : ∃ E, checkE ⟨f 7, Ar, cr, rs, nd⟩ = E := ⟨_, rfl⟩
            have CK := Lib.hid (check_any ⟨f 7, Ar, cr, rs, nd⟩ _ (HTR.out.on ((Below.refl W7.heap.size W7).alloc (Nat.le_refl _) (.cells #[.int .u32 (f 7), .slice Ar rs.length cr, .string nd.name, .slice nd.pa nd.props.length nd.pc, .slice nd.ka nd.kids.length nd.kc] 40))) E hE)
            have HEE := Lib.hid hE
            clear hE x0 x1 x2 x3 x4 y0 y1 y2 y3 y4 xlt
            go_wp2_with fail
            refine CK.out.mono ?_
            rintro e w8 ⟨rfl, hb8⟩
            have HB9 := Lib.hid (HB8.out.trans (hb8.mono (by have := (TF.out _ HB8.out).2.2; omega)))
            have HTR8 := Lib.hid ((HTR.out.on ((Below.refl W7.heap.size W7).alloc (Nat.le_refl _) (.cells #[.int .u32 (f 7), .slice Ar rs.length cr, .string nd.name, .slice nd.pa nd.props.length nd.pc, .slice nd.ka nd.kids.length nd.kc] 40))).on hb8)
            obtain ⟨⟨x0, x1, x2, x3, x4⟩, ⟨y0, y1, y2, y3, y4⟩, xlt⟩ := BF.out w8 (TF.out w8 HB9.out).1
            have v8 := fun i => (hb8.cell (p := ⟨W7.heap.size, i, none⟩) (by simp)).trans (World.cell?_alloc_new W7 _ _ i)
            have v80 : w8.cell? ⟨W7.heap.size, 0, none⟩ = some (.int .u32 (f 7)) := v8 0
            have v81 : w8.cell? ⟨W7.heap.size, 1, none⟩ = some (.slice Ar rs.length cr) := v8 1
            have v82 : w8.cell? ⟨W7.heap.size, 2, none⟩ = some (.string nd.name) := v8 2
            have v83 : w8.cell? ⟨W7.heap.size, 3, none⟩ = some (.slice nd.pa nd.props.length nd.pc) := v8 3
            have v84 : w8.cell? ⟨W7.heap.size, 4, none⟩ = some (.slice nd.ka nd.kids.length nd.kc) := v8 4
            have hxx : w.heap.size < W7.heap.size := by have := (TF.out W7 HB7.out).1.size; have := (TF.out W7 HB7.out).2.2; omega
            have TRF : Hid (∀ u0 u1 u2 u3 u4 : Value, (⟨f 7, Ar, cr, rs, nd⟩ : Tr).In (((((w8.setCell ⟨w.heap.size, 0, none⟩ u0).setCell ⟨w.heap.size, 1, none⟩ u1).setCell ⟨w.heap.size, 2, none⟩ u2).setCell ⟨w.heap.size, 3, none⟩ u3).setCell ⟨w.heap.size, 4, none⟩ u4) (((((w8.setCell ⟨w.heap.size, 0, none⟩ u0).setCell ⟨w.heap.size, 1, none⟩ u1).setCell ⟨w.heap.size, 2, none⟩ u2).setCell ⟨w.heap.size, 3, none⟩ u3).setCell ⟨w.heap.size, 4, none⟩ u4).heap.size) := Lib.hid (fun u0 u1 u2 u3 u4 => HTR8.out.set5 HTU.out u0 u1 u2 u3 u4)
            clear hb8 v8 CK
            by_cases hE0 : E = 0
            · subst hE0
              go_wp2
              refine bodyPost_ret (v := .tuple #[(⟨f 7, Ar, cr, rs, nd⟩ : Tr).val, .int .i64 0]) (by simp [results, Try.results16, go_sem, x0, x1, x2, x3, x4, xlt, Tr.val, Tr.rv, Nd.pv, Nd.kv]; try rfl) rfl ?_
              refine ⟨⟨fun E h => ?_, fun rs' pn h => ?_⟩, HOUT.out _ _ _ _ _ _ HB9.out⟩
              · rw [HRA.out] at h; cases h
              · rw [HRA.out] at h
                have h' := Except.ok.inj h
                simp only [Prod.mk.injEq] at h'
                obtain ⟨rfl, rfl⟩ := h'
                exact ⟨⟨f 7, Ar, cr, rs, nd⟩, TRF.out _ _ _ _ _, HF7.out.symm, rfl, rfl, fun h => absurd HEE.out h, fun _ => rfl⟩
            · have nE : (E != 0) = true := by rw [bne_iff_ne]; exact hE0
              have HE0 := Lib.hid hE0
              clear hE0
              go_wp2
              refine bodyPost_ret (v := .tuple #[zeroTv, .int .i64 E]) (by simp [results, Try.results16, go_sem, x0, x1, x2, x3, x4, xlt]; try rfl) rfl ?_
              refine ⟨⟨fun E h => ?_, fun rs' pn h => ?_⟩, HOUT.out _ _ _ _ _ _ HB9.out⟩
              · rw [HRA.out] at h; cases h
              · rw [HRA.out] at h
                have h' := Except.ok.inj h
                simp only [Prod.mk.injEq] at h'
                obtain ⟨rfl, rfl⟩ := h'
                exact ⟨⟨f 7, Ar, cr, rs, nd⟩, TRF.out _ _ _ _ _, HF7.out.symm, rfl, rfl, fun _ => by rw [HEE.out], fun h => absurd (HEE.out.symm.trans h) HE0.out⟩
      · go_simp
        refine hK.out _ _ (SA.out _ HBa.out) (fun hHeld => ?_)
        clear hK K
        refine held_call 11 (by kernel_rfl) rfl (by rfl) (fun K hK => ?_)
        go_simp
        refine (P2.out _).mono ?_
        rintro e w4 ⟨rfl, rfl⟩
        dsimp only
        refine hK.out _ _ hHeld (fun hHeld => ?_)
        clear hK K
        refine held_call 12 (by kernel_rfl) rfl (by rfl) (fun K hK => ?_)
        go_simp
        refine (CRT.out _ HBa.out).mono ?_
        rintro e w5 ⟨⟨v5, rfl, hok5, herr5⟩, hb5⟩
        have HB5 := Lib.hid (HBa.out.trans (hb5.mono (by have := (TF.out _ HBa.out).2.2; omega)))
        dsimp only
        refine hK.out _ _ (SA.out _ HB5.out) (fun hHeld => ?_)
        clear hK K
        have t50 : w5.cell? ⟨w3.heap.size, 0, none⟩ = some (.string ⟨#[]⟩) := (hb5.cell (p := ⟨w3.heap.size, 0, none⟩) (by simp)).trans (World.cell?_alloc_new w3 _ _ _)
        have t51 : w5.cell? ⟨w3.heap.size, 1, none⟩ = some (.slice none 0 0) := (hb5.cell (p := ⟨w3.heap.size, 1, none⟩) (by simp)).trans (World.cell?_alloc_new w3 _ _ _)
        have t52 : w5.cell? ⟨w3.heap.size, 2, none⟩ = some (.slice none 0 0) := (hb5.cell (p := ⟨w3.heap.size, 2, none⟩) (by simp)).trans (World.cell?_alloc_new w3 _ _ _)
        have u50 : w5.frozen? ⟨w3.heap.size, 0, none⟩ = false := (hb5.frozen (p := ⟨w3.heap.size, 0, none⟩) (by simp)).trans (World.frozen?_alloc_new w3 _ _ _)
        have u51 : w5.frozen? ⟨w3.heap.size, 1, none⟩ = false := (hb5.frozen (p := ⟨w3.heap.size, 1, none⟩) (by simp)).trans (World.frozen?_alloc_new w3 _ _ _)
        have u52 : w5.frozen? ⟨w3.heap.size, 2, none⟩ = false := (hb5.frozen (p := ⟨w3.heap.size, 2, none⟩) (by simp)).trans (World.frozen?_alloc_new w3 _ _ _)
        have lt5 : w3.heap.size < w5.heap.size := by have := hb5.size; simp at this; omega
        have HTB2 : w1.heap.size + 1 ≤ w3.heap.size := by have := (TF.out w3 HB3.out).2.2; omega
        have HB35 : Hid (Below w3.heap.size w3 w5) := Lib.hid ((((Below.refl w3.heap.size w3).alloc (Nat.le_refl _) zeroN).drew).trans (hb5.mono (by simp)))
        refine held_take 13 rfl (by kernel_rfl) (by kernel_rfl) (by kernel_rfl) (fun _ _ _ h => h) (by rfl) hHeld (v := ?_) (fun w hSw => ?_) (fun _ => ?_)
        rotate_left
        · ((try dsimp only at hSw); go_simp; (try with_reducible rfl))
        simp only [Act.put, List.setIfInBounds_toArray, List.set_cons_zero, List.set_cons_succ]
        cases ans2 with
        | error E2 =>
          have hE2 := rootF_ok_ne _ _ _ HA3.out
          obtain rfl := herr5 E2 rfl
          have n3 : (errOf (Except.error E2 : Except Int PN) != 0) = true := by rw [bne_iff_ne]; exact hE2
          clear hok5 herr5 hE2 hb5
          refine held_take 14 rfl (by kernel_rfl) (by kernel_rfl) (by kernel_rfl) (fun _ _ _ h => h) (by rfl) hHeld (v := ?_) (fun w hSw => ?_) (fun _ => ?_)
          rotate_left
          · ((try dsimp only at hSw); go_simp; (try with_reducible rfl))
          simp only [Act.put, List.setIfInBounds_toArray, List.set_cons_zero, List.set_cons_succ]
          refine held_take 15 rfl (by kernel_rfl) (by kernel_rfl) (by kernel_rfl) (fun _ _ _ h => h) (by rfl) hHeld (v := ?_) (fun w hSw => ?_) (fun _ => ?_)
          rotate_left
          · ((try dsimp only at hSw); go_simp; (try with_reducible rfl))
          simp only [Act.put, List.setIfInBounds_toArray, List.set_cons_zero, List.set_cons_succ]
          have HB7 := Lib.hid (show Below (w1.heap.size + 1) (w1.alloc (.cells #[.int .u32 (f 0), .int .u32 (f 1), .int .u32 (f 2), .int .u32 (f 3), .int .u32 (f 4), .int .u32 (f 5), .int .u32 (f 6), .int .u32 (f 7), .int .u32 (f 8), .int .u32 (f 9)] 23)) (((w5.setCell ⟨w3.heap.size, 0, none⟩ (.string ⟨#[]⟩)).setCell ⟨w3.heap.size, 1, none⟩ (.slice none 0 0)).setCell ⟨w3.heap.size, 2, none⟩ (.slice none 0 0)) from (((HB5.out.setCell HTB2 _).setCell HTB2 _).setCell HTB2 _))
          refine held_call 17 (by kernel_rfl) rfl (by rfl) (fun K hK => ?_)
          go_simp
          refine hK.out _ _ (SA.out _ HB7.out) (fun hHeld => ?_)
          clear hK K
          refine held_take 18 rfl (by kernel_rfl) (by kernel_rfl) (by kernel_rfl) (fun _ _ _ h => h) (by rfl) hHeld (v := ?_) (fun w hSw => ?_) (fun _ => ?_)
          rotate_left
          · ((try dsimp only at hSw); go_simp; (try with_reducible rfl))
          simp only [Act.put, List.setIfInBounds_toArray, List.set_cons_zero, List.set_cons_succ]
          obtain ⟨⟨x0, x1, x2, x3, x4⟩, ⟨y0, y1, y2, y3, y4⟩, xlt⟩ := BF.out w5 (TF.out w5 HB5.out).1
          refine wpAnyH_done (by kernel_rfl) ?_ _
          clear hHeld
          go_wp2
          refine bodyPost_ret (v := .tuple #[zeroTv, .int .i64 E2]) (by simp [results, Try.results16, go_sem, x0, x1, x2, x3, x4, xlt, errOf]; try rfl) rfl ?_
          refine ⟨⟨fun E h => ?_, fun rs' pn h => ?_⟩, HOUT.out _ _ _ _ _ _ HB7.out⟩
          · rw [HRA.out] at h
            have h' : E2 = E := Except.error.inj h
            rw [h']
          · rw [HRA.out] at h; cases h
        | ok pn =>
          obtain ⟨nd, rfl, hin5, hat5, rfl⟩ := hok5 pn rfl
          have HIN5 := Lib.hid hin5
          have HAT5 : Hid (nd.At (fun b => w3.heap.size + 1 ≤ b)) := Lib.hid (hat5.mono (fun b hb => by simpa using hb))
          clear hok5 herr5 hin5 hat5 hb5
          rw [show nd.val = .agg #[.string nd.name, .slice nd.pa nd.props.length nd.pc, .slice nd.ka nd.kids.length nd.kc] from rfl]
          refine held_take 14 rfl (by kernel_rfl) (by kernel_rfl) (by kernel_rfl) (fun _ _ _ h => h) (by rfl) hHeld (v := ?_) (fun w hSw => ?_) (fun _ => ?_)
          rotate_left
          · ((try dsimp only at hSw); go_simp; (try with_reducible rfl))
          simp only [Act.put, List.setIfInBounds_toArray, List.set_cons_zero, List.set_cons_succ]
          refine held_take 15 rfl (by kernel_rfl) (by kernel_rfl) (by kernel_rfl) (fun _ _ _ h => h) (by rfl) hHeld (v := ?_) (fun w hSw => ?_) (fun _ => ?_)
          rotate_left
          · ((try dsimp only at hSw); go_simp; (try with_reducible rfl))
          simp only [Act.put, List.setIfInBounds_toArray, List.set_cons_zero, List.set_cons_succ]
          have HB7 := Lib.hid (show Below (w1.heap.size + 1) (w1.alloc (.cells #[.int .u32 (f 0), .int .u32 (f 1), .int .u32 (f 2), .int .u32 (f 3), .int .u32 (f 4), .int .u32 (f 5), .int .u32 (f 6), .int .u32 (f 7), .int .u32 (f 8), .int .u32 (f 9)] 23)) (((w5.setCell ⟨w3.heap.size, 0, none⟩ (.string nd.name)).setCell ⟨w3.heap.size, 1, none⟩ (.slice nd.pa nd.props.length nd.pc)).setCell ⟨w3.heap.size, 2, none⟩ (.slice nd.ka nd.kids.length nd.kc)) from (((HB5.out.setCell HTB2 _).setCell HTB2 _).setCell HTB2 _))
          refine held_call 17 (by kernel_rfl) rfl (by rfl) (fun K hK => ?_)
          go_simp
          refine hK.out _ _ (SA.out _ HB7.out) (fun hHeld => ?_)
          clear hK K
          refine held_take 18 rfl (by kernel_rfl) (by kernel_rfl) (by kernel_rfl) (fun _ _ _ h => h) (by rfl) hHeld (v := ?_) (fun w hSw => ?_) (fun _ => ?_)
          rotate_left
          · ((try dsimp only at hSw); go_simp; (try with_reducible rfl))
          simp only [Act.put, List.setIfInBounds_toArray, List.set_cons_zero, List.set_cons_succ]
          refine wpAnyH_done (by kernel_rfl) ?_ _
          clear hHeld
          have HIN7 := Lib.hid (nd_set3 HIN5.out HAT5.out (.string nd.name) (.slice nd.pa nd.props.length nd.pc) (.slice nd.ka nd.kids.length nd.kc))
          have HB37 := Lib.hid (((HB35.out.setCell (p := ⟨w3.heap.size, 0, none⟩) (Nat.le_refl _) (.string nd.name)).setCell (p := ⟨w3.heap.size, 1, none⟩) (Nat.le_refl _) (.slice nd.pa nd.props.length nd.pc)).setCell (p := ⟨w3.heap.size, 2, none⟩) (Nat.le_refl _) (.slice nd.ka nd.kids.length nd.kc))
          have HUP : Hid (nd.At (fun b => w.heap.size + 1 ≤ b)) := Lib.hid (HAT5.out.mono (fun b hb => by have := (TF.out w3 HB3.out).2.2; omega))
          obtain ⟨tc0, tc1, tc2⟩ := set3_cells t50 t51 t52 (.string nd.name) (.slice nd.pa nd.props.length nd.pc) (.slice nd.ka nd.kids.length nd.kc)
          generalize hW7 : (((w5.setCell ⟨w3.heap.size, 0, none⟩ (.string nd.name)).setCell ⟨w3.heap.size, 1, none⟩ (.slice nd.pa nd.props.length nd.pc)).setCell ⟨w3.heap.size, 2, none⟩ (.slice nd.ka nd.kids.length nd.kc)) = W7 at *
          clear hW7
          have HTR : Hid ((⟨f 7, Ar, cr, rs, nd⟩ : Tr).In W7 W7.heap.size) := Lib.hid ⟨⟨b7a, b7b⟩, ⟨hr1, hr2, by have := hrs64; show rs.length * 16 ≤ _; omega⟩, ((rrow_of HO.out).1.keep (fun a ha => HB37.out.cell ha)).more HB37.out.size, HN.out, HIN7.out⟩
          have HTU : Hid ((⟨f 7, Ar, cr, rs, nd⟩ : Tr).Up (w.heap.size + 1)) := Lib.hid ⟨fun h0 b o e => by have h1 := (rrow_of HO.out).2 h0 b o e; simp at h1; omega, HUP.out⟩
          obtain ⟨⟨x0, x1, x2, x3, x4⟩, ⟨y0, y1, y2, y3, y4⟩, xlt⟩ := BF.out W7 (TF.out W7 HB7.out).1
          obtain ⟨_, _, _, _, a7⟩ := AF.out W7 HB7.out
          have HB8 : Hid (Below (w1.heap.size + 1) (w1.alloc (.cells #[.int .u32 (f 0), .int .u32 (f 1), .int .u32 (f 2), .int .u32 (f 3), .int .u32 (f 4), .int .u32 (f 5), .int .u32 (f 6), .int .u32 (f 7), .int .u32 (f 8), .int .u32 (f 9)] 23)) (W7.alloc (.cells #[.int .u32 (f 7), .slice Ar rs.length cr, .string nd.name, .slice nd.pa nd.props.length nd.pc, .slice nd.ka nd.kids.length nd.kc] 40))) := Lib.hid (HB7.out.alloc (by have := (TF.out _ HB7.out).2.2; omega) _)
          obtain ⟨E, hE⟩ : ∃ E, checkE ⟨f 7, Ar, cr, rs, nd⟩ = E := ⟨_, rfl⟩
          have CK := Lib.hid (check_any ⟨f 7, Ar, cr, rs, nd⟩ _ (HTR.out.on ((Below.refl W7.heap.size W7).alloc (Nat.le_refl _) (.cells #[.int .u32 (f 7), .slice Ar rs.length cr, .string nd.name, .slice nd.pa nd.props.length nd.pc, .slice nd.ka nd.kids.length nd.kc] 40))) E hE)
          have HEE := Lib.hid hE
          clear hE x0 x1 x2 x3 x4 y0 y1 y2 y3 y4 xlt
          go_wp2_with fail
          refine CK.out.mono ?_
          rintro e w8 ⟨rfl, hb8⟩
          have HB9 := Lib.hid (HB8.out.trans (hb8.mono (by have := (TF.out _ HB8.out).2.2; omega)))
          have HTR8 := Lib.hid ((HTR.out.on ((Below.refl W7.heap.size W7).alloc (Nat.le_refl _) (.cells #[.int .u32 (f 7), .slice Ar rs.length cr, .string nd.name, .slice nd.pa nd.props.length nd.pc, .slice nd.ka nd.kids.length nd.kc] 40))).on hb8)
          obtain ⟨⟨x0, x1, x2, x3, x4⟩, ⟨y0, y1, y2, y3, y4⟩, xlt⟩ := BF.out w8 (TF.out w8 HB9.out).1
          have v8 := fun i => (hb8.cell (p := ⟨W7.heap.size, i, none⟩) (by simp)).trans (World.cell?_alloc_new W7 _ _ i)
          have v80 : w8.cell? ⟨W7.heap.size, 0, none⟩ = some (.int .u32 (f 7)) := v8 0
          have v81 : w8.cell? ⟨W7.heap.size, 1, none⟩ = some (.slice Ar rs.length cr) := v8 1
          have v82 : w8.cell? ⟨W7.heap.size, 2, none⟩ = some (.string nd.name) := v8 2
          have v83 : w8.cell? ⟨W7.heap.size, 3, none⟩ = some (.slice nd.pa nd.props.length nd.pc) := v8 3
          have v84 : w8.cell? ⟨W7.heap.size, 4, none⟩ = some (.slice nd.ka nd.kids.length nd.kc) := v8 4
          have hxx : w.heap.size < W7.heap.size := by have := (TF.out W7 HB7.out).1.size; have := (TF.out W7 HB7.out).2.2; omega
          have TRF : Hid (∀ u0 u1 u2 u3 u4 : Value, (⟨f 7, Ar, cr, rs, nd⟩ : Tr).In (((((w8.setCell ⟨w.heap.size, 0, none⟩ u0).setCell ⟨w.heap.size, 1, none⟩ u1).setCell ⟨w.heap.size, 2, none⟩ u2).setCell ⟨w.heap.size, 3, none⟩ u3).setCell ⟨w.heap.size, 4, none⟩ u4) (((((w8.setCell ⟨w.heap.size, 0, none⟩ u0).setCell ⟨w.heap.size, 1, none⟩ u1).setCell ⟨w.heap.size, 2, none⟩ u2).setCell ⟨w.heap.size, 3, none⟩ u3).setCell ⟨w.heap.size, 4, none⟩ u4).heap.size) := Lib.hid (fun u0 u1 u2 u3 u4 => HTR8.out.set5 HTU.out u0 u1 u2 u3 u4)
          clear hb8 v8 CK
          by_cases hE0 : E = 0
          · subst hE0
            go_wp2
            refine bodyPost_ret (v := .tuple #[(⟨f 7, Ar, cr, rs, nd⟩ : Tr).val, .int .i64 0]) (by simp [results, Try.results16, go_sem, x0, x1, x2, x3, x4, xlt, Tr.val, Tr.rv, Nd.pv, Nd.kv]; try rfl) rfl ?_
            refine ⟨⟨fun E h => ?_, fun rs' pn h => ?_⟩, HOUT.out _ _ _ _ _ _ HB9.out⟩
            · rw [HRA.out] at h; cases h
            · rw [HRA.out] at h
              have h' := Except.ok.inj h
              simp only [Prod.mk.injEq] at h'
              obtain ⟨rfl, rfl⟩ := h'
              exact ⟨⟨f 7, Ar, cr, rs, nd⟩, TRF.out _ _ _ _ _, HF7.out.symm, rfl, rfl, fun h => absurd HEE.out h, fun _ => rfl⟩
          · have nE : (E != 0) = true := by rw [bne_iff_ne]; exact hE0
            have HE0 := Lib.hid hE0
            clear hE0
            go_wp2
            refine bodyPost_ret (v := .tuple #[zeroTv, .int .i64 E]) (by simp [results, Try.results16, go_sem, x0, x1, x2, x3, x4, xlt]; try rfl) rfl ?_
            refine ⟨⟨fun E h => ?_, fun rs' pn h => ?_⟩, HOUT.out _ _ _ _ _ _ HB9.out⟩
            · rw [HRA.out] at h; cases h
            · rw [HRA.out] at h
              have h' := Except.ok.inj h
              simp only [Prod.mk.injEq] at h'
              obtain ⟨rfl, rfl⟩ := h'
              exact ⟨⟨f 7, Ar, cr, rs, nd⟩, TRF.out _ _ _ _ _, HF7.out.symm, rfl, rfl, fun _ => by rw [HEE.out], fun h => absurd (HEE.out.symm.trans h) HE0.out⟩
    · go_simp
      refine hK.out _ _ (SA.out _ HBa.out) (fun hHeld => ?_)
      clear hK K
      refine held_call 5 (by kernel_rfl) rfl (by rfl) (fun K hK => ?_)
      go_simp
      refine (P1.out _).mono ?_
      rintro e w4 ⟨rfl, rfl⟩
      dsimp only
      refine hK.out _ _ hHeld (fun hHeld => ?_)
      clear hK K
      refine held_call 11 (by kernel_rfl) rfl (by rfl) (fun K hK => ?_)
      go_simp
      refine (P2.out _).mono ?_
      rintro e w4 ⟨rfl, rfl⟩
      dsimp only
      refine hK.out _ _ hHeld (fun hHeld => ?_)
      clear hK K
      refine held_call 12 (by kernel_rfl) rfl (by rfl) (fun K hK => ?_)
      go_simp
      refine (CRT.out _ HBa.out).mono ?_
      rintro e w5 ⟨⟨v5, rfl, hok5, herr5⟩, hb5⟩
      have HB5 := Lib.hid (HBa.out.trans (hb5.mono (by have := (TF.out _ HBa.out).2.2; omega)))
      dsimp only
      refine hK.out _ _ (SA.out _ HB5.out) (fun hHeld => ?_)
      clear hK K
      have t50 : w5.cell? ⟨w3.heap.size, 0, none⟩ = some (.string ⟨#[]⟩) := (hb5.cell (p := ⟨w3.heap.size, 0, none⟩) (by simp)).trans (World.cell?_alloc_new w3 _ _ _)
      have t51 : w5.cell? ⟨w3.heap.size, 1, none⟩ = some (.slice none 0 0) := (hb5.cell (p := ⟨w3.heap.size, 1, none⟩) (by simp)).trans (World.cell?_alloc_new w3 _ _ _)
      have t52 : w5.cell? ⟨w3.heap.size, 2, none⟩ = some (.slice none 0 0) := (hb5.cell (p := ⟨w3.heap.size, 2, none⟩) (by simp)).trans (World.cell?_alloc_new w3 _ _ _)
      have u50 : w5.frozen? ⟨w3.heap.size, 0, none⟩ = false := (hb5.frozen (p := ⟨w3.heap.size, 0, none⟩) (by simp)).trans (World.frozen?_alloc_new w3 _ _ _)
      have u51 : w5.frozen? ⟨w3.heap.size, 1, none⟩ = false := (hb5.frozen (p := ⟨w3.heap.size, 1, none⟩) (by simp)).trans (World.frozen?_alloc_new w3 _ _ _)
      have u52 : w5.frozen? ⟨w3.heap.size, 2, none⟩ = false := (hb5.frozen (p := ⟨w3.heap.size, 2, none⟩) (by simp)).trans (World.frozen?_alloc_new w3 _ _ _)
      have lt5 : w3.heap.size < w5.heap.size := by have := hb5.size; simp at this; omega
      have HTB2 : w1.heap.size + 1 ≤ w3.heap.size := by have := (TF.out w3 HB3.out).2.2; omega
      have HB35 : Hid (Below w3.heap.size w3 w5) := Lib.hid ((((Below.refl w3.heap.size w3).alloc (Nat.le_refl _) zeroN).drew).trans (hb5.mono (by simp)))
      refine held_take 13 rfl (by kernel_rfl) (by kernel_rfl) (by kernel_rfl) (fun _ _ _ h => h) (by rfl) hHeld (v := ?_) (fun w hSw => ?_) (fun _ => ?_)
      rotate_left
      · ((try dsimp only at hSw); go_simp; (try with_reducible rfl))
      simp only [Act.put, List.setIfInBounds_toArray, List.set_cons_zero, List.set_cons_succ]
      cases ans2 with
      | error E2 =>
        have hE2 := rootF_ok_ne _ _ _ HA3.out
        obtain rfl := herr5 E2 rfl
        have n3 : (errOf (Except.error E2 : Except Int PN) != 0) = true := by rw [bne_iff_ne]; exact hE2
        clear hok5 herr5 hE2 hb5
        refine held_take 14 rfl (by kernel_rfl) (by kernel_rfl) (by kernel_rfl) (fun _ _ _ h => h) (by rfl) hHeld (v := ?_) (fun w hSw => ?_) (fun _ => ?_)
        rotate_left
        · ((try dsimp only at hSw); go_simp; (try with_reducible rfl))
        simp only [Act.put, List.setIfInBounds_toArray, List.set_cons_zero, List.set_cons_succ]
        refine held_take 15 rfl (by kernel_rfl) (by kernel_rfl) (by kernel_rfl) (fun _ _ _ h => h) (by rfl) hHeld (v := ?_) (fun w hSw => ?_) (fun _ => ?_)
        rotate_left
        · ((try dsimp only at hSw); go_simp; (try with_reducible rfl))
        simp only [Act.put, List.setIfInBounds_toArray, List.set_cons_zero, List.set_cons_succ]
        have HB7 := Lib.hid (show Below (w1.heap.size + 1) (w1.alloc (.cells #[.int .u32 (f 0), .int .u32 (f 1), .int .u32 (f 2), .int .u32 (f 3), .int .u32 (f 4), .int .u32 (f 5), .int .u32 (f 6), .int .u32 (f 7), .int .u32 (f 8), .int .u32 (f 9)] 23)) (((w5.setCell ⟨w3.heap.size, 0, none⟩ (.string ⟨#[]⟩)).setCell ⟨w3.heap.size, 1, none⟩ (.slice none 0 0)).setCell ⟨w3.heap.size, 2, none⟩ (.slice none 0 0)) from (((HB5.out.setCell HTB2 _).setCell HTB2 _).setCell HTB2 _))
        refine held_call 17 (by kernel_rfl) rfl (by rfl) (fun K hK => ?_)
        go_simp
        refine hK.out _ _ (SA.out _ HB7.out) (fun hHeld => ?_)
        clear hK K
        refine held_take 18 rfl (by kernel_rfl) (by kernel_rfl) (by kernel_rfl) (fun _ _ _ h => h) (by rfl) hHeld (v := ?_) (fun w hSw => ?_) (fun _ => ?_)
        rotate_left
        · ((try dsimp only at hSw); go_simp; (try with_reducible rfl))
        simp only [Act.put, List.setIfInBounds_toArray, List.set_cons_zero, List.set_cons_succ]
        obtain ⟨⟨x0, x1, x2, x3, x4⟩, ⟨y0, y1, y2, y3, y4⟩, xlt⟩ := BF.out w5 (TF.out w5 HB5.out).1
        refine wpAnyH_done (by kernel_rfl) ?_ _
        clear hHeld
        go_wp2
        refine bodyPost_ret (v := .tuple #[zeroTv, .int .i64 E2]) (by simp [results, Try.results16, go_sem, x0, x1, x2, x3, x4, xlt, errOf]; try rfl) rfl ?_
        refine ⟨⟨fun E h => ?_, fun rs' pn h => ?_⟩, HOUT.out _ _ _ _ _ _ HB7.out⟩
        · rw [HRA.out] at h
          have h' : E2 = E := Except.error.inj h
          rw [h']
        · rw [HRA.out] at h; cases h
      | ok pn =>
        obtain ⟨nd, rfl, hin5, hat5, rfl⟩ := hok5 pn rfl
        have HIN5 := Lib.hid hin5
        have HAT5 : Hid (nd.At (fun b => w3.heap.size + 1 ≤ b)) := Lib.hid (hat5.mono (fun b hb => by simpa using hb))
        clear hok5 herr5 hin5 hat5 hb5
        rw [show nd.val = .agg #[.string nd.name, .slice nd.pa nd.props.length nd.pc, .slice nd.ka nd.kids.length nd.kc] from rfl]
        refine held_take 14 rfl (by kernel_rfl) (by kernel_rfl) (by kernel_rfl) (fun _ _ _ h => h) (by rfl) hHeld (v := ?_) (fun w hSw => ?_) (fun _ => ?_)
        rotate_left
        · ((try dsimp only at hSw); go_simp; (try with_reducible rfl))
        simp only [Act.put, List.setIfInBounds_toArray, List.set_cons_zero, List.set_cons_succ]
        refine held_take 15 rfl (by kernel_rfl) (by kernel_rfl) (by kernel_rfl) (fun _ _ _ h => h) (by rfl) hHeld (v := ?_) (fun w hSw => ?_) (fun _ => ?_)
        rotate_left
        · ((try dsimp only at hSw); go_simp; (try with_reducible rfl))
        simp only [Act.put, List.setIfInBounds_toArray, List.set_cons_zero, List.set_cons_succ]
        have HB7 := Lib.hid (show Below (w1.heap.size + 1) (w1.alloc (.cells #[.int .u32 (f 0), .int .u32 (f 1), .int .u32 (f 2), .int .u32 (f 3), .int .u32 (f 4), .int .u32 (f 5), .int .u32 (f 6), .int .u32 (f 7), .int .u32 (f 8), .int .u32 (f 9)] 23)) (((w5.setCell ⟨w3.heap.size, 0, none⟩ (.string nd.name)).setCell ⟨w3.heap.size, 1, none⟩ (.slice nd.pa nd.props.length nd.pc)).setCell ⟨w3.heap.size, 2, none⟩ (.slice nd.ka nd.kids.length nd.kc)) from (((HB5.out.setCell HTB2 _).setCell HTB2 _).setCell HTB2 _))
        refine held_call 17 (by kernel_rfl) rfl (by rfl) (fun K hK => ?_)
        go_simp
        refine hK.out _ _ (SA.out _ HB7.out) (fun hHeld => ?_)
        clear hK K
        refine held_take 18 rfl (by kernel_rfl) (by kernel_rfl) (by kernel_rfl) (fun _ _ _ h => h) (by rfl) hHeld (v := ?_) (fun w hSw => ?_) (fun _ => ?_)
        rotate_left
        · ((try dsimp only at hSw); go_simp; (try with_reducible rfl))
        simp only [Act.put, List.setIfInBounds_toArray, List.set_cons_zero, List.set_cons_succ]
        refine wpAnyH_done (by kernel_rfl) ?_ _
        clear hHeld
        have HIN7 := Lib.hid (nd_set3 HIN5.out HAT5.out (.string nd.name) (.slice nd.pa nd.props.length nd.pc) (.slice nd.ka nd.kids.length nd.kc))
        have HB37 := Lib.hid (((HB35.out.setCell (p := ⟨w3.heap.size, 0, none⟩) (Nat.le_refl _) (.string nd.name)).setCell (p := ⟨w3.heap.size, 1, none⟩) (Nat.le_refl _) (.slice nd.pa nd.props.length nd.pc)).setCell (p := ⟨w3.heap.size, 2, none⟩) (Nat.le_refl _) (.slice nd.ka nd.kids.length nd.kc))
        have HUP : Hid (nd.At (fun b => w.heap.size + 1 ≤ b)) := Lib.hid (HAT5.out.mono (fun b hb => by have := (TF.out w3 HB3.out).2.2; omega))
        obtain ⟨tc0, tc1, tc2⟩ := set3_cells t50 t51 t52 (.string nd.name) (.slice nd.pa nd.props.length nd.pc) (.slice nd.ka nd.kids.length nd.kc)
        generalize hW7 : (((w5.setCell ⟨w3.heap.size, 0, none⟩ (.string nd.name)).setCell ⟨w3.heap.size, 1, none⟩ (.slice nd.pa nd.props.length nd.pc)).setCell ⟨w3.heap.size, 2, none⟩ (.slice nd.ka nd.kids.length nd.kc)) = W7 at *
        clear hW7
        have HTR : Hid ((⟨f 7, Ar, cr, rs, nd⟩ : Tr).In W7 W7.heap.size) := Lib.hid ⟨⟨b7a, b7b⟩, ⟨hr1, hr2, by have := hrs64; show rs.length * 16 ≤ _; omega⟩, ((rrow_of HO.out).1.keep (fun a ha => HB37.out.cell ha)).more HB37.out.size, HN.out, HIN7.out⟩
        have HTU : Hid ((⟨f 7, Ar, cr, rs, nd⟩ : Tr).Up (w.heap.size + 1)) := Lib.hid ⟨fun h0 b o e => by have h1 := (rrow_of HO.out).2 h0 b o e; simp at h1; omega, HUP.out⟩
        obtain ⟨⟨x0, x1, x2, x3, x4⟩, ⟨y0, y1, y2, y3, y4⟩, xlt⟩ := BF.out W7 (TF.out W7 HB7.out).1
        obtain ⟨_, _, _, _, a7⟩ := AF.out W7 HB7.out
        have HB8 : Hid (Below (w1.heap.size + 1) (w1.alloc (.cells #[.int .u32 (f 0), .int .u32 (f 1), .int .u32 (f 2), .int .u32 (f 3), .int .u32 (f 4), .int .u32 (f 5), .int .u32 (f 6), .int .u32 (f 7), .int .u32 (f 8), .int .u32 (f 9)] 23)) (W7.alloc (.cells #[.int .u32 (f 7), .slice Ar rs.length cr, .string nd.name, .slice nd.pa nd.props.length nd.pc, .slice nd.ka nd.kids.length nd.kc] 40))) := Lib.hid (HB7.out.alloc (by have := (TF.out _ HB7.out).2.2; omega) _)
        obtain ⟨E, hE⟩ : ∃ E, checkE ⟨f 7, Ar, cr, rs, nd⟩ = E := ⟨_, rfl⟩
        have CK := Lib.hid (check_any ⟨f 7, Ar, cr, rs, nd⟩ _ (HTR.out.on ((Below.refl W7.heap.size W7).alloc (Nat.le_refl _) (.cells #[.int .u32 (f 7), .slice Ar rs.length cr, .string nd.name, .slice nd.pa nd.props.length nd.pc, .slice nd.ka nd.kids.length nd.kc] 40))) E hE)
        have HEE := Lib.hid hE
        clear hE x0 x1 x2 x3 x4 y0 y1 y2 y3 y4 xlt
        go_wp2_with fail
        refine CK.out.mono ?_
        rintro e w8 ⟨rfl, hb8⟩
        have HB9 := Lib.hid (HB8.out.trans (hb8.mono (by have := (TF.out _ HB8.out).2.2; omega)))
        have HTR8 := Lib.hid ((HTR.out.on ((Below.refl W7.heap.size W7).alloc (Nat.le_refl _) (.cells #[.int .u32 (f 7), .slice Ar rs.length cr, .string nd.name, .slice nd.pa nd.props.length nd.pc, .slice nd.ka nd.kids.length nd.kc] 40))).on hb8)
        obtain ⟨⟨x0, x1, x2, x3, x4⟩, ⟨y0, y1, y2, y3, y4⟩, xlt⟩ := BF.out w8 (TF.out w8 HB9.out).1
        have v8 := fun i => (hb8.cell (p := ⟨W7.heap.size, i, none⟩) (by simp)).trans (World.cell?_alloc_new W7 _ _ i)
        have v80 : w8.cell? ⟨W7.heap.size, 0, none⟩ = some (.int .u32 (f 7)) := v8 0
        have v81 : w8.cell? ⟨W7.heap.size, 1, none⟩ = some (.slice Ar rs.length cr) := v8 1
        have v82 : w8.cell? ⟨W7.heap.size, 2, none⟩ = some (.string nd.name) := v8 2
        have v83 : w8.cell? ⟨W7.heap.size, 3, none⟩ = some (.slice nd.pa nd.props.length nd.pc) := v8 3
        have v84 : w8.cell? ⟨W7.heap.size, 4, none⟩ = some (.slice nd.ka nd.kids.length nd.kc) := v8 4
        have hxx : w.heap.size < W7.heap.size := by have := (TF.out W7 HB7.out).1.size; have := (TF.out W7 HB7.out).2.2; omega
        have TRF : Hid (∀ u0 u1 u2 u3 u4 : Value, (⟨f 7, Ar, cr, rs, nd⟩ : Tr).In (((((w8.setCell ⟨w.heap.size, 0, none⟩ u0).setCell ⟨w.heap.size, 1, none⟩ u1).setCell ⟨w.heap.size, 2, none⟩ u2).setCell ⟨w.heap.size, 3, none⟩ u3).setCell ⟨w.heap.size, 4, none⟩ u4) (((((w8.setCell ⟨w.heap.size, 0, none⟩ u0).setCell ⟨w.heap.size, 1, none⟩ u1).setCell ⟨w.heap.size, 2, none⟩ u2).setCell ⟨w.heap.size, 3, none⟩ u3).setCell ⟨w.heap.size, 4, none⟩ u4).heap.size) := Lib.hid (fun u0 u1 u2 u3 u4 => HTR8.out.set5 HTU.out u0 u1 u2 u3 u4)
        clear hb8 v8 CK
        by_cases hE0 : E = 0
        · subst hE0
          go_wp2
          refine bodyPost_ret (v := .tuple #[(⟨f 7, Ar, cr, rs, nd⟩ : Tr).val, .int .i64 0]) (by simp [results, Try.results16, go_sem, x0, x1, x2, x3, x4, xlt, Tr.val, Tr.rv, Nd.pv, Nd.kv]; try rfl) rfl ?_
          refine ⟨⟨fun E h => ?_, fun rs' pn h => ?_⟩, HOUT.out _ _ _ _ _ _ HB9.out⟩
          · rw [HRA.out] at h; cases h
          · rw [HRA.out] at h
            have h' := Except.ok.inj h
            simp only [Prod.mk.injEq] at h'
            obtain ⟨rfl, rfl⟩ := h'
            exact ⟨⟨f 7, Ar, cr, rs, nd⟩, TRF.out _ _ _ _ _, HF7.out.symm, rfl, rfl, fun h => absurd HEE.out h, fun _ => rfl⟩
        · have nE : (E != 0) = true := by rw [bne_iff_ne]; exact hE0
          have HE0 := Lib.hid hE0
          clear hE0
          go_wp2
          refine bodyPost_ret (v := .tuple #[zeroTv, .int .i64 E]) (by simp [results, Try.results16, go_sem, x0, x1, x2, x3, x4, xlt]; try rfl) rfl ?_
          refine ⟨⟨fun E h => ?_, fun rs' pn h => ?_⟩, HOUT.out _ _ _ _ _ _ HB9.out⟩
          · rw [HRA.out] at h; cases h
          · rw [HRA.out] at h
            have h' := Except.ok.inj h
            simp only [Prod.mk.injEq] at h'
            obtain ⟨rfl, rfl⟩ := h'
            exact ⟨⟨f 7, Ar, cr, rs, nd⟩, TRF.out _ _ _ _ _, HF7.out.symm, rfl, rfl, fun _ => by rw [HEE.out], fun h => absurd (HEE.out.symm.trans h) HE0.out⟩
end Go.Proofs.Ytnopcnbeklbfoaa

/-! Layer 5: bytes behind a row of the call's own: where the row lies then. -/
namespace Go.Proofs.Ytnopcnbeklbfoaa
open Go.RowKit
set_option linter.unusedVariables false
set_option linter.unusedSimpArgs false

theorem run_shown_at (w : World) (i0 : TypeInfo) (hi0 : Try.prog.info? 5 = some i0) (hz0 : i0.zero = some (.int .u8 0)) (hz1 : i0.size = 1) (hz2 : i0.bytes = 1)
    (base : Nat) (v : Value) (n : Nat) (xs : List Value) (hown : w.ownsRow base 5 1 v n xs) (B : Nat) (A : Option Addr) (m c : Nat) (zs : List Int) (hs : Shows w B A m zs)
    (hnm : n + m ≤ 140737488351232) (hbase : base ≤ w.heap.size) (ty : TypeId) :
    ∃ v' w', (Builtin.append_ #[26, 26] ty #[v, .slice A m c]).run Try.prog w = .ok v' w' ∧ w'.ownsRow base 5 1 v' (n + m) (xs ++ u8s zs) ∧ w.grownBy w' v.ownBlock ∧ (v'.ownBlock = v.ownBlock ∨ v'.ownBlock = some w.heap.size) := by
  rcases Nat.eq_zero_or_pos m with rfl | hm
  · obtain rfl : zs = [] := List.eq_nil_of_length_eq_zero hs.1
    rcases A with _ | ad
    · refine ⟨v, w, ?_, by simpa using hown, World.grownBy.refl w _, .inl rfl⟩
      rcases hown.2 with ⟨rfl, rfl⟩ | ⟨g, cap, cur, rfl, _, _, hnc, _⟩
      · simp [Builtin.append_, run_underlying Try.underlying26, sizeOf, typeInfo, hi0, Builtin.lenOf, Builtin.firstCells]
      · simp [Builtin.append_, run_underlying Try.underlying26, sizeOf, typeInfo, hi0, Builtin.lenOf, Builtin.firstCells, hnc, storeCells]
    · obtain ⟨v', w', h1, h2, h3, h4⟩ := run_append_own_at (P := Try.prog) w base 26 ty 5 i0 (.int .u8 0) 1 1 Try.underlying26 hi0 hz0 hz1 hz2 rfl (by omega) v n xs hown ad 0 c [] rfl (by simp) (by simp) (by unfold maxLen; omega) (by omega) hbase
      exact ⟨v', w', h1, h2, h3, h4.2⟩
  · obtain ⟨b, o, rfl, _, hc⟩ := hs.at_ hm
    obtain ⟨v', w', h1, h2, h3, h4⟩ := run_append_own_at (P := Try.prog) w base 26 ty 5 i0 (.int .u8 0) 1 1 Try.underlying26 hi0 hz0 hz1 hz2 rfl (by omega) v n xs hown ⟨b, o, none⟩ m c (u8s zs) (by simp [hs.1])
      (fun j u hu => by
        rw [List.getElem?_map] at hu
        have hj : j < zs.length := by
          rcases Nat.lt_or_ge j zs.length with h | h
          · exact h
          · rw [List.getElem?_eq_none h] at hu; cases hu
        rw [List.getElem?_eq_getElem hj] at hu
        rw [addr_add, hc j (by rw [← hs.1]; exact hj), ← Option.some.inj hu]
        simp [List.getD, List.getElem?_eq_getElem hj])
      (fun u hu => by obtain ⟨z, _, rfl⟩ := List.mem_map.1 hu; rfl) (by unfold maxLen; omega) (by omega) hbase
    exact ⟨v', w', h1, h2, h3, h4.2⟩

set_option maxHeartbeats 1000000 in
theorem run_zeros_at (w : World) (i0 : TypeInfo) (hi0 : Try.prog.info? 5 = some i0) (hz0 : i0.zero = some (.int .u8 0)) (hz1 : i0.size = 1) (hz2 : i0.bytes = 1)
    (base : Nat) (v : Value) (n : Nat) (xs : List Value) (hown : w.ownsRow base 5 1 v n xs) (m : Nat) (hnm : n + m ≤ 140737488351232) (hbase : base ≤ w.heap.size) (ty : TypeId) :
    ∃ v' w', (Builtin.append_ #[26, 3] ty #[v, .int .i64 (m : Int)]).run Try.prog w = .ok v' w' ∧ w'.ownsRow base 5 1 v' (n + m) (xs ++ u8s (List.replicate m 0)) ∧ w.grownBy w' v.ownBlock ∧ (v'.ownBlock = v.ownBlock ∨ v'.ownBlock = some w.heap.size) := by
  have ht := Try.underlying26
  have htn := Try.underlying3
  have hw : IntKind.i64.wrap (m : Int) = m := by rw [IntKind.wrap_i64]; omega
  have hneg : ¬ ((m : Int) < 0) := by omega
  have h48i : ¬ (281474976710656 < (m : Int) * (i0.bytes : Int)) := by rw [hz2]; omega
  have h48j : ¬ (281474976710656 < (m : Int)) := by omega
  have hl : xs.length = n := by simpa using hown.1
  have hlen : (xs ++ u8s (List.replicate m 0)).length = (n + m) * 1 := by simp [hl]
  have hsz : (Builtin.zeroCells (Value.int .u8 0).cells m).size = m := by rw [size_zeroCells]; simp [Value.cells]
  rcases Nat.eq_zero_or_pos m with rfl | hm
  · refine ⟨v, w, ?_, by simpa using hown, World.grownBy.refl w _, .inl rfl⟩
    rcases hown.2 with ⟨rfl, rfl⟩ | ⟨g, cap, cur, rfl, _, _, hnc, _⟩
    · simp [Builtin.append_, run_underlying ht, run_underlying htn, sizeOf, typeInfo, hi0, asInt, asIntOf, hw, Builtin.lenOf, Builtin.firstCells, IntKind.wrap_i64]
    · simp [Builtin.append_, run_underlying ht, run_underlying htn, sizeOf, typeInfo, hi0, asInt, asIntOf, hw, Builtin.lenOf, Builtin.firstCells, hnc, storeCells, IntKind.wrap_i64]
  · have grow : ∀ (A : Option Addr) (cap : Nat), cap < n + m → v = .slice A n cap → (Builtin.firstCells 1 n (.slice A n cap)).run Try.prog w.drew = .ok xs.toArray w.drew →
        ∃ v' w', (Builtin.append_ #[26, 3] ty #[v, .int .i64 (m : Int)]).run Try.prog w = .ok v' w' ∧ w'.ownsRow base 5 1 v' (n + m) (xs ++ u8s (List.replicate m 0)) ∧ w.grownBy w' v.ownBlock ∧ (v'.ownBlock = v.ownBlock ∨ v'.ownBlock = some w.heap.size) := by
      intro A cap hlt hv hold
      subst hv
      have hr := Lib.run_append_grow_zeros (P := Try.prog) w 26 3 ty 5 i0 (.int .u8 0) .i64 .i64 ht htn hi0 hz0 A n cap xs (by rw [hz1]; exact hold) m hm (by omega) hlt (by omega) (by rw [hz2]; omega) (by rw [hz2]; exact growslice_fits (by omega) (by omega))
      have hge := grownCap_ge w (n + m) cap 5
      have hcm : grownCap w (n + m) cap 5 ≤ maxLen := grownCap_le_maxLen w (n + m) cap 5 (by unfold maxLen; omega)
      refine ⟨_, _, hr, ⟨hlen, .inr ⟨w.heap.size, _, _, rfl, hbase, heap_alloc_new w.drew _, hge, hcm, ?_, ?_⟩⟩, ⟨rfl, rfl, rfl, by simp, fun k hk _ => heap_alloc_old w.drew _ hk⟩, .inr rfl⟩
      · simp only [Array.size_append, List.size_toArray, size_zeroCells, hsz, hl]
        simp only [Value.cells, List.size_toArray, List.length_cons, List.length_nil]
        omega
      · simp only [Array.toList_append, zeroCells_u8]
        rw [← hlen]
        exact List.take_left
    rcases hown.2 with ⟨hv, hx⟩ | ⟨g, cap, cur, hv, hbg, hg, hnc, hcm, hcs, htake⟩
    · subst hx
      obtain rfl : xs = [] := List.eq_nil_of_length_eq_zero hl
      exact grow none 0 (by omega) hv (run_firstCells_none w.drew 1 0 0 0)
    · by_cases hroom : n + m ≤ cap
      · subst hv
        have hfit : n * i0.size + (u8s (List.replicate m 0)).length ≤ cur.size := by rw [hz1, hcs]; simp; omega
        have hst := run_storeCells_at Try.prog g (n * i0.size) 5 (u8s (List.replicate m 0)) 0 cur w hg (by simpa using hfit) (fun u hu => by obtain ⟨z, _, rfl⟩ := List.mem_map.1 hu; rfl)
        rw [hz1] at hst hfit
        simp only [Nat.add_zero, Nat.mul_one] at hst hfit
        have hm0 : m ≠ 0 := by omega
        have hr : (Builtin.append_ #[26, 3] ty #[.slice (some ⟨g, 0, none⟩) n cap, .int .i64 (m : Int)]).run Try.prog w =
            .ok (.slice (some ⟨g, 0, none⟩) (n + m) cap) (w.setRow g (cur.toList.take n ++ u8s (List.replicate m 0) ++ cur.toList.drop (n + (u8s (List.replicate m 0)).length)).toArray) := by
          rw [← zeroCells_u8] at hst ⊢
          simp [Builtin.append_, run_underlying ht, run_underlying htn, sizeOf, typeInfo, zeroValue, hi0, hz0, hz1, hz2, asInt, asIntOf, hw, hneg, h48i, h48j, hm0, hroom, Addr.add_lit, hst]
        refine ⟨_, _, hr, ⟨hlen, .inr ⟨g, cap, _, rfl, hbg, setRow_heap w g cur _ 5 _ hg, hroom, hcm, ?_, ?_⟩⟩, ⟨rfl, rfl, rfl, by simp, fun k _ hk => setRow_other w g k _ (fun e => hk (by simp [Value.ownBlock, e]))⟩, .inl rfl⟩
        · simp only [List.size_toArray, List.length_append, List.length_take, List.length_drop, Array.length_toList]
          omega
        · have h1 : cur.toList.take n = xs := by simpa using htake
          rw [h1, ← hlen]
          exact List.take_left
      · have holds : ∀ j u, xs[j]? = some u → w.cell? ((⟨g, 0, none⟩ : Addr).add j) = some u := by
          subst hv
          exact hown.cells (g := g) rfl
        exact grow (some ⟨g, 0, none⟩) cap (by omega) hv (run_firstCells_some (P := Try.prog) w.drew 1 n _ n cap xs (by simpa using hl) holds)

/-- A row of bytes of the call's own has become another one. -/
def Grew (w w' : World) (B : Nat) (v v' : Value) (zs : List Int) : Prop := w'.ownsRow B 5 1 v' zs.length (u8s zs) ∧ w.grownBy w' v.ownBlock ∧ (v'.ownBlock = v.ownBlock ∨ v'.ownBlock = some w.heap.size)

theorem app_shown {w : World} {B B' : Nat} {v : Value} {zs ys : List Int} {A : Option Addr} {m : Nat} (c : Nat) (h : w.ownsRow B 5 1 v zs.length (u8s zs)) (hs : Shows w B' A m ys) (hbig : zs.length + ys.length ≤ 140737488351232) (hB : B ≤ w.heap.size) (ty : TypeId) :
    ∃ v' w', (Builtin.append_ #[26, 26] ty #[v, .slice A m c]).run Try.prog w = .ok v' w' ∧ Grew w w' B v v' (zs ++ ys) := by
  obtain ⟨i0, hi0, hz0, hz1, hz2⟩ := info_parts info_u8
  obtain ⟨v', w', h1, h2, h3, h4⟩ := run_shown_at w i0 hi0 hz0 hz1 hz2 B v _ _ h B' A m c ys hs (by rw [← hs.1]; exact hbig) hB ty
  refine ⟨v', w', h1, ?_, h3, h4⟩
  rw [List.length_append, hs.1, u8s, List.map_append]
  exact h2
theorem app_zeros {w : World} {B : Nat} {v : Value} {zs : List Int} (h : w.ownsRow B 5 1 v zs.length (u8s zs)) (m : Nat) (hbig : zs.length + m ≤ 140737488351232) (hB : B ≤ w.heap.size) (ty : TypeId) :
    ∃ v' w', (Builtin.append_ #[26, 3] ty #[v, .int .i64 (m : Int)]).run Try.prog w = .ok v' w' ∧ Grew w w' B v v' (zs ++ List.replicate m 0) := by
  obtain ⟨i0, hi0, hz0, hz1, hz2⟩ := info_parts info_u8
  obtain ⟨v', w', h1, h2, h3, h4⟩ := run_zeros_at w i0 hi0 hz0 hz1 hz2 B v _ _ h m hbig hB ty
  refine ⟨v', w', h1, ?_, h3, h4⟩
  rw [List.length_append, List.length_replicate, u8s, List.map_append]
  exact h2
theorem app_str {w : World} {B : Nat} {v : Value} {zs : List Int} (h : w.ownsRow B 5 1 v zs.length (u8s zs)) (s : ByteArray) (hbig : zs.length + s.size ≤ 140737488351232) (hB : B ≤ w.heap.size) (ty : TypeId) :
    ∃ v' w', (Builtin.append_ #[26, 9] ty #[v, .string s]).run Try.prog w = .ok v' w' ∧ Grew w w' B v v' (zs ++ strB s) := by
  obtain ⟨i0, hi0, hz0, hz1, hz2⟩ := info_parts info_u8
  obtain ⟨v', w', h1, h2, h3, h4⟩ := Lib.run_append_own_string (P := Try.prog) w B 26 9 ty 5 i0 Try.underlying26 Try.underlying9 hi0 hz0 hz1 hz2 v _ _ h s (by unfold maxLen; omega) (by omega) hB
  refine ⟨v', w', h1, ?_, h3, ?_⟩
  · rw [List.length_append, strB_length, u8s, List.map_append]
    have e : Lib.strCells s = u8s (strB s) := by simp [Lib.strCells, strB]
    rw [e] at h2
    exact h2
  · have hxl : (u8s zs).length = zs.length := by simp
    rcases h.2 with ⟨rfl, h0⟩ | ⟨g, cap, cur, rfl, hbg, hg, hnc, hcm, hcs, htake⟩
    · by_cases hm : s.size = 0
      · have := h4.2 ⟨rfl, hm⟩
        rw [this]; exact .inl rfl
      · have hr := run_append_nil_string (P := Try.prog) w 26 9 ty 5 i0 (.int .u8 0) Try.underlying26 Try.underlying9 hi0 hz0 s (by omega) (by omega) (by rw [hz2]; omega)
        rw [h1] at hr
        have e := (Result.ok.inj hr).1
        rw [e]; exact .inr rfl
    · by_cases hroom : zs.length + s.size ≤ cap
      · have hcs' : cur.size = cap := by simpa using hcs
        have hr := Lib.run_append_room_string (P := Try.prog) w 26 9 ty 5 i0 Try.underlying26 Try.underlying9 hi0 hz1 g zs.length cap cur hg s hroom (by omega)
        rw [h1] at hr
        have e := (Result.ok.inj hr).1
        rw [e]; exact .inl rfl
      · have holds : ∀ j u, (u8s zs)[j]? = some u → w.cell? ((⟨g, 0, none⟩ : Addr).add j) = some u := h.cells (g := g) rfl
        have hr := Lib.run_append_grow_string (P := Try.prog) w 26 9 ty 5 i0 (.int .u8 0) Try.underlying26 Try.underlying9 hi0 hz0 ⟨g, 0, none⟩ zs.length cap (u8s zs) (by rw [hz1]; simp) holds s (by omega) (by omega) (by rw [hz2]; exact growslice_fits (by omega) (by omega))
        rw [h1] at hr
        have e := (Result.ok.inj hr).1
        rw [e]; exact .inr rfl
end Go.Proofs.Ytnopcnbeklbfoaa

/-! Layers 1, 5: bytes put together: slices.Concat, words.Put, words.Put64, of any bytes that a blob may have. -/
namespace Go.Proofs.Ytnopcnbeklbfoaa
open Go.RowKit
set_option linter.unusedVariables false
set_option linter.unusedSimpArgs false

set_option maxHeartbeats 400000 in
theorem cell_any (v : Int) (w : World) (h0 : 0 ≤ v) (h1 : v ≤ 4294967295) :
    Calls Try.prog 66 #[.int .u32 v] w fun e w' => e = .returned (.slice (some ⟨w.heap.size, 0, none⟩) 4 4) ∧ w' = w.alloc (.cells #[.int .u8 (v / 16777216), .int .u8 (v / 65536 % 256), .int .u8 (v / 256 % 256), .int .u8 (v % 256)] 5) := by
  go_enter Try.func66, Try.ntmps66
  go_wp2
  go_ret
  exact ⟨rfl, rfl⟩

set_option maxHeartbeats 400000 in
theorem grow_nil (n : Nat) (w : World) (hn : n ≤ 1073741824) :
    Calls Try.prog 55 #[.slice none 0 0, .int .i64 n] w fun e w' => ∃ v, e = .returned v ∧ w'.ownsRow w.heap.size 5 1 v 0 [] ∧ Below w.heap.size w w' := by
  obtain ⟨i0, hi0, hz0, hz1, hz2⟩ := info_parts info_u8
  rcases Nat.eq_zero_or_pos n with rfl | h0
  · go_enter Try.func55, Try.ntmps55
    go_wp2
    go_ret
    exact ⟨_, rfl, World.ownsRow_nil _ _ _ _, Below.refl _ _⟩
  · have h1 : ¬ ((n : Int) < 0) := by omega
    have h2 : ((n : Int) > 0) := by omega
    have hrz : ∀ ty, (Builtin.append_ #[26, 3] ty #[.slice none 0 0, .int .i64 (n : Int)]).run Try.prog w = .ok (.slice (some ⟨w.heap.size, 0, none⟩) n (grownCap w n 0 5)) (w.drew.alloc (.cells (Builtin.zeroCells (Value.int .u8 0).cells n ++ Builtin.zeroCells (Value.int .u8 0).cells (grownCap w n 0 5 - n)) 5)) := fun ty => by
      have h := Lib.run_append_grow_zeros (P := Try.prog) w 26 3 ty 5 i0 (.int .u8 0) .i64 .i64 Try.underlying26 Try.underlying3 hi0 hz0 none 0 0 [] (run_firstCells_none w.drew i0.size 0 0 0) n h0 (by omega) (by omega) (by omega) (by rw [hz2]; omega) (by rw [hz2]; exact growslice_fits (by omega) (by omega))
      simpa using h
    have hG : n ≤ grownCap w n 0 5 := grownCap_ge w _ _ _
    have hG2 := grownCap_le_maxLen w n 0 5 (by unfold maxLen; omega)
    generalize hGe : grownCap w n 0 5 = G at hrz hG hG2
    clear hGe hi0 hz0 hz1 hz2
    have hG3 : G ≤ 9223372036854775807 := by unfold maxLen at hG2; omega
    go_enter Try.func55, Try.ntmps55
    go_wp2_with (at_builtin; refine Lib.wpList_append_run _ rfl _ _ _ _ rfl _ _ rfl rfl _ _ (hrz _) ?_)
    go_ret
    refine ⟨_, rfl, World.ownsRow_made _ _ _ (by simp) hG2 ?_, ?_⟩
    · simp [Builtin.zeroCells]; omega
    · exact (Below.refl _ _).drew.alloc (by simp) _


/-- One of the slices that are put together: its address, length, capacity, and bytes. -/
abbrev Piece := Option Addr × Nat × Nat × List Int
def sumLen : List Piece → Nat
  | [] => 0
  | p :: r => p.2.1 + sumLen r
def joined : List Piece → List Int
  | [] => []
  | p :: r => p.2.2.2 ++ joined r
theorem sumLen_append (a b : List Piece) : sumLen (a ++ b) = sumLen a + sumLen b := by
  induction a with
  | nil => simp [sumLen]
  | cons p r ih => simp only [List.cons_append, sumLen, ih]; omega
theorem joined_append (a b : List Piece) : joined (a ++ b) = joined a ++ joined b := by
  induction a with
  | nil => simp [joined]
  | cons p r ih => simp only [List.cons_append, joined, ih, List.append_assoc]
theorem take_one_more {α : Type} (l : List α) (j : Nat) (p : α) (h : l[j]? = some p) : l.take (j + 1) = l.take j ++ [p] := by
  rw [List.take_add_one, h]; rfl
theorem sumLen_next (l : List Piece) (j : Nat) (p : Piece) (h : l[j]? = some p) : sumLen (l.take (j + 1)) = sumLen (l.take j) + p.2.1 := by
  rw [take_one_more l j p h, sumLen_append]; simp [sumLen]
theorem joined_next (l : List Piece) (j : Nat) (p : Piece) (h : l[j]? = some p) : joined (l.take (j + 1)) = joined (l.take j) ++ p.2.2.2 := by
  rw [take_one_more l j p h, joined_append]; simp [joined]
theorem sumLen_take (l : List Piece) (j : Nat) : sumLen (l.take j) ≤ sumLen l := by
  conv => rhs; rw [← List.take_append_drop j l, sumLen_append]
  omega

set_option maxHeartbeats 400000 in
theorem concat_any (g m cap : Nat) (ps : List Piece) (w : World) (hl : ps.length = m) (hm : m ≤ 100) (hmc : m ≤ cap) (hcap : cap ≤ 100) (hcell : ∀ i p, ps[i]? = some p → w.cell? ⟨g, i, none⟩ = some (.slice p.1 p.2.1 p.2.2.1))
    (hg : g < w.heap.size) (hs : ∀ p ∈ ps, Shows w w.heap.size p.1 p.2.1 p.2.2.2) (htot : sumLen ps ≤ 1073741824) :
    Calls Try.prog 35 #[.slice (some ⟨g, 0, none⟩) m cap] w fun e w' => ∃ v, e = .returned v ∧ w'.ownsRow w.heap.size 5 1 v (sumLen ps) (u8s (joined ps)) ∧ Below w.heap.size w w' := by
  obtain ⟨i0, hi0, hz0, hz1, hz2⟩ := info_parts info_u8
  have HC := Lib.hid hcell
  have HL := Lib.hid hl
  have HS := Lib.hid hs
  have HI : Hid (Try.prog.info? 5 = some i0 ∧ i0.zero = some (.int .u8 0) ∧ i0.size = 1 ∧ i0.bytes = 1) := ⟨hi0, hz0, hz1, hz2⟩
  clear hcell hl hs hi0 hz0 hz1 hz2
  go_enter Try.func35, Try.ntmps35
  go_wp2
  go_loop [3, 11] (fun s i => ∃ j : Nat, j ≤ m ∧ i = .int .i64 j ∧ s = .int .i64 (sumLen (ps.take j))) (fun _ i => m - (intOf i).toNat)
  case atStart => exact ⟨0, by omega, rfl, rfl⟩
  case round =>
    obtain ⟨j, hj, rfl, rfl⟩ := hrel
    by_cases hlt : j < m
    · obtain ⟨p, hp⟩ : ∃ p, ps[j]? = some p := ⟨_, List.getElem?_eq_getElem (by rw [HL.out]; exact hlt)⟩
      have hc := HC.out j p hp
      have h1 := sumLen_take ps j
      have h2 := sumLen_take ps (j + 1)
      have HN := Lib.hid (sumLen_next ps j p hp)
      rw [HN.out] at h2
      clear hp
      go_wp2
      go_round
      case rel => exact ⟨j + 1, by omega, by go_num, by rw [HN.out]; go_num⟩
      case measure => simp [intOf]; omega
    · obtain rfl : j = m := by omega
      have HT : Hid (ps.take j = ps) := List.take_of_length_le (by rw [HL.out]; exact Nat.le_refl _)
      rw [HT.out]
      go_wp2_with (go_at_call 55; refine (grow_nil (sumLen ps) _ (by omega)).mono ?_; rintro e w1 ⟨v1, rfl, hown1, hb1⟩)
      go_loopw [6, 27] (fun v i wr => ∃ k : Nat, k ≤ j ∧ i = .int .i64 k ∧ wr.ownsRow w.heap.size 5 1 v (sumLen (ps.take k)) (u8s (joined (ps.take k))) ∧ Below w.heap.size w wr) (fun _ i _ => j - (intOf i).toNat)
      case atStart => exact ⟨0, by omega, rfl, hown1, hb1⟩
      case round =>
        obtain ⟨k, hk, rfl, hown, hbel⟩ := hrel
        by_cases hlt : k < j
        · obtain ⟨p, hp⟩ : ∃ p, ps[k]? = some p := ⟨_, List.getElem?_eq_getElem (by rw [HL.out]; exact hlt)⟩
          have hc : wr.cell? ⟨g, k, none⟩ = some (.slice p.1 p.2.1 p.2.2.1) := (hbel.cell (p := ⟨g, k, none⟩) hg).trans (HC.out k p hp)
          have h2 := sumLen_take ps (k + 1)
          have HN := Lib.hid (sumLen_next ps k p hp)
          have HJ := Lib.hid (joined_next ps k p hp)
          rw [HN.out] at h2
          have hsh := (HS.out p (List.mem_of_getElem? hp)).below hbel
          obtain ⟨i1, i2, i3, i4⟩ := HI.out
          obtain ⟨v', w', hrun, hown', hgr⟩ := run_append_shown wr i0 i1 i2 i3 i4 w.heap.size u6 _ _ hown w.heap.size p.1 p.2.1 p.2.2.1 p.2.2.2 hsh (by omega) hbel.size 26
          have hbel' := hbel.grown hgr.1 hbel.size (fun q hq => (hown.lt q hq).1)
          have HO := Lib.hid hown'
          have HB := Lib.hid hbel'
          clear hp i1 i2 i3 i4 hsh hgr hown hown' hbel hbel'
          go_wp2_with (at_builtin; refine Lib.wpList_append_run_sl _ rfl _ _ _ rfl _ _ rfl rfl hrun ?_)
          go_roundw
          case rel => exact ⟨k + 1, by omega, by go_num, by rw [HN.out, HJ.out, u8s, List.map_append]; exact HO.out, HB.out⟩
          case measure => simp [intOf]; omega
        · obtain rfl : k = j := by omega
          rw [HT.out] at hown
          have HO := Lib.hid hown
          have HB := Lib.hid hbel
          clear hown hbel
          go_wp2
          go_ret
          exact ⟨_, rfl, HO.out, HB.out⟩

theorem shows_new (w : World) (zs : List Int) (n : Nat) (cs : Array Value) (hn : zs.length = n) (hz : ∀ z ∈ zs, 0 ≤ z ∧ z < 256) (hcs : cs = (u8s zs).toArray) (t : TypeId) :
    Shows (w.alloc (.cells cs t)) (w.heap.size + 1) (some ⟨w.heap.size, 0, none⟩) n zs := by
  subst hcs
  refine ⟨hn, hz, fun h0 => ⟨w.heap.size, 0, rfl, by omega, fun i hi => ?_⟩⟩
  rw [Nat.zero_add, cell_of_row (w.alloc (.cells (u8s zs).toArray t)) w.heap.size i _ t (0, 0) (heap_alloc_new w _)]
  have hi' : i < zs.length := by omega
  simp [List.getD, List.getElem?_eq_getElem hi']

theorem four_shows (w : World) (v : Int) (h0 : 0 ≤ v) (h1 : v ≤ 4294967295) :
    Shows (w.alloc (.cells #[.int .u8 (v / 16777216), .int .u8 (v / 65536 % 256), .int .u8 (v / 256 % 256), .int .u8 (v % 256)] 5)) (w.heap.size + 1) (some ⟨w.heap.size, 0, none⟩) 4 (four v) :=
  shows_new w (four v) 4 _ rfl (fun z hz => by simp only [four, List.mem_cons, List.not_mem_nil, or_false] at hz; omega) rfl _

theorem own_shows {w : World} {base n : Nat} {t : TypeId} {v : Value} {zs : List Int} (h : w.ownsRow base t 1 v n (u8s zs)) (hz : ∀ z ∈ zs, 0 ≤ z ∧ z < 256) :
    ∃ A c, v = .slice A n c ∧ Shows w w.heap.size A n zs ∧ n ≤ c ∧ c ≤ maxLen := by
  have hl : zs.length = n := by simpa using h.1
  rcases h.2 with ⟨rfl, rfl⟩ | ⟨g, cap, cur, rfl, _, hh, hnc, hcm, _, ht⟩
  · exact ⟨_, _, rfl, ⟨hl, hz, fun h0 => absurd h0 (by omega)⟩, Nat.le_refl _, by unfold maxLen; omega⟩
  · refine ⟨_, _, rfl, ⟨hl, hz, fun h0 => ⟨g, 0, rfl, ?_, fun i hi => ?_⟩⟩, hnc, hcm⟩
    · exact (Array.getElem?_eq_some_iff.1 hh).1
    · rw [Nat.zero_add, cell_of_row w g i cur t (0, 0) hh]
      have hi' : i < zs.length := by omega
      have e : (cur.toList.take (n * 1))[i]? = (u8s zs)[i]? := by rw [ht]
      rw [List.getElem?_take_of_lt (by omega), List.getElem?_map, List.getElem?_eq_getElem hi'] at e
      rw [← Array.getElem?_toList, e]
      simp [List.getD, List.getElem?_eq_getElem hi']
theorem joined_bytes : ∀ (ps : List Piece), (∀ p ∈ ps, ∀ z ∈ p.2.2.2, 0 ≤ z ∧ z < 256) → ∀ z ∈ joined ps, 0 ≤ z ∧ z < 256
  | [], _, z, hz => by simp [joined] at hz
  | p :: r, h, z, hz => by
    rcases List.mem_append.1 hz with h1 | h1
    · exact h p (by simp) z h1
    · exact joined_bytes r (fun q hq => h q (by simp [hq])) z h1

/-- The slices lie in one new row: what slices.Concat gives. -/
theorem concat_new (w : World) (g : Nat) (hg : g = w.heap.size) (ps : List Piece) (m : Nat) (cs : Array Value) (t : TypeId) (hl : ps.length = m) (hm : m ≤ 100) (hcs : cs = (ps.map fun p => Value.slice p.1 p.2.1 p.2.2.1).toArray)
    (hs : ∀ p ∈ ps, Shows w w.heap.size p.1 p.2.1 p.2.2.2) (htot : sumLen ps ≤ 1073741824) :
    Calls Try.prog 35 #[.slice (some ⟨g, 0, none⟩) m m] (w.alloc (.cells cs t)) fun e w' => ∃ A c, e = .returned (.slice A (sumLen ps) c) ∧ Shows w' w'.heap.size A (sumLen ps) (joined ps) ∧ sumLen ps ≤ c ∧ c ≤ maxLen ∧ Below w.heap.size w w' := by
  subst hcs hg
  refine (concat_any w.heap.size m m ps _ hl hm (Nat.le_refl _) hm ?_ (by simp) ?_ htot).mono ?_
  · intro i p hp
    rw [cell_of_row _ w.heap.size i _ t (0, 0) (heap_alloc_new w _)]
    simp [List.getElem?_map, hp]
  · intro p hp
    exact ((hs p hp).below ((Below.refl _ _).alloc (Nat.le_refl _) _)).more (by simp)
  · rintro e w' ⟨v, rfl, h1, h2⟩
    obtain ⟨A, c, rfl, h3, h4, h5⟩ := own_shows h1 (joined_bytes ps fun p hp => (hs p hp).2.1)
    exact ⟨A, c, rfl, h3, h4, h5, ((Below.refl _ w).alloc (Nat.le_refl _) _).trans (h2.mono (by simp))⟩

set_option maxHeartbeats 400000 in
theorem put_any (A : Option Addr) (n c : Nat) (zs : List Int) (v : Int) (w : World) (hs : Shows w w.heap.size A n zs) (hn : n ≤ 536870912) (h0 : 0 ≤ v) (h1 : v ≤ 4294967295) :
    Calls Try.prog 56 #[.slice A n c, .int .u32 v] w fun e w' => ∃ A' c', e = .returned (.slice A' (n + 4) c') ∧ Shows w' w'.heap.size A' (n + 4) (zs ++ four v) ∧ n + 4 ≤ c' ∧ c' ≤ maxLen ∧ Below w.heap.size w w' := by
  have hb1 : ∀ o, Below w.heap.size w (w.alloc o) := fun o => (Below.refl _ w).alloc (Nat.le_refl _) o
  have H := concat_new (w.alloc (.cells #[.int .u8 (v / 16777216), .int .u8 (v / 65536 % 256), .int .u8 (v / 256 % 256), .int .u8 (v % 256)] 5)) (w.heap.size + 1) (by simp) [(A, n, c, zs), (some ⟨w.heap.size, 0, none⟩, 4, 4, four v)] 2
    #[Value.slice A n c, Value.slice (some ⟨w.heap.size, 0, none⟩) 4 4] 26 rfl (by omega) rfl
    (fun p hp => by
      simp only [List.mem_cons, List.not_mem_nil, or_false] at hp
      rcases hp with rfl | rfl
      · exact (hs.below (hb1 _)).more (by simp)
      · exact (four_shows w v h0 h1).more (by simp))
    (by simp [sumLen]; omega)
  have HK := Lib.hid H
  clear hs H
  have HB := Lib.hid hb1
  clear hb1
  go_enter Try.func56, Try.ntmps56
  go_wp2_with (go_at_call 66; refine (cell_any v _ h0 h1).mono ?_; rintro e w' ⟨rfl, rfl⟩)
  refine HK.out.mono ?_
  rintro e w' ⟨A', c', rfl, hown, hc1, hc2, hbel⟩
  have HO := Lib.hid (And.intro hown (And.intro hc1 (And.intro hc2 hbel)))
  clear hown hc1 hc2 hbel
  simp only [sumLen, joined, List.append_nil, Nat.add_zero] at HO ⊢
  go_wp2
  go_ret
  obtain ⟨h1, h2, h3, h4⟩ := HO.out
  exact ⟨A', c', rfl, h1, h2, h3, (HB.out _).trans (h4.mono (by simp))⟩

set_option maxHeartbeats 400000 in
theorem put64_any (A : Option Addr) (n c : Nat) (zs : List Int) (v : Int) (w : World) (hs : Shows w w.heap.size A n zs) (hn : n ≤ 536870912) (h0 : 0 ≤ v) (h1 : v ≤ 18446744073709551615) :
    Calls Try.prog 52 #[.slice A n c, .int .u64 v] w fun e w' => ∃ A' c', e = .returned (.slice A' (n + 8) c') ∧ Shows w' w'.heap.size A' (n + 8) (zs ++ (four (v / 4294967296) ++ four (v % 4294967296))) ∧ n + 8 ≤ c' ∧ c' ≤ maxLen ∧ Below w.heap.size w w' := by
  have hb1 : ∀ o p, Below w.heap.size w ((w.alloc o).alloc p) := fun o p => ((Below.refl _ w).alloc (Nat.le_refl _) o).alloc (by simp) p
  obtain ⟨x, hx⟩ : ∃ x, x = v / 4294967296 := ⟨_, rfl⟩
  obtain ⟨y, hy⟩ : ∃ y, y = v % 4294967296 := ⟨_, rfl⟩
  have x0 : 0 ≤ x := by omega
  have x1 : x ≤ 4294967295 := by omega
  have y0 : 0 ≤ y := by omega
  have y1 : y ≤ 4294967295 := by omega
  have H := concat_new ((w.alloc (.cells #[.int .u8 (x / 16777216), .int .u8 (x / 65536 % 256), .int .u8 (x / 256 % 256), .int .u8 (x % 256)] 5)).alloc (.cells #[.int .u8 (y / 16777216), .int .u8 (y / 65536 % 256), .int .u8 (y / 256 % 256), .int .u8 (y % 256)] 5)) (w.heap.size + 1 + 1) (by simp)
    [(A, n, c, zs), (some ⟨w.heap.size, 0, none⟩, 4, 4, four x), (some ⟨w.heap.size + 1, 0, none⟩, 4, 4, four y)] 3
    #[Value.slice A n c, Value.slice (some ⟨w.heap.size, 0, none⟩) 4 4, Value.slice (some ⟨w.heap.size + 1, 0, none⟩) 4 4] 26 rfl (by omega) rfl
    (fun p hp => by
      simp only [List.mem_cons, List.not_mem_nil, or_false] at hp
      rcases hp with rfl | rfl | rfl
      · exact (hs.below (hb1 _ _)).more (by simp; omega)
      · refine ((four_shows w x x0 x1).below ?_).more (by simp)
        exact (Below.refl _ _).alloc (by simp) _
      · have := four_shows (w.alloc (.cells #[.int .u8 (x / 16777216), .int .u8 (x / 65536 % 256), .int .u8 (x / 256 % 256), .int .u8 (x % 256)] 5)) y y0 y1
        simp at this ⊢
        exact this)
    (by simp [sumLen]; omega)
  have HK := Lib.hid H
  clear hs H
  have HB := Lib.hid hb1
  clear hb1
  have e1 : IntKind.u32.wrap (v / 4294967296) = x := by rw [← hx]; exact IntWalk.u32_in _ ⟨x0, x1⟩
  have e2 : IntKind.u32.wrap v = y := by rw [hy, IntKind.wrap_u32']
  have HX := Lib.hid (And.intro hx hy)
  have C1 := Lib.hid (fun W => cell_any x W x0 x1)
  have C2 := Lib.hid (fun W => cell_any y W y0 y1)
  clear hx hy
  go_enter Try.func52, Try.ntmps52
  go_wp2_with fail
  refine (C1.out _).mono ?_
  rintro e w' ⟨rfl, rfl⟩
  go_wp2_with fail
  refine (C2.out _).mono ?_
  rintro e w' ⟨rfl, rfl⟩
  go_wp2_with fail
  refine HK.out.mono ?_
  rintro e w' ⟨A', c', rfl, hown, hc1, hc2, hbel⟩
  have HO := Lib.hid (And.intro hown (And.intro hc1 (And.intro hc2 hbel)))
  clear hown hc1 hc2 hbel
  simp only [sumLen, joined, List.append_nil, Nat.add_zero, show 4 + 4 = 8 from rfl] at HO ⊢
  go_wp2
  go_ret
  obtain ⟨h1, h2, h3, h4⟩ := HO.out
  obtain ⟨rfl, rfl⟩ := HX.out
  exact ⟨A', c', rfl, h1, h2, h3, (HB.out _ _).trans (h4.mono (by simp; omega))⟩
end Go.Proofs.Ytnopcnbeklbfoaa

/-! Layer 5: numbers as bytes, one behind the other. -/
namespace Go.Proofs.Ytnopcnbeklbfoaa
open Go.RowKit
set_option linter.unusedVariables false
set_option linter.unusedSimpArgs false

def foursL (vs : List Int) : List Int := vs.flatMap four
theorem foursL_next (vs : List Int) (j : Nat) (h : j < vs.length) : foursL (vs.take (j + 1)) = foursL (vs.take j) ++ four vs[j] := by
  unfold foursL
  rw [List.take_add_one, List.getElem?_eq_getElem h, List.flatMap_append]
  simp
theorem foursL_length : ∀ vs : List Int, (foursL vs).length = 4 * vs.length
  | [] => rfl
  | v :: r => by
    have ih := foursL_length r
    unfold foursL at ih ⊢
    rw [List.flatMap_cons, List.length_append, ih]
    simp [four]; omega
theorem foursL_byte {vs : List Int} (h : ∀ v ∈ vs, 0 ≤ v ∧ v ≤ 4294967295) : ∀ z ∈ foursL vs, 0 ≤ z ∧ z < 256 := by
  intro z hz
  obtain ⟨v, hv, hz'⟩ := List.mem_flatMap.1 hz
  exact four_byte v (h v hv).1 (h v hv).2 z hz'

set_option maxRecDepth 20000 in
set_option maxHeartbeats 1000000 in
theorem cells_any (g m c : Nat) (vs : List Int) (w : World) (hl : vs.length = m) (hm : m ≤ 100) (hmc : m ≤ c) (hcm : c ≤ 100) (hc : ∀ i (h : i < vs.length), w.cell? ⟨g, i, none⟩ = some (.int .u32 vs[i])) (hg : g < w.heap.size) (hb : ∀ v ∈ vs, 0 ≤ v ∧ v ≤ 4294967295) :
    Calls Try.prog 36 #[.slice (some ⟨g, 0, none⟩) m c] w fun e w' => ∃ A' c', e = .returned (.slice A' (4 * m) c') ∧ Shows w' w'.heap.size A' (4 * m) (foursL vs) ∧ 4 * m ≤ c' ∧ c' ≤ 9223372036854775807 ∧ Below w.heap.size w w' := by
  have HC := Lib.hid hc
  have HL := Lib.hid hl
  have HV := Lib.hid hb
  clear hc hl hb
  go_enter Try.func36, Try.ntmps36
  go_wp2_with fail
  go_loopw [3, 8] (fun v i wr => ∃ k : Nat, k ≤ m ∧ i = .int .i64 k ∧ (∃ A' c', v = .slice A' (4 * k) c' ∧ Shows wr wr.heap.size A' (4 * k) (foursL (vs.take k)) ∧ 4 * k ≤ c' ∧ c' ≤ 9223372036854775807) ∧ Below w.heap.size w wr) (fun _ i _ => m - (intOf i).toNat)
  case atStart => exact ⟨0, Nat.zero_le _, rfl, ⟨none, 0, rfl, Shows.nil _ _, Nat.le_refl _, by omega⟩, Below.refl _ _⟩
  case round =>
    obtain ⟨k, hk, rfl, ⟨A1, c1, rfl, hs, h1, h2⟩, hbe⟩ := hrel
    have HS := Lib.hid hs
    have HB := Lib.hid hbe
    by_cases hlt : k < m
    · have hlt' : k < vs.length := by rw [HL.out]; exact hlt
      obtain ⟨v, hv⟩ : ∃ v, v = vs[k] := ⟨_, rfl⟩
      have ck : wr.cell? ⟨g, k, none⟩ = some (.int .u32 v) := by rw [hv]; exact (hbe.cell (p := ⟨g, k, none⟩) hg).trans (HC.out k hlt')
      have hvb := HV.out v (by rw [hv]; exact List.getElem_mem hlt')
      have HN := Lib.hid (show foursL (vs.take (k + 1)) = foursL (vs.take k) ++ four v by rw [foursL_next vs k hlt', hv])
      have C := Lib.hid (put_any A1 (4 * k) c1 (foursL (vs.take k)) v wr hs (by omega) hvb.1 hvb.2)
      clear hs hbe hv
      go_wp2_with fail
      refine C.out.mono ?_
      rintro e w2 ⟨A2, c2, rfl, hs2, h3, h4, hb2⟩
      have HS2 := Lib.hid hs2
      have HB2 := Lib.hid (HB.out.trans (hb2.mono HB.out.size))
      clear hs2 hb2
      go_wp2
      go_roundw
      case rel => exact ⟨k + 1, by omega, by go_num, ⟨A2, c2, rfl, by rw [HN.out]; exact HS2.out, by omega, h4⟩, HB2.out⟩
      case measure => simp [intOf]; omega
    · obtain rfl : k = m := by omega
      have HT : Hid (vs.take k = vs) := Lib.hid (List.take_of_length_le (by rw [HL.out]; exact Nat.le_refl _))
      clear hs hbe
      go_wp2
      go_ret
      exact ⟨A1, c1, rfl, by have := HS.out; rwa [HT.out] at this, h1, h2, HB.out⟩
end Go.Proofs.Ytnopcnbeklbfoaa

/-! Layer 5: where names stand, as a map. -/
namespace Go.Proofs.Ytnopcnbeklbfoaa
open Go.RowKit Go.Maps Go.WideMaps
set_option linter.unusedVariables false
set_option linter.unusedSimpArgs false

/-- The places of names, from a place on. -/
def mapTo : DataW Unit → Nat → List ByteArray → DataW Unit
  | D, _, [] => D
  | D, o, s :: r => mapTo (D.put (keyL s) (.lit (.int .u32 (o : Int)))) (o + s.size + 1) r
def mapT (l : List ByteArray) : DataW Unit := mapTo (.map []) 0 l
theorem mapTo_snoc : ∀ (l : List ByteArray) (D : DataW Unit) (o : Nat) (s : ByteArray), mapTo D o (l ++ [s]) = (mapTo D o l).put (keyL s) (.lit (.int .u32 ((o + textSize l : Nat) : Int)))
  | [], D, o, s => by simp [mapTo, textSize]
  | x :: l, D, o, s => by
    simp only [List.cons_append, mapTo, mapTo_snoc l, textSize]
    congr 4
    omega
theorem mapT_snoc (l : List ByteArray) (s : ByteArray) : mapT (l ++ [s]) = (mapT l).put (keyL s) (.lit (.int .u32 (textSize l : Int))) := by
  unfold mapT
  rw [mapTo_snoc, Nat.zero_add]
theorem keyL_key (s : ByteArray) : WideAt.IsKeyLit (keyL s) := trivial
theorem keyL_ne {s t : ByteArray} (h : s ≠ t) : keyL s ≠ keyL t := fun e => h (WideShapes.bytes_inj (Lit.string.inj e))
theorem isMap_mapTo : ∀ (l : List ByteArray) (D : DataW Unit) (o : Nat), IsMap D → IsMap (mapTo D o l)
  | [], D, o, h => h
  | s :: r, D, o, h => isMap_mapTo r _ _ (by obtain ⟨es, rfl⟩ := h; exact ⟨_, rfl⟩)
/-- A name is there just if it is; then it stands where the document says. -/
theorem mapTo_has : ∀ (l : List ByteArray) (D : DataW Unit) (o : Nat) (s : ByteArray), IsMap D → Maps.has (mapTo D o l) (keyL s) = (Maps.has D (keyL s) || hasT l s)
  | [], D, o, s, _ => by simp [mapTo, hasT]
  | x :: l, D, o, s, h => by
    have hm : IsMap (D.put (keyL x) (.lit (.int .u32 (o : Int)))) := isMap_mapTo [x] D o h
    rw [mapTo, mapTo_has l _ _ s hm]
    by_cases e : x = s
    · subst e
      rw [has_put_same h (keyL_key x)]
      simp [hasT]
    · rw [has_put_other (keyL_ne (fun h => e h.symm))]
      simp [hasT, e]
theorem mapTo_at : ∀ (l : List ByteArray) (D : DataW Unit) (o : Nat) (s : ByteArray) (z : DataW Unit), IsMap D → hasT l s = true → l.Nodup → (mapTo D o l).atKey (keyL s) z = .lit (.int .u32 ((o + whereL l s : Nat) : Int))
  | [], D, o, s, z, _, h, _ => by simp [hasT] at h
  | x :: l, D, o, s, z, hD, h, hn => by
    have hm : IsMap (D.put (keyL x) (.lit (.int .u32 (o : Int)))) := isMap_mapTo [x] D o hD
    obtain ⟨hn1, hn2⟩ := List.nodup_cons.1 hn
    by_cases e : x = s
    · subst e
      have hno : ∀ (r : List ByteArray) (D : DataW Unit) (o : Nat), x ∉ r → (mapTo D o r).atKey (keyL x) z = D.atKey (keyL x) z := by
        intro r
        induction r with
        | nil => intro D o _; rfl
        | cons y r ih =>
          intro D o hx
          rw [mapTo, ih _ _ (fun h => hx (List.mem_cons_of_mem _ h)), atKey_put_other (keyL_ne (fun h => hx (by rw [h]; exact List.mem_cons_self ..)))]
      rw [mapTo, hno l _ _ hn1, atKey_put_same hD (keyL_key x)]
      simp [whereL]
    · have hl : hasT l s = true := by simpa [hasT, e] using h
      rw [mapTo, mapTo_at l _ _ s z hm hl hn2, whereL, if_neg e]
      congr 3
      omega
theorem mapT_has (l : List ByteArray) (s : ByteArray) : Maps.has (mapT l) (keyL s) = hasT l s := by
  unfold mapT
  rw [mapTo_has l _ _ s ⟨[], rfl⟩]
  simp [Maps.has, DataW.atKey]
theorem mapT_at {l : List ByteArray} {s : ByteArray} (z : DataW Unit) (h : hasT l s = true) (hn : l.Nodup) : (mapT l).atKey (keyL s) z = .lit (.int .u32 (whereL l s : Int)) := by
  unfold mapT
  rw [mapTo_at l _ _ s z ⟨[], rfl⟩ h hn, Nat.zero_add]

/-! ### More names behind those that are there -/
theorem addT_nodup {l : List ByteArray} {s : ByteArray} (h : l.Nodup) : (addT l s).Nodup := by
  unfold addT
  split
  · exact h
  · rename_i hh
    have hns : s ∉ l := fun hm => hh (List.any_eq_true.2 ⟨s, hm, decide_eq_true rfl⟩)
    rw [List.nodup_append]
    exact ⟨h, by simp, fun a ha b hb e => by simp at hb; subst hb e; exact hns ha⟩
theorem addT_pre (l : List ByteArray) (s : ByteArray) : l <+: addT l s := by
  unfold addT; split
  · exact List.prefix_refl _
  · exact List.prefix_append _ _
theorem addT_has (l : List ByteArray) (s : ByteArray) : hasT (addT l s) s = true := by
  unfold addT; split
  · assumption
  · simp [hasT]
theorem whereL_pre : ∀ {l L : List ByteArray} {s : ByteArray}, l <+: L → hasT l s = true → whereL L s = whereL l s
  | [], L, s, _, h => by simp [hasT] at h
  | x :: l, L, s, hp, h => by
    obtain ⟨r, rfl⟩ := hp
    simp only [List.cons_append, whereL]
    by_cases e : x = s
    · rw [if_pos e, if_pos e]
    · rw [if_neg e, if_neg e, whereL_pre (List.prefix_append l r) (by simpa [hasT, e] using h)]
theorem fold_pre : ∀ (ns l : List ByteArray), l <+: ns.foldl addT l
  | [], l => List.prefix_refl _
  | s :: ns, l => (addT_pre l s).trans (fold_pre ns (addT l s))
theorem fold_nodup : ∀ (ns l : List ByteArray), l.Nodup → (ns.foldl addT l).Nodup
  | [], l, h => h
  | s :: ns, l, h => fold_nodup ns _ (addT_nodup h)
theorem textsN_pre : ∀ (n : Nd) (l : List ByteArray), l <+: textsN n l := by
  refine Nd.ind ?_
  intro n ih l
  obtain ⟨nm, pa, pc, ps, ka, kc, ks⟩ := n
  have hl : ∀ (r : List Nd), (∀ k ∈ r, k ∈ ks) → ∀ l, l <+: textsL r l := by
    intro r
    induction r with
    | nil => intro _ l; simp [textsL]
    | cons k r ihr =>
      intro hr l
      exact (ih k (hr k (by simp)) l).trans (ihr (fun x hx => hr x (by simp [hx])) (textsN k l))
  exact (fold_pre (ps.map PV.name) l).trans (hl ks (fun _ h => h) _)
theorem textsL_pre : ∀ (ks : List Nd) (l : List ByteArray), l <+: textsL ks l
  | [], l => by simp [textsL]
  | k :: r, l => (textsN_pre k l).trans (textsL_pre r _)
theorem textsN_nodup : ∀ (n : Nd) (l : List ByteArray), l.Nodup → (textsN n l).Nodup := by
  refine Nd.ind ?_
  intro n ih l h
  obtain ⟨nm, pa, pc, ps, ka, kc, ks⟩ := n
  have hl : ∀ (r : List Nd), (∀ k ∈ r, k ∈ ks) → ∀ l, l.Nodup → (textsL r l).Nodup := by
    intro r
    induction r with
    | nil => intro _ l h; simpa [textsL] using h
    | cons k r ihr =>
      intro hr l h
      exact ihr (fun x hx => hr x (by simp [hx])) (textsN k l) (ih k (hr k (by simp)) l h)
  exact hl ks (fun _ h => h) _ (fold_nodup _ _ h)
end Go.Proofs.Ytnopcnbeklbfoaa
