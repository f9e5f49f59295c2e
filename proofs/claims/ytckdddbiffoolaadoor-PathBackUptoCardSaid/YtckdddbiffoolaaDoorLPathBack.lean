/-
  Layer 6, PathBack: the path of each node of a formed tree leads to it: out of what the program's All, Path and Find answer.
-/
import Derived.Test.YtckdddbiffoolaaDoorLPathAll
namespace Go.Proofs.YtckdddbiffoolaaDoor
open Go.RowKit
set_option linter.unusedVariables false
set_option linter.unusedSimpArgs false

/-- What the program's Path answers of a node's place: S is the text. -/
def PathOK (S : Tr → List Nat → ByteArray) : Prop := ∀ (t : Tr) (p : List Nat) (A : Option Addr) (n c : Nat) (w : World), t.In w w.heap.size → checkE t = 0 → heftN t.root ≤ 134217728 → p ∈ placesN t.root [] → p.length = n → Cel w w.heap.size A n (ints p) → n ≤ c → c ≤ 9223372036854775807 →
  Calls Tryd.prog 8 #[t.val, .slice A n c] w fun e w' => e = .returned (.tuple #[.string (S t p), .int .i64 0]) ∧ Below w.heap.size w w'
/-- What the program's Find answers of such a text. -/
def FindOK (S : Tr → List Nat → ByteArray) : Prop := ∀ (t : Tr) (p : List Nat) (w : World), t.In w w.heap.size → checkE t = 0 → heftN t.root ≤ 134217728 → p ∈ placesN t.root [] →
  ((S t p).size ≤ 1024 → Calls Tryd.prog 9 #[t.val, .string (S t p)] w fun e w' => (∃ A c, e = .returned (.tuple #[.slice A p.length c, .int .i64 0]) ∧ Cel w' w'.heap.size A p.length (ints p) ∧ p.length ≤ c ∧ c ≤ 9223372036854775807) ∧ Below w.heap.size w w') ∧
  (1024 < (S t p).size → Calls Tryd.prog 9 #[t.val, .string (S t p)] w fun e w' => (∃ A n c E, e = .returned (.tuple #[.slice A n c, .int .i64 E])) ∧ Below w.heap.size w w')

set_option maxRecDepth 20000 in
set_option maxHeartbeats 8000000 in
theorem pathBack_true (hA : AllOK) (hK : Awake6) (S : Tr → List Nat → ByteArray) (hP : PathOK S) (hF : FindOK S) (t : Tr) (w : World) (hin : t.In w w.heap.size) (hheft : heftN t.root ≤ 134217728) :
    Calls Tryd.prog 3 #[t.val] w fun e w' => e = .returned (.bool true) ∧ Below w.heap.size w w' := by
  obtain ⟨E, hE⟩ : ∃ E, checkE t = E := ⟨_, rfl⟩
  have C0 := Lib.hid (fun w h => few_any t w h)
  have C1 := Lib.hid (fun w h => hA t w h hheft)
  have C3 := Lib.hid (fun w h => refcheck_any t w h E hE)
  have HK := Lib.hid hK
  have HI := Lib.hid hin
  obtain ⟨PS, hPS⟩ : ∃ PS, placesN t.root [] = PS := ⟨_, rfl⟩
  have CP0 := Lib.hid (fun (h0 : E = 0) (p : List Nat) (hp : p ∈ PS) A n c W hW => hP t p A n c W hW (hE.trans h0) hheft (by rw [hPS]; exact hp))
  have CF0 := Lib.hid (fun (h0 : E = 0) (p : List Nat) (hp : p ∈ PS) W hW => hF t p W hW (hE.trans h0) hheft (by rw [hPS]; exact hp))
  have HL : Hid (PS.length ≤ 134217728) := Lib.hid (by rw [← hPS]; exact Nat.le_trans (places_len t.root []).1 hheft)
  rw [hPS] at C1
  generalize hT : S t = T at *
  clear hA hK hin hheft hPS hP hF hE hT S
  obtain ⟨boot, ra, rc, rs, ⟨nm, pa, pc, ps, ka, kc, ks⟩⟩ := t
  simp only [Tr.val, Tr.rv, Nd.val, Nd.pv, Nd.kv, Nd.name, Nd.pa, Nd.pc, Nd.props, Nd.ka, Nd.kc, Nd.kids] at C0 C1 C3 CP0 CF0 ⊢
  have HB := Lib.hid ((Below.refl w.heap.size w).alloc (Nat.le_refl _) (.cells #[.int .u32 boot, .slice ra rs.length rc, .string nm, .slice pa ps.length pc, .slice ka ks.length kc] 29))
  have BX := Lib.hid (box6_cells w (.int .u32 boot) (.slice ra rs.length rc) (.string nm) (.slice pa ps.length pc) (.slice ka ks.length kc))
  go_enter Tryd.func3, Tryd.ntmps3
  go_wp2_with fail
  refine (HK.out _).mono ?_
  rintro e w1 ⟨rfl, hb⟩
  have HB1 := Lib.hid (HB.out.trans (hb.mono HB.out.size))
  have HX1 := Lib.hid (hb.mono (B' := w.heap.size + 1) (by simp))
  obtain ⟨b0, b1, b2, b3, b4⟩ := BX.out _ HX1.out
  clear hb
  go_wp2_with fail
  refine (C0.out _ (HI.out.on HB1.out)).mono ?_
  rintro e w2 ⟨⟨r, rfl⟩, hb⟩
  have HB2 := Lib.hid (HB1.out.trans (hb.mono HB1.out.size))
  have HX2 := Lib.hid (HX1.out.trans (hb.mono (by have := HX1.out.size; simpa using this)))
  clear hb b0 b1 b2 b3 b4
  obtain ⟨b0, b1, b2, b3, b4⟩ := BX.out _ HX2.out
  cases r
  · clear b0 b1 b2 b3 b4
    go_wp2_with fail
    refine (HK.out _).mono ?_
    rintro e w3 ⟨rfl, hb⟩
    have HB3 := Lib.hid (HB2.out.trans (hb.mono HB2.out.size))
    clear hb
    go_wp2
    go_ret
    exact ⟨rfl, HB3.out⟩
  · go_wp2_with fail
    refine (C3.out _ (HI.out.on HB2.out)).mono ?_
    rintro e w3 ⟨rfl, hb⟩
    have HB3 := Lib.hid (HB2.out.trans (hb.mono HB2.out.size))
    have HX3 := Lib.hid (HX2.out.trans (hb.mono (by have := HX2.out.size; simpa using this)))
    clear hb b0 b1 b2 b3 b4
    by_cases hE0 : E = 0
    · subst hE0
      have CP1 := Lib.hid (CP0.out rfl)
      have CF1 := Lib.hid (CF0.out rfl)
      clear CP0 CF0
      obtain ⟨b0, b1, b2, b3, b4⟩ := BX.out _ HX3.out
      go_wp2_with fail
      refine (C1.out _ (HI.out.on HB3.out)).mono ?_
      rintro e w4 ⟨⟨v4, rfl, hr4⟩, hb⟩
      obtain ⟨A4, c4, rfl, s4, l4, m4⟩ := hr4.show
      have HB4 := Lib.hid (HB3.out.trans (hb.mono HB3.out.size))
      have HX4 := Lib.hid (HX3.out.trans (hb.mono (by have := HX3.out.size; simpa using this)))
      have HS4 := Lib.hid s4
      obtain ⟨N, hN⟩ : ∃ N, PS.length = N := ⟨_, rfl⟩
      have HN := Lib.hid hN
      rw [hN] at l4 HS4
      rw [hN]
      have hN2 : N ≤ 134217728 := by rw [← hN]; exact HL.out
      clear hb b0 b1 b2 b3 b4 s4 hr4 hN
      go_wp2_with fail
      go_loopw [26] (fun i wr => ∃ k : Nat, k ≤ N ∧ i = .int .i64 k ∧ Below w4.heap.size w4 wr) (fun i _ => N - (intOf i).toNat)
      case atStart => exact ⟨0, Nat.zero_le _, rfl, Below.refl _ _⟩
      case round =>
        obtain ⟨k, hk, rfl, hb⟩ := hrel
        have HBX := Lib.hid hb
        have HLE := Lib.hid hb.size
        have HB := Lib.hid (HB4.out.trans (hb.mono HB4.out.size))
        have HXR := Lib.hid (HX4.out.trans (hb.mono (by have := HX4.out.size; simpa using this)))
        by_cases hlt : k < N
        · obtain ⟨vs, hv1, hv2⟩ := HS4.out.on hb
          have hkp : k < PS.length := by rw [HN.out]; exact hlt
          have hkv : k < vs.length := by rw [hv2.len]; exact hkp
          obtain ⟨b, o, e, _, hc⟩ := hv1.2 (by omega)
          obtain rfl : A4 = _ := e
          have ck := hc k hlt
          rw [List.getElem?_eq_getElem hkv] at ck
          obtain ⟨Bk, m, e1, hp1, hm1, hm1', hq7⟩ := hv2.get k hkv hkp
          clear hq7
          rw [e1] at ck
          have hmem := List.getElem_mem hkp
          obtain ⟨P, hPk⟩ : ∃ P, PS[k] = P := ⟨_, rfl⟩
          rw [hPk] at ck hp1 hm1 hmem
          obtain ⟨pl, hpl⟩ : ∃ pl, P.length = pl := ⟨_, rfl⟩
          obtain ⟨s, hs⟩ : ∃ s, T P = s := ⟨_, rfl⟩
          have HPK := Lib.hid (show Cel wr wr.heap.size Bk pl (ints P) from by rw [← hpl]; exact hp1)
          rw [hpl] at ck hm1
          have HPM := Lib.hid (And.intro hm1 hm1')
          have CPATH := Lib.hid (CP1.out P hmem Bk pl m wr.drew (HI.out.on HB.out.drew) hpl (HPK.out.on (Below.refl _ wr).drew) hm1 hm1')
          have CFIND := Lib.hid (fun W (hW : Below w.heap.size w W) => (CF1.out P hmem W (HI.out.on hW)).1)
          have CLONG := Lib.hid (fun W (hW : Below w.heap.size w W) => (CF1.out P hmem W (HI.out.on hW)).2)
          rw [hs] at CPATH CFIND CLONG
          rw [hpl] at CFIND
          have HS : Hid (∀ W, Below wr.heap.size wr W → (W.cell? ⟨w.heap.size, 0, none⟩ = some (.int .u32 boot) ∧ W.cell? ⟨w.heap.size, 1, none⟩ = some (.slice ra rs.length rc) ∧ W.cell? ⟨w.heap.size, 2, none⟩ = some (.string nm) ∧ W.cell? ⟨w.heap.size, 3, none⟩ = some (.slice pa ps.length pc) ∧ W.cell? ⟨w.heap.size, 4, none⟩ = some (.slice ka ks.length kc) ∧ W.cell? ⟨b, o + k, none⟩ = some (Value.slice Bk pl m))) := Lib.hid (fun W hW => by
            obtain ⟨b0, b1, b2, b3, b4⟩ := BX.out W (HXR.out.trans (hW.mono (by have := HXR.out.size; simpa using this)))
            exact ⟨b0, b1, b2, b3, b4, (hW.cell (p := ⟨b, o + k, none⟩) (World.block_lt_of_cell? wr _ ck)).trans ck⟩)
          clear hv1 hv2 hkv hc hp1 hpl hmem hPk hkp hb ck e1 hs
          go_wp2_with fail
          refine wp_region_held_drew (S := fun W => W.cell? ⟨w.heap.size, 0, none⟩ = some (.int .u32 boot) ∧ W.cell? ⟨w.heap.size, 1, none⟩ = some (.slice ra rs.length rc) ∧ W.cell? ⟨w.heap.size, 2, none⟩ = some (.string nm) ∧ W.cell? ⟨w.heap.size, 3, none⟩ = some (.slice pa ps.length pc) ∧ W.cell? ⟨w.heap.size, 4, none⟩ = some (.slice ka ks.length kc) ∧ W.cell? ⟨b, o + k, none⟩ = some (Value.slice Bk pl m)) (by kernel_rfl) (HS.out _ (Below.refl _ wr).drew) (fun hHeld => ?_)
          refine held_take 0 rfl (by kernel_rfl) (by kernel_rfl) (by kernel_rfl) (fun _ _ _ h => h) (by rfl) hHeld (v := ?_) (fun w hSw => ?_) (fun _ => ?_)
          rotate_left
          · ((try dsimp only at hSw); go_simp; (try with_reducible rfl))
          simp only [Act.put, List.setIfInBounds_toArray, List.set_cons_zero, List.set_cons_succ]
          refine held_take 1 rfl (by kernel_rfl) (by kernel_rfl) (by kernel_rfl) (fun _ _ _ h => h) (by rfl) hHeld (v := ?_) (fun w hSw => ?_) (fun _ => ?_)
          rotate_left
          · ((try dsimp only at hSw); go_simp; (try with_reducible rfl))
          simp only [Act.put, List.setIfInBounds_toArray, List.set_cons_zero, List.set_cons_succ]
          refine held_take 2 rfl (by kernel_rfl) (by kernel_rfl) (by kernel_rfl) (fun _ _ _ h => h) (by rfl) hHeld (v := ?_) (fun w hSw => ?_) (fun _ => ?_)
          rotate_left
          · ((try dsimp only at hSw); go_simp; (try with_reducible rfl))
          simp only [Act.put, List.setIfInBounds_toArray, List.set_cons_zero, List.set_cons_succ]
          refine held_take 3 rfl (by kernel_rfl) (by kernel_rfl) (by kernel_rfl) (fun _ _ _ h => h) (by rfl) hHeld (v := ?_) (fun w hSw => ?_) (fun _ => ?_)
          rotate_left
          · ((try dsimp only at hSw); go_simp; (try with_reducible rfl))
          simp only [Act.put, List.setIfInBounds_toArray, List.set_cons_zero, List.set_cons_succ]
          refine held_take 4 rfl (by kernel_rfl) (by kernel_rfl) (by kernel_rfl) (fun _ _ _ h => h) (by rfl) hHeld (v := ?_) (fun w hSw => ?_) (fun _ => ?_)
          rotate_left
          · ((try dsimp only at hSw); go_simp; (try with_reducible rfl))
          simp only [Act.put, List.setIfInBounds_toArray, List.set_cons_zero, List.set_cons_succ]
          refine held_call 5 (by kernel_rfl) rfl (by rfl) (fun K hK => ?_)
          go_simp
          refine CPATH.out.mono ?_
          rintro e w4 ⟨rfl, hb4⟩
          have HD4 := Lib.hid ((Below.refl wr.heap.size wr).drew.trans hb4)
          clear hb4
          dsimp only
          refine hK.out _ _ (HS.out _ HD4.out) (fun hHeld => ?_)
          clear hK K
          refine held_take 6 rfl (by kernel_rfl) (by kernel_rfl) (by kernel_rfl) (fun _ _ _ h => h) (by rfl) hHeld (v := ?_) (fun w hSw => ?_) (fun _ => ?_)
          rotate_left
          · ((try dsimp only at hSw); go_simp; (try with_reducible rfl))
          simp only [Act.put, List.setIfInBounds_toArray, List.set_cons_zero, List.set_cons_succ]
          refine held_take 7 rfl (by kernel_rfl) (by kernel_rfl) (by kernel_rfl) (fun _ _ _ h => h) (by rfl) hHeld (v := ?_) (fun w hSw => ?_) (fun _ => ?_)
          rotate_left
          · ((try dsimp only at hSw); go_simp; (try with_reducible rfl))
          simp only [Act.put, List.setIfInBounds_toArray, List.set_cons_zero, List.set_cons_succ]
          refine held_take 8 rfl (by kernel_rfl) (by kernel_rfl) (by kernel_rfl) (fun _ _ _ h => h) (by rfl) hHeld (v := ?_) (fun w hSw => ?_) (fun _ => ?_)
          rotate_left
          · ((try dsimp only at hSw); go_simp; (try with_reducible rfl))
          simp only [Act.put, List.setIfInBounds_toArray, List.set_cons_zero, List.set_cons_succ]
          refine held_take 9 rfl (by kernel_rfl) (by kernel_rfl) (by kernel_rfl) (fun _ _ _ h => h) (by rfl) hHeld (v := ?_) (fun w hSw => ?_) (fun _ => ?_)
          rotate_left
          · ((try dsimp only at hSw); go_simp; (try with_reducible rfl))
          simp only [Act.put, List.setIfInBounds_toArray, List.set_cons_zero, List.set_cons_succ]
          refine held_take 10 rfl (by kernel_rfl) (by kernel_rfl) (by kernel_rfl) (fun _ _ _ h => h) (by rfl) hHeld (v := ?_) (fun w hSw => ?_) (fun _ => ?_)
          rotate_left
          · ((try dsimp only at hSw); go_simp; (try with_reducible rfl))
          simp only [Act.put, List.setIfInBounds_toArray, List.set_cons_zero, List.set_cons_succ]
          refine wpAnyH_done (by kernel_rfl) ?_ _
          clear hHeld
          obtain ⟨b0, b1, b2, b3, b4, bk⟩ := HS.out _ HD4.out
          have HB4 := Lib.hid (HB.out.trans (HD4.out.mono HB.out.size))
          by_cases h10 : s.size ≤ 1024
          · have k1 : decide ((s.size : Int) ≤ 1024) = true := decide_eq_true (by omega)
            have CF := Lib.hid (CFIND.out w4 HB4.out h10)
            clear h10 bk
            go_wp2_with fail
            refine CF.out.mono ?_
            rintro e w5 ⟨⟨A5, c5, rfl, s5, l5, m5⟩, hb5⟩
            have HD5 := Lib.hid (HD4.out.trans (hb5.mono HD4.out.size))
            have CE := Lib.hid (equalI_any A5 Bk pl pl c5 m _ _ P P w5 s5 (HPK.out.below HD5.out) (Nat.le_refl _) HD5.out.size l5 m5 HPM.out.1 HPM.out.2 true (decide_eq_true rfl))
            clear b0 b1 b2 b3 b4 hb5 s5
            obtain ⟨b0, b1, b2, b3, b4, bk⟩ := HS.out _ HD5.out
            go_wp2_with fail
            refine CE.out.mono ?_
            rintro e w6 ⟨rfl, hb6⟩
            have HD6 := Lib.hid (HD5.out.trans (hb6.mono HD5.out.size))
            clear b0 b1 b2 b3 b4 bk hb6
            go_wp2
            go_roundw
            case rel => exact ⟨k + 1, by omega, by go_num, HBX.out.trans (HD6.out.mono HLE.out)⟩
            case measure => simp [intOf]; omega
          · have k1 : decide ((s.size : Int) ≤ 1024) = false := decide_eq_false (by omega)
            have CF := Lib.hid (CLONG.out w4 HB4.out (by omega))
            clear h10 bk
            go_wp2_with fail
            refine CF.out.mono ?_
            rintro e w5 ⟨⟨A5, n5, c5, E5, rfl⟩, hb5⟩
            have HD5 := Lib.hid (HD4.out.trans (hb5.mono HD4.out.size))
            clear b0 b1 b2 b3 b4 hb5
            go_wp2
            go_roundw
            case rel => exact ⟨k + 1, by omega, by go_num, HBX.out.trans (HD5.out.mono HLE.out)⟩
            case measure => simp [intOf]; omega
        · clear hb
          go_wp2
          go_ret
          exact ⟨rfl, HB.out⟩
    · have n1 : (E != 0) = true := by rw [bne_iff_ne]; exact hE0
      clear hE0
      go_wp2_with fail
      refine (HK.out _).mono ?_
      rintro e w4 ⟨rfl, hb⟩
      have HB4 := Lib.hid (HB3.out.trans (hb.mono HB3.out.size))
      clear hb
      go_wp2
      go_ret
      exact ⟨rfl, HB4.out⟩
end Go.Proofs.YtckdddbiffoolaaDoor
