/-
  Layer 7: the program's One.
-/
import Derived.Test.YtgogkcmdcfcikaaPCells
import Derived.Test.YtgogkcmdcfcikaaPFind
namespace Go.Proofs.Ytgogkcmdcfcikaa
open Go.RowKit
set_option linter.unusedVariables false
set_option linter.unusedSimpArgs false

set_option maxRecDepth 20000 in
set_option maxHeartbeats 4000000 in
theorem oneOK : OneOK := by
  intro n s w hin hs
  have HB := Lib.hid ((Below.refl w.heap.size w).alloc (Nat.le_refl _) (.cells #[Value.string n.name, n.pv, n.kv] 25))
  have HI := Lib.hid (fun o => Nd.In.more ((Below.refl w.heap.size w).alloc (Nat.le_refl _) o).size (hin.under ((Below.refl w.heap.size w).alloc (Nat.le_refl _) o)))
  rcases idx_or (n.props.map PV.name) s with h | ⟨k, h1, h2, _⟩
  · have CF := Lib.hid (fun o => find_off n s (w.alloc o) (HI.out o) (by omega))
    have HO : Hid (oneV n s = (0, false, 0)) := Lib.hid (by rw [oneV, find_none h])
    clear hin h HI
    obtain ⟨nm, pa, pc, ps, ka, kc, ks⟩ := n
    rw [HO.out]
    simp only [Nd.val, Nd.pv, Nd.kv, Nd.name, Nd.pa, Nd.pc, Nd.props, Nd.ka, Nd.kc, Nd.kids] at CF HB ⊢
    go_enter Try.func29, Try.ntmps29
    go_wp2_with fail
    refine (CF.out _).mono ?_
    rintro e w1 ⟨⟨A1, c1, rfl, _⟩, hb⟩
    have HB1 := Lib.hid (HB.out.trans (hb.mono HB.out.size))
    clear hb
    go_wp2
    go_ret3
    exact ⟨rfl, HB1.out⟩
  · rw [List.length_map] at h1
    obtain ⟨zs, hzs⟩ : ∃ zs, n.props[k].zs = zs := ⟨_, rfl⟩
    have CF := fun o => find_on n s (w.alloc o) (HI.out o) k h1 h2 zs hzs
    have HO : Hid (oneV n s = if zs.length = 4 then (numTo zs 0 4, true, 0) else (0, false, 4)) := Lib.hid (by rw [oneV, find_at h1 h2, ← hzs])
    have hN : zs.length ≤ 140737488351232 := by rw [← hzs]; exact (hin.prop (List.getElem_mem h1)).1.2
    have HC := Lib.hid (fun A c W (hW : Shows W W.heap.size A zs.length zs) h1 h2 => cells_any A zs.length c zs W hW (by omega) h1 h2)
    obtain ⟨O, hO⟩ : ∃ O, oneV n s = O := ⟨_, rfl⟩
    rw [hO] at HO ⊢
    obtain ⟨N, hNe⟩ : ∃ N, zs.length = N := ⟨_, rfl⟩
    rw [hNe] at HO HC CF hN
    have HCF := Lib.hid CF
    have HNN := Lib.hid hNe
    clear hin HI hO hNe CF hzs h1 h2
    obtain ⟨nm, pa, pc, ps, ka, kc, ks⟩ := n
    simp only [Nd.val, Nd.pv, Nd.kv, Nd.name, Nd.pa, Nd.pc, Nd.props, Nd.ka, Nd.kc, Nd.kids] at HCF HB ⊢
    go_enter Try.func29, Try.ntmps29
    go_wp2_with fail
    refine (HCF.out _).mono ?_
    rintro e w1 ⟨⟨A1, c1, rfl, hsh, hl1, hl2⟩, hb⟩
    have HB1 := Lib.hid (HB.out.trans (hb.mono HB.out.size))
    have CC := HC.out A1 c1 w1 hsh hl1 hl2
    by_cases h4 : N % 4 = 0
    · have hE : cellsE zs = 0 := by rw [cellsE, if_pos (by rw [HNN.out]; exact h4)]
      obtain ⟨hUL, hU⟩ := u32s_cells (zs := zs) (by rw [HNN.out]; exact h4) rfl
      rw [HNN.out] at hUL hU
      obtain ⟨M, hM⟩ : ∃ M, N / 4 = M := ⟨_, rfl⟩
      rw [hM] at hUL hU
      unfold RowOut at CC
      rw [hE, hUL] at CC
      have HU := Lib.hid hU
      generalize u32s (cellsL zs) = U at CC HU
      have HCC := Lib.hid CC
      clear hb hsh CC hE hUL hU
      go_wp2_with fail
      refine HCC.out.mono ?_
      rintro e w2 ⟨⟨A, c, rfl, hcel, hl3, hl4⟩, hb⟩
      have HB2 := Lib.hid (HB1.out.trans (hb.mono HB1.out.size))
      clear hb
      by_cases h1 : M = 1
      · subst h1
        obtain ⟨bc, oc, rfl, _, hc0⟩ := hcel.2 (by omega)
        have d0 := hc0 0 (by omega)
        rw [Nat.add_zero, HU.out 0 (by omega)] at d0
        obtain ⟨v, hv⟩ : ∃ v, numTo zs 0 4 = v := ⟨_, rfl⟩
        have HO2 : Hid (O = (v, true, 0)) := Lib.hid (by rw [HO.out, if_pos (by omega), hv])
        rw [Nat.mul_zero, hv] at d0
        clear hcel hc0 hv hM h4 HCC HO
        go_wp2
        go_ret3
        exact ⟨by rw [HO2.out]; rfl, HB2.out⟩
      · have k1 : ((M : Int) != 1) = true := by rw [bne_iff_ne]; omega
        have HO2 : Hid (O = (0, false, 4)) := Lib.hid (by rw [HO.out, if_neg (by omega)])
        clear hcel hM h4 h1 HCC HO
        go_wp2
        go_ret3
        exact ⟨by rw [HO2.out]; rfl, HB2.out⟩
    · have hE : cellsE zs = 4 := by rw [cellsE, if_neg (by rw [HNN.out]; exact h4)]
      have hUL : u32s (cellsL zs) = [] := by rw [cellsL, if_neg (by rw [HNN.out]; exact h4)]; rfl
      unfold RowOut at CC
      rw [hE, hUL] at CC
      have HCC : Hid (Calls Try.prog 21 #[.slice A1 N c1] w1 fun e w' => (∃ A c, e = .returned (.tuple #[.slice A 0 c, .int .i64 4]) ∧ Cel w' w'.heap.size A 0 [] ∧ 0 ≤ c ∧ c ≤ 9223372036854775807) ∧ Below w1.heap.size w1 w') := Lib.hid CC
      have HO2 : Hid (O = (0, false, 4)) := Lib.hid (by rw [HO.out, if_neg (by omega)])
      clear hb hsh CC hE hUL h4 HO
      go_wp2_with fail
      refine HCC.out.mono ?_
      rintro e w2 ⟨⟨A, c, rfl, hcel, hl3, hl4⟩, hb⟩
      have HB2 := Lib.hid (HB1.out.trans (hb.mono HB1.out.size))
      clear hb hcel
      go_wp2
      go_ret3
      exact ⟨by rw [HO2.out]; rfl, HB2.out⟩
end Go.Proofs.Ytgogkcmdcfcikaa
