/-
  Layer 5, EncodeMany: a tree whose bytes would be more than may be is refused, one with as many not.
-/
import Derived.Test.YtnopcnbeklbfoaaBase6
namespace Go.Proofs.Ytnopcnbeklbfoaa
open Go.RowKit
set_option linter.unusedVariables false
set_option linter.unusedSimpArgs false

/-- The name "a". -/
def nmA : ByteArray := ⟨#[97]⟩
/-- A tree whose root has one property, of so many noughts. -/
def trM (g h k : Nat) : Tr := ⟨0, none, 0, [], .mk ⟨#[]⟩ (some ⟨h, 0, none⟩) 1 [⟨nmA, some ⟨g, 0, none⟩, k, List.replicate k 0⟩] none 0 []⟩
theorem propB_a : propB nmA = true := by kernel_rfl
theorem trM_check (g h k : Nat) : checkE (trM g h k) = 0 := by
  have e : wrongN (trM g h k).root 1 = 0 := by
    rw [wrongN_mk, aloneE]
    simp [trM, Nd.name, Nd.props, Nd.kids, nameOk, twiceB, wrongL, misP, propB_a]
  rw [checkE, if_pos e, manyE]
  simp [trM, nodesN, nodesL, propsN, propsL, wrap64]
theorem trM_blob (g h k : Nat) : (blobT (trM g h k)).length = 86 + (k + padN k) := by
  have e : textsT (trM g h k) = [nmA] := by
    simp [textsT, trM, textsN, textsL, addT, hasT]
  have e2 : (nodeN [nmA] (trM g h k).root).length = 24 + (k + padN k) := by
    rw [mass_toks, pureN_mk]
    simp [trM, massP, massK, massQ, PV.pure, Nd.name, Nd.props, Nd.kids, nameM, padN]
    have : (ByteArray.mk #[]).size = 0 := rfl
    omega
  rw [blob_length]
  simp only [headT, List.getD_cons_zero, List.getD_cons_succ]
  rw [reserveT, structT, e, List.length_append, List.length_append, e2, textB_length]
  have e3 : resL (trM g h k).rs = [] := rfl
  have e4 : textSize [nmA] = 2 := rfl
  rw [e3, e4]
  simp only [List.length_nil, List.length_replicate, List.length_cons]
  omega
theorem make_zeros (k : Nat) (hk : k ≤ 2000000) (w : World) :
    (Instr.makeSlice 26 (.int .i64 (k : Int)) (.int .i64 (k : Int))).run Try.prog w = .ok (.slice (some ⟨w.heap.size, 0, none⟩) k k) (w.alloc (.cells (madeCells #[.int .u8 0] k) 5)) :=
  run_make_row' (P := Try.prog) 26 5 (.int .u8 0) 1 Try.underlying26 info_u8 rfl .i64 .i64 k (by omega) (by omega) w
theorem trM_in (W : World) (g h k : Nat) (hk : k ≤ 2000000) (h0 : W.cell? ⟨h, 0, none⟩ = some (.string nmA)) (h1 : W.cell? ⟨h, 1, none⟩ = some (.slice (some ⟨g, 0, none⟩) k k)) (hs : Shows W W.heap.size (some ⟨g, 0, none⟩) k (List.replicate k 0)) : (trM g h k).In W W.heap.size :=
  ⟨⟨by show (0 : Int) ≤ 0; decide, by show (0 : Int) ≤ _; decide⟩, ⟨by simp [trM], by simp [trM], by simp [trM]⟩, fun h => absurd h (by simp [trM]), fun r h => by simp [trM] at h,
    .mk _ ⟨by show (ByteArray.mk #[]).size ≤ _; decide, by simp [trM, Nd.props], by simp [trM, Nd.kids]⟩ (by simp [trM, Nd.props, Nd.pc]) (by simp [trM, Nd.pc]) (by simp [trM, Nd.kids, Nd.kc]) (by simp [trM, Nd.kc])
      (fun _ => ⟨h, 0, rfl, World.block_lt_of_cell? W _ h0, fun i hi => by
        have hi0 : i = 0 := by simp [trM, Nd.props] at hi; omega
        subst hi0
        refine ⟨h0, ?_⟩
        rw [h1]
        simp [trM, Nd.props, PV.val]⟩)
      (fun p hp => by
        obtain rfl : p = ⟨nmA, some ⟨g, 0, none⟩, k, List.replicate k 0⟩ := by simpa [trM, Nd.props] using hp
        refine ⟨⟨by show nmA.size ≤ _; decide, by simp; omega⟩, by simpa using hs, by simp, by simp; omega⟩)
      (fun h => absurd h (by simp [trM, Nd.kids])) (fun k h => by simp [trM, Nd.kids] at h)⟩
theorem trM_heft (g h k : Nat) (hk : k ≤ 2000000) : heftN (trM g h k).root ≤ 268435456 := by
  have e : nmA.size = 1 := rfl
  have e2 : (ByteArray.mk #[]).size = 0 := rfl
  simp [trM, heftN, heftL, heftP, e, e2]
  omega

set_option maxRecDepth 20000 in
set_option maxHeartbeats 8000000 in
theorem encodeMany_true (n : Nat) (w : World) (hn : n ≤ 4294967295) :
    Calls Try.prog 8 #[.int .u32 n] w fun e w' => e = .returned (.bool true) ∧ Below w.heap.size w w' := by
  obtain ⟨m, hm⟩ : ∃ m, n % 300 = m := ⟨_, rfl⟩
  have hm3 : m < 300 := by omega
  have em : ((n : Int) % 300) = (m : Int) := by omega
  obtain ⟨k, hk⟩ : ∃ k, 1048376 + m = k := ⟨_, rfl⟩
  have hk2 : k ≤ 1048700 := by omega
  have ek : (1048376 + (m : Int)) = (k : Int) := by omega
  obtain ⟨j, hj⟩ : ∃ j, (k + 3) / 4 = j := ⟨_, rfl⟩
  have ej : (((k : Int) + 3) / 4) = (j : Int) := by omega
  obtain ⟨N, hN⟩ : ∃ N, 86 + j * 4 = N := ⟨_, rfl⟩
  have hNk : ∀ g h, (blobT (trM g h k)).length = N := fun g h => by rw [trM_blob, ← hN]; unfold padN; omega
  have CE := Lib.hid (fun g h W hin => (encode_any (trM g h k) W hin (trM_heft g h k (by omega))).mono fun e w' (ho : EncOut (trM g h k) e w' ∧ _) => show ((1048576 < N → e = .returned (.tuple #[.slice none 0 0, .int .i64 7])) ∧ (N ≤ 1048576 → ∃ A c, e = .returned (.tuple #[.slice A N c, .int .i64 0]))) ∧ Below W.heap.size W w' from by
    obtain ⟨⟨_, o2, o3⟩, hb⟩ := ho
    rw [hNk] at o2 o3
    refine ⟨⟨o2 (trM_check g h k), fun hl => ?_⟩, hb⟩
    obtain ⟨A, c, h, _⟩ := o3 (trM_check g h k) hl
    exact ⟨A, c, h⟩)
  have HIN := Lib.hid (fun W g h => trM_in W g h k (by omega))
  have hmk := make_zeros k (by omega)
  have HBR := Lib.hid (fun (W : World) => (made_brow W k).shows (n := k) (by simp) (by intro z hz; rw [List.eq_of_mem_replicate hz]; omega))
  clear hm hk hNk
  replace CE : Hid (∀ (g h : Nat) (W : World), (trM g h k).In W W.heap.size → Calls Try.prog 18 #[.agg #[.int .u32 0, .slice none 0 0, .string ⟨#[]⟩, .slice (some ⟨h, 0, none⟩) 1 1, .slice none 0 0]] W _) := CE
  go_enter Try.func8, Try.ntmps8
  go_wp2_with fail
  refine (awake5 _).mono ?_
  rintro e w1 ⟨rfl, hb⟩
  have HB1 := Lib.hid hb
  clear hb
  go_wp2_with fail
  have hz := (Below.refl w1.heap.size w1).alloc (Nat.le_refl _) (.cells (madeCells #[.int .u8 0] k) 5)
  have hp := (Below.refl _ (w1.alloc (.cells (madeCells #[.int .u8 0] k) 5))).alloc (Nat.le_refl _) (.cells #[.string ⟨#[97]⟩, .slice (some ⟨w1.heap.size, 0, none⟩) k k] 52)
  have ht := (Below.refl _ ((w1.alloc (.cells (madeCells #[.int .u8 0] k) 5)).alloc (.cells #[.string ⟨#[97]⟩, .slice (some ⟨w1.heap.size, 0, none⟩) k k] 52))).alloc (Nat.le_refl _) (.cells #[.int .u32 0, .slice none 0 0, .string ⟨#[]⟩, .slice (some ⟨w1.heap.size + 1, 0, none⟩) 1 1, .slice none 0 0] 40)
  have HZ := Lib.hid (hz.trans ((hp.mono hz.size).trans (ht.mono (Nat.le_trans hz.size hp.size))))
  have hc0 := (ht.cell (p := ⟨w1.heap.size + 1, 0, none⟩) (by simp)).trans (World.cell?_alloc_at #[.string ⟨#[97]⟩, .slice (some ⟨w1.heap.size, 0, none⟩) k k] 52 (w1.heap.size + 1) 0 (by simp))
  have hc1 := (ht.cell (p := ⟨w1.heap.size + 1, 1, none⟩) (by simp)).trans (World.cell?_alloc_at #[.string ⟨#[97]⟩, .slice (some ⟨w1.heap.size, 0, none⟩) k k] 52 (w1.heap.size + 1) 1 (by simp))
  have hsh := (((HBR.out w1).below hp).more hp.size |>.below ht).more ht.size
  have hin := HIN.out _ w1.heap.size (w1.heap.size + 1) hc0 hc1 hsh
  refine (CE.out _ _ _ hin).mono ?_
  rintro e w2 ⟨⟨o1, o2⟩, hb⟩
  have HB2 := Lib.hid (HB1.out.trans ((HZ.out.trans (hb.mono HZ.out.size)).mono HB1.out.size))
  clear hz hp ht hc0 hc1 hsh hin hb
  have HNJ := Lib.hid hN
  clear hN
  by_cases hbig : 1048576 < N
  · obtain rfl := o1 hbig
    have k1 : decide ((1048576 : Int) < 84 + (j : Int) * 4 + 2) = true := decide_eq_true (by have := HNJ.out; omega)
    clear o1 o2 hbig
    go_wp2
    go_ret
    exact ⟨rfl, HB2.out⟩
  · obtain ⟨A, c, rfl⟩ := o2 (by omega)
    have k1 : decide ((1048576 : Int) < 84 + (j : Int) * 4 + 2) = false := decide_eq_false (by have := HNJ.out; omega)
    have k2 : ((N : Int) == 84 + (j : Int) * 4 + 2) = true := by rw [beq_iff_eq]; have := HNJ.out; omega
    clear o1 o2 hbig
    go_wp2
    go_ret
    exact ⟨rfl, HB2.out⟩
end Go.Proofs.Ytnopcnbeklbfoaa
