/-
  Layer 15: what is asked of any program at first.
-/
import Derived.Test.YtmgokplpkmndoaaGreatLValid
namespace Go.Proofs.YtmgokplpkmndoaaGreat
open Go.RowKit
set_option linter.unusedVariables false
set_option linter.unusedSimpArgs false

set_option maxRecDepth 20000 in
set_option maxHeartbeats 4000000 in
theorem vcheck_bad (t : Tr) (w : World) (hin : t.In w w.heap.size) (E : Int) (hE : checkE t = E) (h0 : E ≠ 0) : Calls Tryz.prog 6 #[t.val] w fun e w' => e = .returned (.iface 39 (.int .i64 E)) ∧ Below w.heap.size w w' := by
  have C := Lib.hid (fun W (hW : Below w.heap.size w W) => check_any t W (hin.on hW) E hE)
  clear hin hE
  obtain ⟨boot, ra, rc, rs, ⟨nm, pa, pc, ps, ka, kc, ks⟩⟩ := t
  simp only [Tr.val, Tr.rv, Nd.val, Nd.pv, Nd.kv, Nd.name, Nd.pa, Nd.pc, Nd.props, Nd.ka, Nd.kc, Nd.kids] at C ⊢
  have HB := Lib.hid ((Below.refl w.heap.size w).alloc (Nat.le_refl _) (.cells #[.int .u32 boot, .slice ra rs.length rc, .string nm, .slice pa ps.length pc, .slice ka ks.length kc] 37))
  obtain ⟨b0, b1, b2, b3, b4⟩ := box6_cells w (.int .u32 boot) (.slice ra rs.length rc) (.string nm) (.slice pa ps.length pc) (.slice ka ks.length kc) _ (Below.refl _ _)
  have q : (E != 0) = true := by rw [bne_iff_ne]; exact h0
  clear h0
  go_enter Tryz.func6, Tryz.ntmps6
  go_wp2_with fail
  refine (C.out _ HB.out).mono ?_
  rintro e w1 ⟨rfl, hb⟩
  have HB1 := Lib.hid (HB.out.trans (hb.mono HB.out.size))
  clear hb b0 b1 b2 b3 b4 C
  go_wp2
  go_ret
  exact ⟨rfl, HB1.out⟩

def badT : Tr := ⟨0, none, 0, [], Nd.mk ⟨#[97]⟩ none 0 [] none 0 []⟩
theorem badT_in (w : World) (B : Nat) : badT.In w B :=
  ⟨⟨by decide, by decide⟩, ⟨by simp [badT], by simp [badT], by simp [badT]⟩, fun h => absurd h (by simp [badT]), fun r h => by simp [badT] at h,
    .mk _ ⟨by decide, by simp [badT, Nd.props], by simp [badT, Nd.kids]⟩ (by simp [badT, Nd.props, Nd.pc]) (by simp [badT, Nd.pc]) (by simp [badT, Nd.kids, Nd.kc]) (by simp [badT, Nd.kc]) (fun h => absurd h (by simp [badT, Nd.props])) (fun p h => by simp [badT, Nd.props] at h) (fun h => absurd h (by simp [badT, Nd.kids])) (fun k h => by simp [badT, Nd.kids] at h)⟩
theorem bad_wrong : checkE badT ≠ 0 := by
  have e : wrongN badT.root 1 = 5 := by
    rw [wrongN_mk, aloneE]
    simp [badT, Nd.name, nameOk]
  rw [checkE, e]
  decide
set_option maxRecDepth 20000 in
set_option maxHeartbeats 4000000 in
theorem awake15 : Awake15 := by
  intro w
  have C := Lib.hid (fun W => vcheck_bad badT W (badT_in W _) _ rfl bad_wrong)
  obtain ⟨E, hE⟩ : ∃ E, checkE badT = E := ⟨_, rfl⟩
  rw [hE] at C
  have hv : badT.val = .agg #[.int .u32 0, .slice none 0 0, .string ⟨#[97]⟩, .slice none 0 0, .slice none 0 0] := rfl
  rw [hv] at C
  clear hE hv
  go_enter Tryz.func4, Tryz.ntmps4
  go_wp2_with fail
  refine (C.out _).mono ?_
  rintro e w1 ⟨rfl, hb⟩
  have HB := Lib.hid hb
  clear hb C
  go_wp2
  go_ret
  exact ⟨rfl, HB.out⟩
end Go.Proofs.YtmgokplpkmndoaaGreat
