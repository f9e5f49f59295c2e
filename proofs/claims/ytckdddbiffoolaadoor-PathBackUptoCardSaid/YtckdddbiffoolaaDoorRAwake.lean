/-
  The root's path; the empty tree's is what a program that does nothing answers wrongly.
-/
import Derived.Test.YtckdddbiffoolaaDoorRWay
import Derived.Test.YtckdddbiffoolaaDoorRAll
namespace Go.Proofs.YtckdddbiffoolaaDoor
open Go.RowKit
set_option linter.unusedVariables false
set_option linter.unusedSimpArgs false

/-- The empty tree. -/
def trZ : Tr := ⟨0, none, 0, [], .mk ⟨#[]⟩ none 0 [] none 0 []⟩
theorem trZ_in (w : World) (B : Nat) : trZ.In w B :=
  ⟨⟨by decide, by decide⟩, ⟨by simp [trZ], by simp [trZ], by simp [trZ]⟩, fun h => absurd h (by simp [trZ]), fun r h => by simp [trZ] at h,
    .mk _ ⟨by decide, by simp [trZ, Nd.props], by simp [trZ, Nd.kids]⟩ (by simp [trZ, Nd.props, Nd.pc]) (by simp [trZ, Nd.pc]) (by simp [trZ, Nd.kids, Nd.kc]) (by simp [trZ, Nd.kc]) (fun h => absurd h (by simp [trZ, Nd.props])) (fun p h => by simp [trZ, Nd.props] at h) (fun h => absurd h (by simp [trZ, Nd.kids])) (fun p h => by simp [trZ, Nd.kids] at h)⟩

set_option maxRecDepth 20000 in
set_option maxHeartbeats 4000000 in
theorem path_root (t : Tr) (A : Option Addr) (c : Nat) (w : World) (hin : t.In w w.heap.size) (hc : c ≤ 9223372036854775807) :
    Calls Tryd.prog 8 #[t.val, .slice A 0 c] w fun e w' => e = .returned (.tuple #[.string ⟨#[47]⟩, .int .i64 0]) ∧ Below w.heap.size w w' := by
  have HC := Lib.hid (fun (W : World) (hW : Below w.heap.size w W) => (way_any t [] A 0 c t.root W ((hin.under hW).more hW.size) rfl rfl (by omega) (Cel.nil _ _ _) (Nat.zero_le _) hc).mono fun e w' h => show (∃ A c, e = .returned (.tuple #[.slice A 1 c, .int .i64 0])) ∧ Below W.heap.size W w' from ⟨by
    obtain ⟨⟨v, rfl, ho⟩, _⟩ := h
    obtain ⟨A', c', rfl, _⟩ := owned_nodes ho
    exact ⟨A', c', rfl⟩, h.2⟩)
  clear hin
  obtain ⟨boot, ra, rc, rs, ⟨nm, pa, pc, ps, ka, kc, ks⟩⟩ := t
  replace HC : Hid (∀ (W : World) (hW : Below w.heap.size w W), Calls Tryd.prog 15 #[.agg #[.int .u32 boot, .slice ra rs.length rc, .string nm, .slice pa ps.length pc, .slice ka ks.length kc], .slice A 0 c] W fun e w' => (∃ A c, e = .returned (.tuple #[.slice A 1 c, .int .i64 0])) ∧ Below W.heap.size W w') := HC
  show Calls _ _ #[.agg #[.int .u32 boot, .slice ra rs.length rc, .string nm, .slice pa ps.length pc, .slice ka ks.length kc], .slice A 0 c] _ _
  have HB := Lib.hid ((Below.refl w.heap.size w).alloc (Nat.le_refl _) (.cells #[.int .u32 boot, .slice ra rs.length rc, .string nm, .slice pa ps.length pc, .slice ka ks.length kc] 29))
  obtain ⟨b0, b1, b2, b3, b4⟩ := box6_cells w (.int .u32 boot) (.slice ra rs.length rc) (.string nm) (.slice pa ps.length pc) (.slice ka ks.length kc) _ (Below.refl _ _)
  go_enter Tryd.func8, Tryd.ntmps8
  go_wp2_with fail
  refine (HC.out _ HB.out).mono ?_
  rintro e w1 ⟨⟨A1, c1, rfl⟩, hb⟩
  have HB1 := Lib.hid (HB.out.trans (hb.mono HB.out.size))
  clear hb b0 b1 b2 b3 b4
  go_wp2
  go_ret2
  exact ⟨rfl, HB1.out⟩

set_option maxRecDepth 20000 in
set_option maxHeartbeats 4000000 in
theorem awake6 : Awake6 := by
  intro w
  have C := Lib.hid (fun (W : World) => path_root trZ none 0 W (trZ_in W _) (by omega))
  replace C : Hid (∀ W, Calls Tryd.prog 8 #[.agg #[.int .u32 0, .slice none 0 0, .string ⟨#[]⟩, .slice none 0 0, .slice none 0 0], .slice none 0 0] W fun e w' => e = .returned (.tuple #[.string ⟨#[47]⟩, .int .i64 0]) ∧ Below W.heap.size W w') := C
  go_enter Tryd.func4, Tryd.ntmps4
  go_wp2_with fail
  refine (C.out _).mono ?_
  rintro e w1 ⟨rfl, hb⟩
  have HB := Lib.hid hb
  clear hb
  go_wp2
  go_ret
  exact ⟨rfl, HB.out⟩
end Go.Proofs.YtckdddbiffoolaaDoor
