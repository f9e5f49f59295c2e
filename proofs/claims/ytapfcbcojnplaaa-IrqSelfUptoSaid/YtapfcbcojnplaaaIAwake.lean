/-
  Layer 14: the statements' awake.
-/
import Derived.Test.YtapfcbcojnplaaaIThrough
namespace Go.Proofs.Ytapfcbcojnplaaa
open Go.RowKit
set_option linter.unusedVariables false
set_option linter.unusedSimpArgs false

/-- The empty tree. -/
def trI : Tr := ⟨0, none, 0, [], .mk ⟨#[]⟩ none 0 [] none 0 []⟩
theorem trI_in (w : World) (B : Nat) : trI.In w B := ⟨⟨by decide, by decide⟩, ⟨Nat.le_refl _, by decide, by decide⟩, fun h => absurd h (by decide), fun r hr => (by cases hr),
  .mk _ ⟨by decide, by decide, by decide⟩ (Nat.le_refl _) (by decide) (Nat.le_refl _) (by decide) (fun h => absurd h (by decide)) (fun p hp => (by cases hp)) (fun h => absurd h (by decide)) (fun k hk => (by cases hk))⟩
def ptrSome : Value → Nat
  | .pointer (some _) => 1
  | _ => 0

set_option maxRecDepth 20000 in
set_option maxHeartbeats 2000000 in
theorem get0_any (r : Nat) (w : World) (hr : w.heap[r]? = some (rbox trI none 0)) :
    Calls Try.prog 18 #[.pointer (some ⟨r, 0, none⟩), .slice none 0 0] w fun e w' => ∃ b, e = .returned (.tuple #[.pointer (some ⟨b, 0, none⟩), .int .i64 0]) ∧ Spot w' trI.root (fun _ => True) b [] trI.root ∧ Below w.heap.size w w' := by
  have CA := Lib.hid (at_any trI r none 0 [] none 0 0 w hr (trI_in _ _) (Cel.nil _ _ _) (Nat.le_refl _) (by decide))
  clear hr
  go_enter Try.func18, Try.ntmps18
  go_wp2_with fail
  refine CA.out.mono ?_
  rintro e w1 ⟨⟨b, x, zn, rfl, hx, hz, hsp⟩ | ⟨rfl, hx⟩, hb⟩
  · have HB := Lib.hid hb
    have e1 : zn = [] := by
      cases zn with
      | nil => rfl
      | cons a l => simp at hz
    subst e1
    have e2 : x = trI.root := (Option.some.inj hx).symm
    subst e2
    have HS := Lib.hid (hsp.sub (D' := fun _ => True) (fun _ _ _ => trivial))
    clear hb hx hz hsp CA
    go_wp2
    go_ret2
    exact ⟨b, rfl, HS.out, HB.out⟩
  · exact absurd hx (by simp [nodeZ])

set_option maxRecDepth 20000 in
set_option maxHeartbeats 2000000 in
theorem parent0_any (r b : Nat) (D : Nat → Prop) (w : World) (hs : Spot w trI.root D b [] trI.root) :
    Calls Try.prog 19 #[.pointer (some ⟨r, 0, none⟩), .pointer (some ⟨b, 0, none⟩)] w fun e w' => e = .returned (.tuple #[.pointer none, .int .i64 8]) ∧ Below w.heap.size w w' := by
  have HS := Lib.hid hs
  have C1 : Hid (∀ W : World, Calls Try.prog 28 #[.agg #[.string ⟨#[]⟩, .slice none 0 0, .slice none 0 0], .string ⟨#[105, 110, 116, 101, 114, 114, 117, 112, 116, 45, 112, 97, 114, 101, 110, 116]⟩] W fun e w' => e = .returned (.tuple #[.int .u32 0, .bool false, .int .i64 0]) ∧ Below W.heap.size W w') := Lib.hid (fun W => oneOK trI.root ⟨#[105, 110, 116, 101, 114, 114, 117, 112, 116, 45, 112, 97, 114, 101, 110, 116]⟩ W (trI_in W _).root (by decide))
  clear hs
  go_enter Try.func19, Try.ntmps19
  go_wp2_with fail
  go_loopw [1] (fun s wr => (s = .pointer (some ⟨b, 0, none⟩) ∨ s = .pointer none) ∧ Below w.heap.size w wr) (fun s _ => ptrSome s)
  case atStart => exact ⟨.inl rfl, Below.refl _ _⟩
  case round =>
    obtain ⟨rfl | rfl, hb⟩ := hrel
    · have HB := Lib.hid hb
      have hs1 := HS.out.on hb
      rcases hs1.inv with ⟨_, _, hbk⟩ | ⟨a, i, z1, x1, hz, _⟩
      rotate_left
      · simp at hz
      obtain ⟨s0, s1, s2, s3, s4⟩ := spot_cells hbk
      replace s0 : wr.cell? ⟨b, 0, none⟩ = some (.string ⟨#[]⟩) := s0
      replace s1 : wr.cell? ⟨b, 1, none⟩ = some (.slice none 0 0) := s1
      replace s2 : wr.cell? ⟨b, 2, none⟩ = some (.slice none 0 0) := s2
      clear hb hs1 hbk s3 s4
      go_wp2_with fail
      refine (C1.out _).mono ?_
      rintro e w2 ⟨rfl, hb2⟩
      have HB2 := Lib.hid (HB.out.trans (hb2.mono HB.out.size))
      have hs2 := HS.out.on HB2.out
      rcases hs2.inv with ⟨_, _, hbk⟩ | ⟨a, i, z1, x1, hz, _⟩
      rotate_left
      · simp at hz
      obtain ⟨_, _, _, s3, _⟩ := spot_cells hbk
      clear hb2 hs2 hbk s0 s1 s2
      go_wp2
      go_roundw
      case rel => exact ⟨.inr rfl, HB2.out⟩
      case measure => simp [ptrSome]
    · have HB := Lib.hid hb
      clear hb
      go_wp2
      go_ret2
      exact ⟨rfl, HB.out⟩

set_option maxRecDepth 20000 in
set_option maxHeartbeats 2000000 in
theorem parentE_any (w : World) : Calls Try.prog 10 #[.agg #[.int .u32 0, .slice none 0 0, .string ⟨#[]⟩, .slice none 0 0, .slice none 0 0], .slice none 0 0] w fun e w' => e = .returned (.tuple #[.slice none 0 0, .int .i64 8]) ∧ Below w.heap.size w w' := by
  obtain ⟨g, hg⟩ : ∃ g, w.heap.size = g := ⟨_, rfl⟩
  have HF : Hid (∀ W1, (w.alloc (.cells #[.int .u32 0, .slice none 0 0, .string ⟨#[]⟩, .slice none 0 0, .slice none 0 0] 29)).alloc (.cells #[.int .u32 0, .slice none 0 0, .string ⟨#[]⟩, .slice none 0 0, .slice none 0 0, .map none, .int .i64 0] 49) = W1 → W1.heap[g + 1]? = some (rbox trI none 0) ∧ Below g w W1 ∧ W1.heap.size = g + 2) := Lib.hid (by
    rintro W1 rfl
    have e1 : (w.alloc (.cells #[.int .u32 0, .slice none 0 0, .string ⟨#[]⟩, .slice none 0 0, .slice none 0 0] 29)).heap.size = g + 1 := by simp [hg]
    refine ⟨?_, ((Below.refl g w).alloc (by omega) _).alloc (by omega) _, by simp [hg]⟩
    rw [← e1]; exact heap_alloc_new _ _)
  rw [hg]
  go_enter Try.func10, Try.ntmps10
  go_wp2_with fail
  generalize hW1 : (w.alloc (.cells #[.int .u32 0, .slice none 0 0, .string ⟨#[]⟩, .slice none 0 0, .slice none 0 0] 29)).alloc (.cells #[.int .u32 0, .slice none 0 0, .string ⟨#[]⟩, .slice none 0 0, .slice none 0 0, .map none, .int .i64 0] 49) = W1
  have HW := Lib.hid (HF.out W1 hW1)
  clear hW1 HF
  refine (get0_any (g + 1) W1 HW.out.1).mono ?_
  rintro e w2 ⟨b, rfl, hs, hb⟩
  have HB2 := Lib.hid (HW.out.2.1.trans (hb.mono (by have := HW.out.2.2; omega)))
  have CP := Lib.hid (parent0_any (g + 1) b _ w2 hs)
  clear hs hb
  go_wp2_with fail
  refine CP.out.mono ?_
  rintro e w3 ⟨rfl, hb⟩
  have HB3 := Lib.hid (HB2.out.trans (hb.mono (by have := HB2.out.size; omega)))
  clear hb CP
  go_wp2
  go_ret2
  exact ⟨rfl, HB3.out⟩

set_option maxRecDepth 20000 in
set_option maxHeartbeats 2000000 in
theorem awake14 : Awake14 := by
  intro w
  have C := Lib.hid parentE_any
  go_enter Try.func4, Try.ntmps4
  go_wp2_with fail
  refine (C.out _).mono ?_
  rintro e w1 ⟨rfl, hb⟩
  have HB := Lib.hid hb
  clear hb
  go_wp2
  go_ret
  exact ⟨rfl, HB.out⟩
end Go.Proofs.Ytapfcbcojnplaaa
