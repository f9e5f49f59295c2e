/-
  Layer 13: the program's Up; a program that answers.
-/
import Derived.Test.YtbblgkidgecdpaaXSteps
namespace Go.Proofs.Ytbblgkidgecdpaa
open Go.RowKit
set_option linter.unusedVariables false
set_option linter.unusedSimpArgs false

theorem wayL_getD (R : Nd) (z : List Int) (n j : Nat) (h : j ≤ n) : (wayL R z n).getD j ndZ = (nodeZ R (z.take j)).getD ndZ := by
  have hl : j < (wayL R z n).length := by rw [wayL_length]; omega
  rw [List.getD, List.getElem?_eq_getElem hl, Option.getD_some, wayL_at]
/-- The steps, from the last one on, are the way up. -/
theorem climb_up (R : Nd) (z : List Int) (s : Int) (n : Nat) (xs : List StepR) (hl : xs.length = n) (hP : ∀ j (h : j < xs.length), StepP (wayL R z n) j xs[j]) : ∀ (k : Nat) (a : Int), k ≤ n →
    (upV R z s k a = none → ∃ er, climbF s (xs.take k).reverse a = (0, er) ∧ (er = 12 ∨ er = 10)) ∧ (∀ b, upV R z s k a = some b → climbF s (xs.take k).reverse a = (b, 0))
  | 0, a, _ => ⟨fun h => by (unfold upV at h; cases h), fun b h => by (unfold upV at h; rw [← Option.some.inj h]; rfl)⟩
  | k + 1, a, hk => by
    have hkl : k < xs.length := by omega
    have e : (xs.take (k + 1)).reverse = xs[k] :: (xs.take k).reverse := by
      rw [List.take_add_one, List.getElem?_eq_getElem hkl, List.reverse_append]; rfl
    have hp := hP k hkl
    unfold StepP at hp
    rw [wayL_getD R z n k (by omega), wayL_getD R z n (k + 1) hk] at hp
    have ih := climb_up R z s n xs hl hP k
    rw [e, upV, wayR]
    generalize xs[k] = x at *
    generalize rangesV ((nodeZ R (z.take k)).getD ndZ) ((nodeZ R (z.take (k + 1))).getD ndZ) = O at *
    obtain ⟨o1, ok, L⟩ := O
    simp only at hp ⊢
    cases ok
    · have h10 := hp.2 rfl
      rw [if_pos rfl, climbF, if_pos (by rw [h10]; decide), h10]
      exact ⟨fun _ => ⟨10, rfl, .inr rfl⟩, fun b h => by (cases h)⟩
    · obtain ⟨h0, hL⟩ := hp.1 rfl
      rw [if_neg (by simp), climbF, if_neg (by simp [h0]), hL]
      cases hu : upOne L a s with
      | none => exact ⟨fun _ => ⟨12, rfl, .inl rfl⟩, fun b h => by (cases h)⟩
      | some b => exact ih b (by omega)
theorem way_nodes {R : Nd} {z : List Int} {n : Nat} {y x : Nd} (hr : nodeZ R z = some y) (hx : x ∈ wayL R z n) : ∃ k, nodeZ R (z.take k) = some x := by
  obtain ⟨j, _, rfl⟩ := List.mem_map.1 hx
  obtain ⟨v, hv⟩ := nodeZ_take hr j
  exact ⟨j, by rw [hv]; rfl⟩

set_option maxRecDepth 20000 in
set_option maxHeartbeats 8000000 in
theorem up_any (t : Tr) (z : List Int) (A : Option Addr) (n c : Nat) (a s : Int) (w : World) (hin : t.In w w.heap.size) (hp : Cel w w.heap.size A n (intsZ z)) (hnc : n ≤ c) (hc : c ≤ 9223372036854775807) (hh : heftN t.root ≤ 134217728) (ha : U64 a) (hs : U64 s) (h40 : n ≤ 40) : Calls Try.prog 12 #[t.val, .slice A n c, .int .u64 a, .int .u64 s] w fun e w' =>
    (nodeZ t.root z = none → e = .returned (.tuple #[.int .u64 0, .int .i64 8])) ∧ ((∃ y, nodeZ t.root z = some y) → (upV t.root z s n a = none → ∃ er : Int, e = .returned (.tuple #[.int .u64 0, .int .i64 er]) ∧ (er = 12 ∨ er = 10)) ∧ (∀ b, upV t.root z s n a = some b → e = .returned (.tuple #[.int .u64 b, .int .i64 0]))) ∧ Below w.heap.size w w' := by
  have HW := Lib.hid (fun W (hW : Below w.heap.size w W) => way_any t z A n c W (hin.on hW) (hp.on hW) hnc hc h40)
  have hroot := hin.root
  obtain ⟨R, hR⟩ : ∃ R, t.root = R := ⟨_, rfl⟩
  rw [hR] at HW hroot hh ⊢
  have HI := Lib.hid hroot
  have HH := Lib.hid hh
  have HPL : Hid (z.length = n) := Lib.hid (by have := hp.1; rwa [List.length_map] at this)
  have HST := Lib.hid (fun (y : Nd) (hy : nodeZ R z = some y) (W : World) (A' : Option Addr) (c' : Nat) (hW : Below w.heap.size w W) (h1 : Cel3 W W.heap.size A' (n + 1) ((wayL R z n).map Nd.tri)) (h2 : n + 1 ≤ c') (h3 : c' ≤ 9223372036854775807) => steps_any A' (n + 1) c' n (wayL R z n) W rfl h1 (fun x hx => by
      obtain ⟨k, hk⟩ := way_nodes hy hx
      exact ((nodeZ_in _ hroot hk).under hW).more hW.size) (fun x hx => by
      obtain ⟨k, hk⟩ := way_nodes hy hx
      exact Nat.le_trans (nodeZ_heft _ hk) (by omega)) h2 h3 (by omega))
  have HA := Lib.hid (And.intro ha hs)
  clear hin hp hR hroot hh ha hs
  obtain ⟨boot, ra, rc, rs, ⟨nm, pa, pc, ps, ka, kc, ks⟩⟩ := t
  simp only [Tr.val, Tr.rv, Nd.val, Nd.pv, Nd.kv, Nd.name, Nd.pa, Nd.pc, Nd.props, Nd.ka, Nd.kc, Nd.kids] at HW ⊢
  obtain ⟨b0, b1, b2, b3, b4⟩ := box6_cells w (.int .u32 boot) (.slice ra rs.length rc) (.string nm) (.slice pa ps.length pc) (.slice ka ks.length kc) _ (Below.refl _ _)
  have HB := Lib.hid ((Below.refl w.heap.size w).alloc (Nat.le_refl _) (.cells #[.int .u32 boot, .slice ra rs.length rc, .string nm, .slice pa ps.length pc, .slice ka ks.length kc] 31))
  go_enter Try.func12, Try.ntmps12
  go_wp2_with fail
  refine (HW.out _ HB.out).mono ?_
  rintro e w1 ⟨hn, hy, hb⟩
  have HB1 := Lib.hid (HB.out.trans (hb.mono HB.out.size))
  clear hb b0 b1 b2 b3 b4 HW
  rcases hz : nodeZ R z with _ | y
  · obtain rfl := hn hz
    have HZ := Lib.hid hz
    clear hn hy hz
    go_wp2
    go_ret2
    exact ⟨fun _ => rfl, fun h => by (obtain ⟨_, h⟩ := h; rw [HZ.out] at h; cases h), HB1.out⟩
  · obtain ⟨A1, c1, rfl, hcel, hc1, hc2⟩ := hy ⟨y, hz⟩
    have HZ := Lib.hid hz
    have HS := Lib.hid (HST.out y hz w1 A1 c1 HB1.out hcel hc1 hc2)
    clear hn hy hz hcel hc1 hc2 HST
    go_wp2_with fail
    refine HS.out.mono ?_
    rintro e w2 ⟨⟨A2, c2, xs, rfl, hxl, hc1, hc2, hrow, hfr, hok, hP⟩, hb⟩
    have HB2 := Lib.hid (HB1.out.trans (hb.mono HB1.out.size))
    have HCL := Lib.hid (climb_any A2 n c2 w1.heap.size xs a s w2 hxl hrow hok hc1 hc2 (by omega) HA.out.1 HA.out.2)
    have hcu := climb_up R z s n xs hxl hP n a (Nat.le_refl _)
    rw [List.take_of_length_le (by omega)] at hcu
    obtain ⟨CV, hCV⟩ : ∃ CV, climbF s xs.reverse a = CV := ⟨_, rfl⟩
    rw [hCV] at HCL hcu
    have HCU := Lib.hid hcu
    clear hb hxl hc1 hc2 hrow hfr hok hP hcu hCV HS
    go_wp2_with fail
    refine HCL.out.mono ?_
    rintro e w3 ⟨rfl, hb⟩
    have HB3 := Lib.hid (HB2.out.trans (hb.mono HB2.out.size))
    clear hb HCL
    go_wp2
    go_ret2
    refine ⟨fun h => by (rw [HZ.out] at h; cases h), fun _ => ⟨fun h => ?_, fun b h => ?_⟩, HB3.out⟩
    · obtain ⟨er, he, h12⟩ := HCU.out.1 h
      exact ⟨er, by (rw [he] <;> rfl), h12⟩
    · (rw [HCU.out.2 b h] <;> rfl)
theorem xupOK : XUpOK := fun t z A n c a s w hin hp hnc hc hh ha hs h40 _ => up_any t z A n c a s w hin hp hnc hc hh ha hs h40

set_option maxHeartbeats 2000000 in
theorem awake13 : Awake13 := by
  intro w
  have C : Hid (∀ W : World, Calls Try.prog 12 #[.agg #[.int .u32 0, .slice none 0 0, .string ⟨#[]⟩, .slice none 0 0, .slice none 0 0], .slice none 0 0, .int .u64 5, .int .u64 1] W fun e w' => e = .returned (.tuple #[.int .u64 5, .int .i64 0]) ∧ Below W.heap.size W w') := Lib.hid (fun W =>
    (up_any ⟨0, none, 0, [], Nd.mk ⟨#[]⟩ none 0 [] none 0 []⟩ [] none 0 0 5 1 W ⟨⟨by show (0 : Int) ≤ 0; decide, by show (0 : Int) ≤ _; decide⟩, ⟨by simp, by simp, by simp⟩, fun h => absurd h (by simp), fun r h => by simp at h, nd0_in _ _⟩ ⟨rfl, fun h => absurd h (Nat.lt_irrefl 0)⟩ (Nat.le_refl _) (by omega) (by decide) ⟨by decide, by decide⟩ ⟨by decide, by decide⟩ (by omega)).mono fun e w' h => ⟨(h.2.1 ⟨_, rfl⟩).2 5 rfl, h.2.2⟩)
  go_enter Try.func7, Try.ntmps7
  go_wp2_with fail
  refine (C.out _).mono ?_
  rintro e w1 ⟨rfl, hb⟩
  have HB := Lib.hid hb
  clear hb
  go_wp2
  go_ret
  exact ⟨rfl, HB.out⟩
end Go.Proofs.Ytbblgkidgecdpaa
