/-
  Base, part 10.
-/
import Derived.Test.YtcfinbapfhhpgaaGreatDoorBase9
import Derived.Test.YtcfinbapfhhpgaaGreatDoorBase7
import Derived.Test.YtcfinbapfhhpgaaGreatDoorBase6
import Derived.Lib.SliceRun
import Derived.Laws.IdiomCopy
import Derived.Test.YtcfinbapfhhpgaaGreatDoorSortLay
import Derived.Test.YtcfinbapfhhpgaaGreatDoorBase1
import Derived.Shelf.SlSortCmp.NoneTotal
import Derived.Maps.Own
import Derived.Maps.OwnSet
import Derived.Maps.OwnOps
import Derived.Maps.Views
import Derived.DeepKeys4
namespace Go.Proofs.YtcfinbapfhhpgaaGreatDoor
open Go.RowKit
set_option linter.unusedVariables false
set_option linter.unusedSimpArgs false
set_option maxRecDepth 20000
set_option maxHeartbeats 16000000
theorem qpo_ (wa ws : Int) (w : World) (h1 : U64 wa) (h2 : U64 ws) (r : Bool) (hr : qdf_ wa ws = !r) :
  Calls Tryz.prog 147 #[.agg #[.int .u64 wa, .int .u64 ws]] w fun e w' => e = .returned (.bool r) /\ Below w.heap.size w w' := by
 have HB := Lib.hid ((Below.refl w.heap.size w).alloc (Nat.le_refl _) (.cells #[.int .u64 wa, .int .u64 ws] 173))
 obtain ⟨a0, a1⟩ := h1
 obtain ⟨s0, s1⟩ := h2
 by_cases h0 : ws = 0
 ·subst h0
  obtain rfl : r = false := by cases r <;> simp [qdf_] at hr ⊢
  clear hr
  go_enter Tryz.func147, Tryz.ntmps147
  go_wp2
  go_ret
  exact ⟨rfl, HB.out⟩
 ·have k1 : decide ((0 : Int) < ws) = true := decide_eq_true (by omega)
  have w1 : IntKind.u64.wrap (ws - 1) = ws - 1 := IntWalk.u64_in _ (by omega)
  have w2 : IntKind.u64.wrap (18446744073709551615 - wa) = 18446744073709551615 - wa := IntWalk.u64_in _ (by omega)
  have hr' : decide (18446744073709551615 - wa < ws - 1) = r := by
   rw [qdf_, decide_eq_false h0, Bool.false_or] at hr
   cases r <;> simp at hr ⊢ <;> omega
  clear hr
  go_enter Tryz.func147, Tryz.ntmps147
  go_wp2
  go_ret
  exact ⟨rfl, HB.out⟩
theorem qm7_ : InsideOK := by
 intro wa ws a s w h1 h2 h3 h4
 obtain ⟨W0, hW0⟩ : ∃ W0, w.alloc (.cells #[.int .u64 wa, .int .u64 ws] 173) = W0 := ⟨_, rfl⟩
 have HB : Hid (Below w.heap.size w W0) := Lib.hid (by rw [<- hW0]; exact (Below.refl w.heap.size w).alloc (Nat.le_refl _) _)
 have HS0 : Hid (W0.heap.size = w.heap.size + 1) := Lib.hid (by rw [<- hW0]; simp)
 have HX : Hid (∀ W : World, Below W0.heap.size W0 W -> W.cell? ⟨w.heap.size, 0, none⟩ = some (.int .u64 wa) /\ W.cell? ⟨w.heap.size, 1, none⟩ = some (.int .u64 ws)) := Lib.hid (fun W h => by
  have hlt : w.heap.size < W0.heap.size := by rw [<- hW0]; simp
  exact ⟨(h.cell (p := ⟨w.heap.size, 0, none⟩) hlt).trans (by rw [<- hW0]; exact World.cell?_alloc_new _ _ _ _), (h.cell (p := ⟨w.heap.size, 1, none⟩) hlt).trans (by rw [<- hW0]; exact World.cell?_alloc_new _ _ _ _)⟩)
 obtain ⟨y, hy⟩ : ∃ y, qdf_ wa ws = !y := ⟨!qdf_ wa ws, by simp⟩
 have C := Lib.hid (fun W => qpo_ wa ws W h1 h2 y hy)
 obtain ⟨r, hr⟩ : ∃ r, qb2_ wa ws a s = r := ⟨_, rfl⟩
 have hr2 : (decide (s ≠ 0) && decide (ws ≠ 0) && qdf_ a s && !y && (decide (wa <= a) && decide (a + (s - 1) <= wa + (ws - 1)))) = r := by rw [<- hy]; exact hr
 rw [hr]
 have HR := Lib.hid hr2
 have HY := Lib.hid hy
 have H1 := Lib.hid h1
 have H2 := Lib.hid h2
 have H3 := Lib.hid h3
 have H4 := Lib.hid h4
 clear hr hr2 hy h1 h2 h3 h4
 by_cases hs0 : s = 0
 ·subst hs0
  obtain rfl : r = false := by rw [<- HR.out]; rfl
  go_enter Tryz.func116, Tryz.ntmps116
  go_wp2
  go_ret
  exact ⟨rfl, HB.out⟩
 have k1 : (s == 0) = false := by rw [beq_eq_false_iff_ne]; exact hs0
 have HS := Lib.hid hs0
 clear hs0
 obtain ⟨c0, c1⟩ := HX.out _ (Below.refl _ _)
 go_enter Tryz.func116, Tryz.ntmps116
 go_wp2_with fail
 refine (C.out _).mono ?_
 rintro e w1 ⟨rfl, hb⟩
 have HB1 := Lib.hid (HB.out.trans (hb.mono HB.out.size))
 obtain ⟨d0, d1⟩ := HX.out _ hb
 clear hb c0 c1 hW0 C
 cases y
 rotate_left
 ·obtain rfl : r = false := by rw [<- HR.out]; simp
  go_wp2
  go_ret
  exact ⟨rfl, HB1.out⟩
 by_cases hlt : a < wa
 ·have k2 : decide (a < wa) = true := decide_eq_true hlt
  obtain rfl : r = false := by rw [<- HR.out, decide_eq_false (by omega : ¬ wa <= a)]; simp
  go_wp2
  go_ret
  exact ⟨rfl, HB1.out⟩
 ·have k2 : decide (a < wa) = false := decide_eq_false hlt
  have w1 : IntKind.u64.wrap (a - wa) = a - wa := IntWalk.u64_in _ (by have := H1.out.1; have := H3.out.2; omega)
  by_cases hin : a - wa < ws
  ·have k3 : decide (a - wa < ws) = true := decide_eq_true hin
   have w2 : IntKind.u64.wrap (ws - (a - wa)) = ws - (a - wa) := IntWalk.u64_in _ (by have := H1.out.1; have := H3.out.2; have := H2.out.2; omega)
   have hr' : decide (s <= ws - (a - wa)) = r := by
    rw [<- HR.out]
    have e1 := HY.out
    have := HS.out
    have := H1.out.1
    have := H2.out.1
    have := H3.out.1
    have := H4.out.1
    simp only [qdf_, Bool.not_false, Bool.or_eq_true, decide_eq_true_eq] at e1
    rw [Bool.eq_iff_iff]
    simp only [qdf_, Bool.not_false, Bool.and_eq_true, Bool.or_eq_true, decide_eq_true_eq, and_true]
    omega
   clear hlt hin
   go_wp2
   go_ret
   exact ⟨rfl, HB1.out⟩
  ·have k3 : decide (a - wa < ws) = false := decide_eq_false hin
   obtain rfl : r = false := by
    rw [<- HR.out, Bool.eq_false_iff]
    intro h
    simp only [qdf_, Bool.and_eq_true, Bool.or_eq_true, decide_eq_true_eq] at h
    have := H4.out.1
    omega
   clear hlt hin
   go_wp2
   go_ret
   exact ⟨rfl, HB1.out⟩
theorem meetOK : MeetOK := by
 intro a s b t w h1 h2 h3 h4
 have HB := Lib.hid (((Below.refl w.heap.size w).alloc (Nat.le_refl _) (.cells #[.int .u64 a, .int .u64 s] 173)).alloc (by simp) (.cells #[.int .u64 b, .int .u64 t] 173))
 obtain ⟨r, hr⟩ : ∃ r, meetB a s b t = r := ⟨_, rfl⟩
 rw [hr]
 have HR := Lib.hid hr
 have H1 := Lib.hid h1
 have H2 := Lib.hid h2
 have H3 := Lib.hid h3
 have H4 := Lib.hid h4
 clear hr
 obtain ⟨h1a, h1b⟩ := h1
 obtain ⟨h2a, h2b⟩ := h2
 obtain ⟨h3a, h3b⟩ := h3
 obtain ⟨h4a, h4b⟩ := h4
 have key : r = true ↔ (s ≠ 0 /\ t ≠ 0) /\ (a - b < t /\ b - a < s) := by
  rw [<- HR.out]
  unfold meetB lastA qdf_
  simp only [Bool.and_eq_true, decide_eq_true_eq, Bool.or_eq_true]
  split <;> split <;> omega
 have KEY := Lib.hid key
 clear key
 by_cases hab : a <= b
 ·have m1 : max a b = b := Int.max_eq_right hab
  have w1 : IntKind.u64.wrap (b - a) = b - a := IntWalk.u64_in _ (by omega)
  have hr' : (decide (b - a < s) && decide (0 < t)) = r := by
   rw [Bool.eq_iff_iff, KEY.out]
   simp only [Bool.and_eq_true, decide_eq_true_eq]
   omega
  have HR2 := Lib.hid hr'
  clear hr'
  go_enter Tryz.func89, Tryz.ntmps89
  cases hd : decide (b - a < s)
  ·obtain rfl : r = false := by rw [<- HR2.out, hd]; rfl
   go_wp2
   go_ret
   exact ⟨rfl, HB.out⟩
  ·obtain rfl : r = decide (0 < t) := by rw [<- HR2.out, hd]; rfl
   go_wp2
   go_ret
   exact ⟨rfl, HB.out⟩
 ·have m1 : max a b = a := Int.max_eq_left (by omega)
  have w2 : IntKind.u64.wrap (a - b) = a - b := IntWalk.u64_in _ (by omega)
  have hr' : (decide (0 < s) && decide (a - b < t)) = r := by
   rw [Bool.eq_iff_iff, KEY.out]
   simp only [Bool.and_eq_true, decide_eq_true_eq]
   omega
  have HR2 := Lib.hid hr'
  clear hr'
  go_enter Tryz.func89, Tryz.ntmps89
  cases hd : decide (0 < s)
  ·obtain rfl : r = false := by rw [<- HR2.out, hd]; rfl
   go_wp2
   go_ret
   exact ⟨rfl, HB.out⟩
  ·obtain rfl : r = decide (a - b < t) := by rw [<- HR2.out, hd]; rfl
   go_wp2
   go_ret
   exact ⟨rfl, HB.out⟩
theorem upOne_hit {L : List (Int × Int × Int)} {a s : Int} {r : Int × Int × Int} (h : L.find? (fun r => qb2_ r.1 r.2.2 a s) = some r) : upOne L a s = if 18446744073709551615 - r.2.1 < a - r.1 \/ qdf_ (r.2.1 + (a - r.1)) s = false then none else some (r.2.1 + (a - r.1)) := by
 unfold upOne
 rw [h]
theorem qoc_ {L : List (Int × Int × Int)} {a s : Int} (h : L.find? (fun r => qb2_ r.1 r.2.2 a s) = none) : upOne L a s = none := by
 unfold upOne
 rw [h]
theorem ql0_ (A : Option Addr) (m c : Nat) (L : List (Int × Int × Int)) (a s : Int) (w : World) (hs : Cel3 w w.heap.size A m (L.map rngV)) (hmc : m <= c) (hc : c <= 9223372036854775807) (h64 : ∀ r ∈ L, R64 r) (ha : U64 a) (hss : U64 s) (hlen : m <= 1099511627776) :
  Calls Tryz.prog 149 #[.slice A m c, .int .u64 a, .int .u64 s] w fun e w' => e = .returned (.tuple #[.int .u64 ((upOne L a s).getD 0), .bool (upOne L a s).isSome]) /\ Below w.heap.size w w' := by
 have HS := Lib.hid hs
 have HLN : Hid (L.length = m) := Lib.hid (by have := hs.1; rwa [List.length_map] at this)
 have H64 := Lib.hid h64
 have HA64 := Lib.hid ha
 have HS64 := Lib.hid hss
 obtain ⟨ha0, ha1⟩ := ha
 obtain ⟨hs0, hs1⟩ := hss
 obtain ⟨UV, hUV⟩ : ∃ UV, upOne L a s = UV := ⟨_, rfl⟩
 have HUV := Lib.hid hUV
 rw [hUV]
 clear hs h64 hUV
 go_enter Tryz.func149, Tryz.ntmps149
 go_wp2_with fail
 go_loopw [13] (fun i wr => ∃ j : Nat, j <= m /\ i = .int .i64 j /\ (∀ r ∈ L.take j, qb2_ r.1 r.2.2 a s = false) /\ Below w.heap.size w wr) (fun i _ => m - (intOf i).toNat)
 case atStart => exact ⟨0, Nat.zero_le _, rfl, by simp, Below.refl _ _⟩
 case round =>
  obtain ⟨j, hj, rfl, hall, hb⟩ := hrel
  have HBW := Lib.hid hb
  by_cases hlt : j < m
  ·have hjl : j < L.length := by rw [HLN.out]; exact hlt
   have hjm : j < (L.map rngV).length := by rw [List.length_map]; exact hjl
   obtain ⟨b, o, e, _, hcl⟩ := (HS.out.below hb).2 (by omega)
   obtain rfl : A = _ := e
   obtain ⟨p0, p1, p2⟩ := hcl j hjm
   rw [List.getElem_map] at p0 p1 p2
   have hff := qid_ L a s j hjl
   have h64 := H64.out _ (List.getElem_mem hjl)
   have htk : L.take (j + 1) = L.take j ++ [L[j]] := by rw [List.take_add_one, List.getElem?_eq_getElem hjl]; rfl
   generalize L[j] = Y at *
   obtain ⟨rb, rab, rsz⟩ := Y
   replace p0 : wr.cell? ⟨b, o + j * 3, none⟩ = some (.int .u64 rb) := p0
   replace p1 : wr.cell? ⟨b, o + j * 3 + 1, none⟩ = some (.int .u64 rab) := p1
   replace p2 : wr.cell? ⟨b, o + j * 3 + 2, none⟩ = some (.int .u64 rsz) := p2
   obtain ⟨⟨u1, u2⟩, ⟨u3, u4⟩, ⟨u5, u6⟩⟩ := h64
   simp only at u1 u2 u3 u4 u5 u6
   obtain ⟨ins, hins⟩ : ∃ ins, qb2_ rb rsz a s = ins := ⟨_, rfl⟩
   have CI := Lib.hid (fun V => qm7_ rb rsz a s V ⟨u1, u2⟩ ⟨u5, u6⟩ HA64.out HS64.out)
   rw [hins] at CI
   have HINS := Lib.hid hins
   have HALL := Lib.hid hall
   have HFF := Lib.hid (hff hall)
   have HTK := Lib.hid htk
   obtain ⟨V, hV⟩ : ∃ V, wr.alloc (.cells #[.int .u64 rb, .int .u64 rab, .int .u64 rsz] 171) = V := ⟨_, rfl⟩
   have bV : Below w.heap.size w V := by rw [<- hV]; exact hb.alloc hb.size _
   have HBV := Lib.hid bV
   have q0 : V.cell? ⟨wr.heap.size, 0, none⟩ = some (.int .u64 rb) := by rw [<- hV]; exact World.cell?_alloc_new _ _ _ _
   have q1 : V.cell? ⟨wr.heap.size, 1, none⟩ = some (.int .u64 rab) := by rw [<- hV]; exact World.cell?_alloc_new _ _ _ _
   have q2 : V.cell? ⟨wr.heap.size, 2, none⟩ = some (.int .u64 rsz) := by rw [<- hV]; exact World.cell?_alloc_new _ _ _ _
   have HQ := Lib.hid (fun (W : World) (h : Below V.heap.size V W) => And.intro ((h.cell (p := ⟨wr.heap.size, 0, none⟩) (by rw [<- hV]; simp)).trans q0) (And.intro ((h.cell (p := ⟨wr.heap.size, 1, none⟩) (by rw [<- hV]; simp)).trans q1) ((h.cell (p := ⟨wr.heap.size, 2, none⟩) (by rw [<- hV]; simp)).trans q2)))
   clear hb hcl hjl hjm hff hall htk hins bV
   go_wp2_with fail
   refine (CI.out _).mono ?_
   rintro e w4 ⟨rfl, hb4⟩
   clear p0 p1 p2 q0 q1 q2 hV
   obtain ⟨q0, q1, q2⟩ := HQ.out _ hb4
   have HB4 := Lib.hid (HBV.out.trans (hb4.mono HBV.out.size))
   clear hb4 HQ CI
   cases ins
   ·have HAL2 : Hid (∀ r ∈ L.take (j + 1), qb2_ r.1 r.2.2 a s = false) := Lib.hid (fun r hr => by
     rw [HTK.out] at hr
     rcases List.mem_append.1 hr with h | h
     ·exact HALL.out r h
     ·rw [List.mem_singleton.1 h]; exact HINS.out)
    clear q0 q1 q2
    go_wp2
    go_roundw
    case rel => exact ⟨j + 1, by omega, by go_num, HAL2.out, HB4.out⟩
    case measure => simp [intOf]; omega
   ·have hle := qk0_ HINS.out
    obtain ⟨hle1, hs00⟩ := hle
    have HUP := Lib.hid (upOne_hit (HFF.out HINS.out))
    obtain ⟨off, hoff⟩ : ∃ off, a - rb = off := ⟨_, rfl⟩
    obtain ⟨mx, hmx⟩ : ∃ mx, 18446744073709551615 - rab = mx := ⟨_, rfl⟩
    have W1 : IntKind.u64.wrap (a - rb) = off := by rw [hoff]; exact IntWalk.u64_in _ (by omega)
    have W2 : IntKind.u64.wrap (18446744073709551615 - rab) = mx := by rw [hmx]; exact IntWalk.u64_in _ (by omega)
    simp only at HUP
    rw [hoff, hmx] at HUP
    by_cases hov : mx < off
    ·have HO : Hid (UV = none) := Lib.hid (by rw [<- HUV.out, HUP.out, if_pos (.inl hov)])
     have d1 : decide (mx < off) = true := decide_eq_true hov
     clear hoff hmx
     go_wp2
     go_ret2
     exact ⟨by (rw [HO.out] <;> rfl), HB4.out⟩
    ·have d1 : decide (mx < off) = false := decide_eq_false hov
     obtain ⟨rs, hrs⟩ : ∃ rs, mx - off = rs := ⟨_, rfl⟩
     obtain ⟨s1, hs1'⟩ : ∃ s1, s - 1 = s1 := ⟨_, rfl⟩
     have W3 : IntKind.u64.wrap (mx - off) = rs := by rw [hrs]; exact IntWalk.u64_in _ (by omega)
     have W4 : IntKind.u64.wrap (s - 1) = s1 := by rw [hs1']; exact IntWalk.u64_in _ (by omega)
     have W5 : IntKind.u64.wrap (rab + off) = rab + off := IntWalk.u64_in _ (by omega)
     by_cases hrl : rs < s1
     ·have HO : Hid (UV = none) := Lib.hid (by
       have hw : qdf_ (rab + off) s = false := by
        unfold qdf_
        rw [decide_eq_false hs00, decide_eq_false (by omega)]
        rfl
       rw [<- HUV.out, HUP.out, if_pos (.inr hw)])
      have d2 : decide (rs < s1) = true := decide_eq_true hrl
      clear hoff hmx hrs hs1' W5
      go_wp2
      go_ret2
      exact ⟨by (rw [HO.out] <;> rfl), HB4.out⟩
     ·have HO : Hid (UV = some (rab + off)) := Lib.hid (by
       rw [<- HUV.out, HUP.out, if_neg ?_]
       rintro (h | h)
       ·exact hov h
       ·unfold qdf_ at h
        rw [decide_eq_false hs00, Bool.false_or, decide_eq_false_iff_not] at h
        omega)
      have d2 : decide (rs < s1) = false := decide_eq_false hrl
      clear hoff hmx hrs hs1'
      go_wp2
      go_ret2
      exact ⟨by (rw [HO.out] <;> rfl), HB4.out⟩
  ·obtain rfl : j = m := by omega
   have HO : Hid (UV = none) := Lib.hid (by
    rw [<- HUV.out]
    exact qoc_ (qig_ (fun r hr => hall r (by rw [List.take_of_length_le (by rw [HLN.out]; exact Nat.le_refl _)]; exact hr))))
   clear hall hb
   go_wp2
   go_ret2
   exact ⟨by (rw [HO.out] <;> rfl), HBW.out⟩
theorem vsize_any (k : Int) (w : World) : Calls Tryz.prog 120 #[.int .i64 k] w fun e w' => e = .returned (.int .u64 (sizeV k)) /\ w' = w := by
 obtain ⟨V, hV⟩ : ∃ V, sizeV k = V := ⟨_, rfl⟩
 rw [hV]
 unfold sizeV at hV
 go_enter Tryz.func120, Tryz.ntmps120
 by_cases h3 : k = 3
 ·subst h3; obtain rfl : V = 16 := by rw [<- hV]; rfl
  go_wp2
  go_ret
  exact ⟨rfl, rfl⟩
 by_cases h4 : k = 4
 ·subst h4; obtain rfl : V = 16 := by rw [<- hV]; rfl
  go_wp2
  go_ret
  exact ⟨rfl, rfl⟩
 by_cases h6 : k = 6
 ·subst h6; obtain rfl : V = 16 := by rw [<- hV]; rfl
  go_wp2
  go_ret
  exact ⟨rfl, rfl⟩
 by_cases h7 : k = 7
 ·subst h7; obtain rfl : V = 16 := by rw [<- hV]; rfl
  go_wp2
  go_ret
  exact ⟨rfl, rfl⟩
 by_cases h5 : k = 5
 ·subst h5; obtain rfl : V = 32 := by rw [<- hV]; rfl
  go_wp2
  go_ret
  exact ⟨rfl, rfl⟩
 obtain rfl : V = 0 := by rw [<- hV, if_neg (by omega), if_neg h5]
 have q3 : (k == 3) = false := by rw [beq_eq_false_iff_ne]; exact h3
 have q4 : (k == 4) = false := by rw [beq_eq_false_iff_ne]; exact h4
 have q5 : (k == 5) = false := by rw [beq_eq_false_iff_ne]; exact h5
 have q6 : (k == 6) = false := by rw [beq_eq_false_iff_ne]; exact h6
 have q7 : (k == 7) = false := by rw [beq_eq_false_iff_ne]; exact h7
 clear h3 h4 h5 h6 h7 hV
 go_wp2
 go_ret
 exact ⟨rfl, rfl⟩
def qd1_ (a s : Int) : Bool := decide (0 < s) && !qb2_ a s a s
def mayB (k s : Int) : Bool := if k = 2 then decide (1 <= s) && decide (s <= 65536) else decide (s = sizeV k)
def mostN (k : Int) : Int := if k = 2 then 0 else 1
theorem qm0_ (a s : Int) (w : World) (ha : U64 a) (hs : U64 s) : Calls Tryz.prog 74 #[.agg #[.int .u64 a, .int .u64 s]] w fun e w' => e = .returned (.bool (qd1_ a s)) /\ Below w.heap.size w w' := by
 have C := Lib.hid (fun W => qm7_ a s a s W ha hs ha hs)
 obtain ⟨B, hB⟩ : ∃ B, qb2_ a s a s = B := ⟨_, rfl⟩
 rw [hB] at C
 obtain ⟨R, hR⟩ : ∃ R, qd1_ a s = R := ⟨_, rfl⟩
 rw [hR]
 unfold qd1_ at hR
 rw [hB] at hR
 clear hB ha hs
 have HB := Lib.hid ((Below.refl w.heap.size w).alloc (Nat.le_refl _) (.cells #[.int .u64 a, .int .u64 s] 173))
 go_enter Tryz.func74, Tryz.ntmps74
 by_cases h : 0 < s
 ·obtain rfl : R = !B := by rw [<- hR, decide_eq_true h]; rfl
  clear hR
  go_wp2_with fail
  refine (C.out _).mono ?_
  rintro e w1 ⟨rfl, hb⟩
  have HB1 := Lib.hid (HB.out.trans (hb.mono HB.out.size))
  clear hb C
  cases B
  all_goals
   go_wp2
   go_ret
   exact ⟨rfl, HB1.out⟩
 ·obtain rfl : R = false := by rw [<- hR, decide_eq_false h]; rfl
  clear hR
  go_wp2
  go_ret
  exact ⟨rfl, HB.out⟩
theorem qlk_ (x y z : Int) (w : World) : Calls Tryz.prog 75 #[.agg #[.int .u64 x, .int .u64 y, .int .u64 z]] w fun e w' => e = .returned (.agg #[.int .u64 y, .int .u64 z]) /\ Below w.heap.size w w' := by
 have HB := Lib.hid (((Below.refl w.heap.size w).alloc (Nat.le_refl _) (.cells #[.int .u64 x, .int .u64 y, .int .u64 z] 171)).alloc (by simp) (.cells #[.int .u64 y, .int .u64 z] 173))
 go_enter Tryz.func75, Tryz.ntmps75
 go_wp2
 refine bodyPost_ret (v := .agg #[.int .u64 y, .int .u64 z]) (by simp [results, Tryz.results75, go_sem]; try rfl) rfl ?_
 exact ⟨rfl, HB.out⟩
theorem ql3_ (k s : Int) (w : World) : Calls Tryz.prog 77 #[.int .i64 k, .int .u64 s] w fun e w' => e = .returned (.bool (mayB k s)) /\ w' = w := by
 obtain ⟨R, hR⟩ : ∃ R, mayB k s = R := ⟨_, rfl⟩
 rw [hR]
 unfold mayB at hR
 have C := Lib.hid (fun W => vsize_any k W)
 go_enter Tryz.func77, Tryz.ntmps77
 by_cases h : k = 2
 ·subst h
  rw [if_pos rfl] at hR
  by_cases h1 : 1 <= s
  ·by_cases h2 : s <= 65536
   ·obtain rfl : R = true := by rw [<- hR, decide_eq_true h1, decide_eq_true h2]; rfl
    clear hR C
    go_wp2
    go_ret
    exact ⟨rfl, rfl⟩
   ·obtain rfl : R = false := by rw [<- hR, decide_eq_true h1, decide_eq_false h2]; rfl
    clear hR C
    go_wp2
    go_ret
    exact ⟨rfl, rfl⟩
  ·obtain rfl : R = false := by rw [<- hR, decide_eq_false h1]; rfl
   clear hR C
   go_wp2
   go_ret
   exact ⟨rfl, rfl⟩
 ·rw [if_neg h] at hR
  have q : (k == 2) = false := by rw [beq_eq_false_iff_ne]; exact h
  have HR : Hid ((s == sizeV k) = R) := Lib.hid (by rw [<- hR]; by_cases e : s = sizeV k <;> simp [e])
  generalize sizeV k = V at *
  clear h hR
  go_wp2_with fail
  refine (C.out _).mono ?_
  rintro e w1 ⟨rfl, rfl⟩
  have HR2 := HR.out
  go_wp2
  go_ret
  exact ⟨by first | rfl | rw [HR2] | simp [HR2], rfl⟩
theorem most_any (k : Int) (w : World) : Calls Tryz.prog 79 #[.int .i64 k] w fun e w' => e = .returned (.int .i64 (mostN k)) /\ w' = w := by
 unfold mostN
 go_enter Tryz.func79, Tryz.ntmps79
 by_cases h : k = 2
 ·subst h
  go_wp2
  go_ret
  exact ⟨rfl, rfl⟩
 ·rw [if_neg h]
  have q : (k == 2) = false := by rw [beq_eq_false_iff_ne]; exact h
  clear h
  go_wp2
  go_ret
  exact ⟨rfl, rfl⟩
theorem qik_ (t : Tr) (w : World) (hin : t.In w w.heap.size) (E : Int) (hE : qb5_ t = E) (h0 : E ≠ 0) : Calls Tryz.prog 9 #[t.val] w fun e w' => e = .returned (.iface 32 (.int .i64 E)) /\ Below w.heap.size w w' := by
 have C := Lib.hid (fun W (hW : Below w.heap.size w W) => qli_ t W (hin.on hW) E hE)
 clear hin hE
 obtain ⟨boot, ra, rc, rs, ⟨nm, pa, pc, ps, ka, kc, ks⟩⟩ := t
 simp only [Tr.val, Tr.rv, Nd.val, Nd.pv, Nd.kv, Nd.name, Nd.pa, Nd.pc, Nd.props, Nd.ka, Nd.kc, Nd.kids] at C ⊢
 have HB := Lib.hid ((Below.refl w.heap.size w).alloc (Nat.le_refl _) (.cells #[.int .u32 boot, .slice ra rs.length rc, .string nm, .slice pa ps.length pc, .slice ka ks.length kc] 29))
 obtain ⟨b0, b1, b2, b3, b4⟩ := qa2_ w (.int .u32 boot) (.slice ra rs.length rc) (.string nm) (.slice pa ps.length pc) (.slice ka ks.length kc) _ (Below.refl _ _)
 have q : (E != 0) = true := by rw [bne_iff_ne]; exact h0
 clear h0
 go_enter Tryz.func9, Tryz.ntmps9
 go_wp2_with fail
 refine (C.out _ HB.out).mono ?_
 rintro e w1 ⟨rfl, hb⟩
 have HB1 := Lib.hid (HB.out.trans (hb.mono HB.out.size))
 clear hb b0 b1 b2 b3 b4 C
 go_wp2
 go_ret
 exact ⟨rfl, HB1.out⟩
def badT : Tr := ⟨0, none, 0, [], Nd.mk ⟨#[97]⟩ none 0 [] none 0 []⟩
theorem badT_in (w : World) (B : Nat) : badT.In w B :=
 ⟨⟨
  by decide, by decide⟩, ⟨by simp [badT], by simp [badT], by simp [badT]⟩, fun h => absurd h (by simp [badT]), fun r h => by simp [badT] at h,
  .mk _ ⟨by decide, by simp [badT, Nd.props], by simp [badT, Nd.kids]⟩ (by simp [badT, Nd.props, Nd.pc]) (by simp [badT, Nd.pc]) (by simp [badT, Nd.kids, Nd.kc]) (by simp [badT, Nd.kc]) (fun h => absurd h (by simp [badT, Nd.props])) (fun p h => by simp [badT, Nd.props] at h) (fun h => absurd h (by simp [badT, Nd.kids])) (fun k h => by simp [badT, Nd.kids] at h)⟩
theorem bad_wrong : qb5_ badT ≠ 0 := by
 have e : qbj_ badT.root 1 = 5 := by
  rw [qfj_, qey_]
  simp [badT, Nd.name, qgg_]
 rw [qb5_, e]
 decide
theorem awake15 : Awake15 := by
 intro w
 have C := Lib.hid (fun W => qik_ badT W (badT_in W _) _ rfl bad_wrong)
 obtain ⟨E, hE⟩ : ∃ E, qb5_ badT = E := ⟨_, rfl⟩
 rw [hE] at C
 have hv : badT.val = .agg #[.int .u32 0, .slice none 0 0, .string ⟨#[97]⟩, .slice none 0 0, .slice none 0 0] := rfl
 rw [hv] at C
 clear hE hv
 go_enter Tryz.func4, Tryz.ntmps4
 go_wp2_with fail
 refine (C.out _).mono ?_
 rintro e w1 ⟨rfl, hb⟩
 have HB := Lib.hid hb
 clear hb C
 go_wp2
 go_ret
 exact ⟨rfl, HB.out⟩
def MRow (b n : Nat) (W : World) : Prop := b < W.heap.size /\ ∀ i, i < n -> ∃ x y : Int, W.cell? ⟨b, i * 2, none⟩ = some (.int .u64 x) /\ W.cell? ⟨b, i * 2 + 1, none⟩ = some (.int .u64 y) /\ U64 x /\ U64 y /\ W.frozen? ⟨b, i * 2, none⟩ = false /\ W.frozen? ⟨b, i * 2 + 1, none⟩ = false
theorem MRow.on {b n : Nat} {W W' : World} (h : MRow b n W) (hb : Below W.heap.size W W') : MRow b n W' :=
 ⟨Nat.lt_of_lt_of_le h.1 hb.size, fun i hi => by
  obtain ⟨x, y, e1, e2, e3, e4, e5, e6⟩ := h.2 i hi
  exact ⟨x, y, (hb.cell (p := ⟨b, i * 2, none⟩) h.1).trans e1, (hb.cell (p := ⟨b, i * 2 + 1, none⟩) h.1).trans e2, e3, e4, (hb.frozen (p := ⟨b, i * 2, none⟩) h.1).trans e5, (hb.frozen (p := ⟨b, i * 2 + 1, none⟩) h.1).trans e6⟩⟩
theorem MRow.cut {b n m : Nat} {W : World} (h : MRow b n W) (hm : m <= n) : MRow b m W := ⟨h.1, fun i hi => h.2 i (by omega)⟩
theorem qfc_ (b : Nat) : ∀ (vs : List Value) (o : Nat) (w : World), (w.setCells b o vs).heap.size = w.heap.size
 | [], _, _ => rfl
 | v :: r, o, w => by rw [World.setCells, qfc_ b r]; simp
theorem MRow.beyond {b i : Nat} {W : World} (h : MRow b i W) (k : Nat) (hk : i * 2 <= k) (vs : List Value) : MRow b i (W.setCells b k vs) :=
 ⟨by rw [show (W.setCells b k vs).heap.size = W.heap.size from qfc_ b vs k W]; exact h.1, fun j hj => by
  obtain ⟨x, y, e1, e2, e3, e4, e5, e6⟩ := h.2 j hj
  exact ⟨x, y, (World.cell?_setCells_out b vs k W ⟨b, j * 2, none⟩ (fun _ _ => .inl (by show j * 2 < k; omega))).trans e1, (World.cell?_setCells_out b vs k W ⟨b, j * 2 + 1, none⟩ (fun _ _ => .inl (by show j * 2 + 1 < k; omega))).trans e2, e3, e4, (World.frozen?_setCells b vs k W _).trans e5, (World.frozen?_setCells b vs k W _).trans e6⟩⟩
theorem qed_ {g b : Nat} {w0 : World} (hb : g <= b) : ∀ (vs : List Value) (W : World) (k : Nat), Below g w0 W -> Below g w0 (W.setCells b k vs)
 | [], _, _, h => h
 | v :: r, W, k, h => by
  rw [World.setCells]
  exact qed_ hb r _ (k + 1) (h.setCell (p := ⟨b, k, none⟩) hb v)
theorem qbf_ (W : World) (a b : Addr) (v : Value) (h : a ≠ b) : (W.setCell a v).cell? b = W.cell? b := World.cell?_setCell_other _ _ _ _ h
theorem qdg_ {W : World} {a : Addr} {u : Value} (v : Value) (h : W.cell? a = some u) : (W.setCell a v).cell? a = some v := World.cell?_setCell_same' W a v (by rw [h]; rfl)
theorem MRow.set {b n : Nat} {W : World} (h : MRow b n W) {i : Nat} (hi : i < n) (x y : Int) (hx : U64 x) (hy : U64 y) : MRow b n ((W.setCell ⟨b, i * 2, none⟩ (.int .u64 x)).setCell ⟨b, i * 2 + 1, none⟩ (.int .u64 y)) :=
 ⟨by simpa using h.1, fun j hj => by
  obtain ⟨x0, y0, e1, e2, e3, e4, e5, e6⟩ := h.2 j hj
  by_cases hji : j = i
  ·subst hji
   refine ⟨x, y, ?_, ?_, hx, hy, by simpa using e5, by simpa using e6⟩
   ·rw [qbf_ _ _ _ _ (by simp)]; exact qdg_ _ e1
   ·exact qdg_ (u := .int .u64 y0) _ (by rw [qbf_ _ _ _ _ (by simp)]; exact e2)
  ·refine ⟨x0, y0, ?_, ?_, e3, e4, by simpa using e5, by simpa using e6⟩
   ·rw [qbf_ _ _ _ _ (by simp <;> omega), qbf_ _ _ _ _ (by simp <;> omega)]; exact e1
   ·rw [qbf_ _ _ _ _ (by simp <;> omega), qbf_ _ _ _ _ (by simp <;> omega)]; exact e2⟩
theorem own_mrow {g m c : Nat} {A : Option Addr} {L : List (Int × Int)} {w : World} (h : w.ownsRow g 173 2 (.slice A m c) m (flat2 (L.map winV))) (hL : ∀ x ∈ L, U64 x.1 /\ U64 x.2) : (A = none /\ m = 0 /\ c = 0) \/ ∃ b, A = some ⟨b, 0, none⟩ /\ g <= b /\ MRow b m w /\ m <= c /\ c <= 9223372036854775807 := by
 obtain ⟨hl, ⟨hv, rfl⟩ | ⟨b, cap, cur, hv, hb, hg, hnc, hcm, hsz, htk⟩⟩ := h
 ·injection hv with h1 h2 h3
  exact .inl ⟨h1, rfl, h3⟩
 ·injection hv with h1 h2 h3
  subst h3
  rw [qbn_, List.length_map] at hl
  have hlz : L.length = m := by omega
  have hlt := (Array.getElem?_eq_some_iff.1 hg).1
  refine .inr ⟨b, h1, hb, ⟨hlt, fun i hi => ?_⟩, hnc, hcm⟩
  have hcell : ∀ k, k < m * 2 -> w.cell? ⟨b, k, none⟩ = (flat2 (L.map winV))[k]? := fun k hk => by
   have h1 : (flat2 (L.map winV))[k]? = cur[k]? := by
    rw [<- htk, List.getElem?_take_of_lt hk, Array.getElem?_toList]
   rw [h1]
   simp [World.cell?, hg]
  have hiL : i < L.length := by omega
  obtain ⟨a1, a2⟩ := qe5_ (L.map winV) i (by rw [List.length_map]; exact hiL)
  obtain ⟨u1, u2⟩ := hL L[i] (List.getElem_mem hiL)
  refine ⟨L[i].1, L[i].2, ?_, ?_, u1, u2, frozen_of_row w b _ cur _ hg, frozen_of_row w b _ cur _ hg⟩
  ·rw [hcell _ (by omega), a1, List.getElem_map]; rfl
  ·rw [hcell _ (by omega), a2, List.getElem_map]; rfl
theorem qlr_ (x y : Int) (w : World) : Calls Tryz.prog 85 #[.agg #[.int .u64 x, .int .u64 y]] w fun e w' => e = .returned (.bool (y == 0)) /\ Below w.heap.size w w' := by
 have HB := Lib.hid ((Below.refl w.heap.size w).alloc (Nat.le_refl _) (.cells #[.int .u64 x, .int .u64 y] 173))
 obtain ⟨q, hq⟩ : ∃ q, (y == 0) = q := ⟨_, rfl⟩
 rw [hq]
 go_enter Tryz.func85, Tryz.ntmps85
 go_wp2
 go_ret
 exact ⟨rfl, HB.out⟩
theorem idx_win (b m c : Nat) (w : World) (h : MRow b m w) (hmc : m <= c) (hc : c <= 9223372036854775807) :
  Calls Tryz.prog 126 #[.slice (some ⟨b, 0, none⟩) m c, .func (.func 85) #[] #[]] w fun e w' => (e = .returned (.int .i64 (-1)) \/ ∃ k : Nat, k < m /\ e = .returned (.int .i64 k)) /\ Below w.heap.size w w' := by
 have HR := Lib.hid (fun W (hb : Below w.heap.size w W) => h.on hb)
 clear h
 go_enter Tryz.func126, Tryz.ntmps126
 go_wp2_with fail
 go_loopw [8] (fun i wr => ∃ k : Nat, k <= m /\ i = .int .i64 k /\ Below w.heap.size w wr) (fun i _ => m - (intOf i).toNat)
 case atStart => exact ⟨0, Nat.zero_le _, rfl, Below.refl _ _⟩
 case round =>
  obtain ⟨k, hk, rfl, hb⟩ := hrel
  have HB := Lib.hid hb
  by_cases hlt : k < m
  ·obtain ⟨x, y, d0, d1, _, _, _, _⟩ := (HR.out _ hb).2 k hlt
   have CX := Lib.hid (qlr_ x y)
   generalize (y == 0) = q at CX
   clear hb
   go_wp2_with fail
   refine (CX.out _).mono ?_
   rintro e w2 ⟨rfl, hb⟩
   have HB2 := Lib.hid (HB.out.trans (hb.mono HB.out.size))
   clear hb d0 d1 CX
   cases q
   ·go_wp2
    go_roundw
    case rel => exact ⟨k + 1, by omega, by go_num, HB2.out⟩
    case measure => simp [intOf]; omega
   ·go_wp2
    go_ret
    exact ⟨.inr ⟨k, hlt, rfl⟩, HB2.out⟩
  ·clear hb
   go_wp2
   go_ret
   exact ⟨.inl rfl, HB.out⟩
theorem qhk_ (w : World) (ty : TypeId) (b o n c : Nat) (hn : 0 < n) (hc : ∀ j, j < n * 2 -> (w.cell? ⟨b, o + j, none⟩).isSome = true) (hf : ∀ j, j < n * 2 -> w.frozen? ⟨b, o + j, none⟩ = false) :
  (Builtin.clear_ #[124] ty #[.slice (some ⟨b, o, none⟩) n c]).run Tryz.prog w = .ok (.tuple #[]) (w.setCells b o (Builtin.zeroCells #[.int .u64 0, .int .u64 0] n).toList) := by
 have hlen : (Builtin.zeroCells #[.int .u64 0, .int .u64 0] n).toList.length = n * 2 := by simp [Builtin.zeroCells]
 have hst := run_storeCells_cells (P := Tryz.prog) b o (Builtin.zeroCells #[.int .u64 0, .int .u64 0] n).toList 0 w (by rw [hlen]; simpa using hc) (by rw [hlen]; simpa using hf) (by
  intro v hv
  rw [Builtin.zeroCells, Array.toList_map] at hv
  obtain ⟨i, _, rfl⟩ := List.mem_map.1 hv
  rcases Nat.mod_two_eq_zero_or_one i with h | h
  ·simp [h]; rfl
  ·simp [h]; rfl)
 simp only [Nat.add_zero] at hst
 have hv : ∀ W : World, (zeroValue 173).run Tryz.prog W = .ok (.agg #[.int .u64 0, .int .u64 0]) W := Tryz.zeroValue173
 obtain ⟨m, rfl⟩ : ∃ m, n = m + 1 := ⟨n - 1, by omega⟩
 simp only [Builtin.clear_]
 simp [run_underlying Tryz.underlying124, hv, Value.cells, hst]
theorem del_win (g b m c : Nat) (w : World) (h : MRow b m w) (hg : g <= b) (hgs : g <= w.heap.size) (hmc : m <= c) (hc : c <= 9223372036854775807) :
  Calls Tryz.prog 84 #[.slice (some ⟨b, 0, none⟩) m c, .func (.func 85) #[] #[]] w fun e w' => (∃ i : Nat, i <= m /\ e = .returned (.slice (some ⟨b, 0, none⟩) i c) /\ MRow b i w') /\ Below g w w' := by
 have CI := Lib.hid (idx_win b m c w h hmc hc)
 have HM := Lib.hid h
 have HG := Lib.hid (And.intro hg hgs)
 clear h hg hgs
 go_enter Tryz.func84, Tryz.ntmps84
 go_wp2_with fail
 refine CI.out.mono ?_
 rintro e w1 ⟨hr, hb⟩
 have HM1 := Lib.hid (HM.out.on hb)
 have HB1 := Lib.hid (hb.mono HG.out.2)
 clear hb CI
 rcases hr with rfl | ⟨k0, hk0, rfl⟩
 ·go_wp2
  go_ret
  exact ⟨⟨m, Nat.le_refl _, rfl, HM1.out⟩, HB1.out⟩
 have q0 : ((k0 : Int) == -1) = false := beq_eq_false_iff_ne.2 (by omega)
 go_wp2_with fail
 clear q0
 go_loopw [5, 6, 7] (fun i j v wr => ∃ (p q : Nat), i = .int .i64 p /\ j = .int .i64 q /\ p < q /\ q <= m /\ MRow b m wr /\ Below g w wr) (fun _ j _ _ => m - (intOf j).toNat)
 case atStart => exact ⟨k0, k0 + 1, rfl, by go_num, by omega, by omega, HM1.out, HB1.out⟩
 case round =>
  obtain ⟨p, q, rfl, rfl, hpq, hqm, hrow, hb⟩ := hrel
  have HR := Lib.hid hrow
  have HB := Lib.hid hb
  by_cases hlt : q < m
  ·obtain ⟨x, y, d0, d1, hx, hy, _, _⟩ := hrow.2 q hlt
   have HXY := Lib.hid (And.intro hx hy)
   have CX := Lib.hid (qlr_ x y)
   obtain ⟨z, hz⟩ : ∃ z, (y == 0) = z := ⟨_, rfl⟩
   rw [hz] at CX
   obtain ⟨gv, hgv⟩ : ∃ gv, wr.heap.size = gv := ⟨_, rfl⟩
   obtain ⟨WA, hWA⟩ : ∃ WA, wr.alloc (.cells #[.int .u64 x, .int .u64 y] 173) = WA := ⟨_, rfl⟩
   have hn := heap_alloc_new wr (.cells #[.int .u64 x, .int .u64 y] 173)
   rw [hWA, hgv] at hn
   have HBA : Hid (Below wr.heap.size wr WA) := Lib.hid (by rw [<- hWA]; exact (Below.refl _ _).alloc (Nat.le_refl _) _)
   have n0 : WA.cell? ⟨gv, 0, none⟩ = some (.int .u64 x) := by rw [Lib.cell_of_heap hn]; rfl
   have n1 : WA.cell? ⟨gv, 1, none⟩ = some (.int .u64 y) := by rw [Lib.cell_of_heap hn]; rfl
   have HN : Hid ((∀ W, Below WA.heap.size WA W -> W.cell? ⟨gv, 0, none⟩ = some (.int .u64 x) /\ W.cell? ⟨gv, 1, none⟩ = some (.int .u64 y))) := Lib.hid (fun W hW => by
    have hl : gv < WA.heap.size := (Array.getElem?_eq_some_iff.1 hn).1
    exact ⟨(hW.cell (p := ⟨gv, 0, none⟩) hl).trans n0, (hW.cell (p := ⟨gv, 1, none⟩) hl).trans n1⟩)
   clear hn hrow hb hx hy hz
   go_wp2_with fail
   refine (CX.out _).mono ?_
   rintro e w4 ⟨rfl, hb⟩
   have HB4 := Lib.hid (HBA.out.trans (hb.mono HBA.out.size))
   have HR4 := Lib.hid (HR.out.on HB4.out)
   have HBW := Lib.hid (HB.out.trans (HB4.out.mono (Nat.le_trans HG.out.2 HB.out.size)))
   obtain ⟨b0, b1⟩ := HN.out w4 hb
   clear hb n0 n1 d0 d1 CX HN hWA hgv
   cases z
   ·obtain ⟨x0, y0, c0, c1, _, _, f0, f1⟩ := HR4.out.2 p (by omega)
    have HS := Lib.hid (HR4.out.set (i := p) (by omega) x y HXY.out.1 HXY.out.2)
    have HBS : Hid (Below g w ((w4.setCell ⟨b, p * 2, none⟩ (.int .u64 x)).setCell ⟨b, p * 2 + 1, none⟩ (.int .u64 y))) := Lib.hid ((HBW.out.setCell (p := ⟨b, p * 2, none⟩) HG.out.1 _).setCell (p := ⟨b, p * 2 + 1, none⟩) HG.out.1 _)
    have hpm : p < m := by omega
    go_wp2
    go_roundw
    case rel => exact ⟨p + 1, q + 1, by go_num, by go_num, by omega, by omega, HS.out, HBS.out⟩
    case measure => simp [intOf]; omega
   ·clear b0 b1
    go_wp2
    go_roundw
    case rel => exact ⟨p, q + 1, rfl, by go_num, by omega, by omega, HR4.out, HBW.out⟩
    case measure => simp [intOf]; omega
  ·obtain rfl : q = m := by omega
   have hcl := fun ty => qhk_ wr ty b (p * 2) (q - p) (c - p) (by omega) (fun j hj => by
    obtain ⟨x, y, e1, e2, _⟩ := hrow.2 (p + j / 2) (by omega)
    rcases Nat.mod_two_eq_zero_or_one j with h | h
    ·rw [show p * 2 + j = (p + j / 2) * 2 by omega, e1]; rfl
    ·rw [show p * 2 + j = (p + j / 2) * 2 + 1 by omega, e2]; rfl) (fun j hj => by
    obtain ⟨x, y, e1, e2, _, _, e5, e6⟩ := hrow.2 (p + j / 2) (by omega)
    rcases Nat.mod_two_eq_zero_or_one j with h | h
    ·rw [show p * 2 + j = (p + j / 2) * 2 by omega, e5]
    ·rw [show p * 2 + j = (p + j / 2) * 2 + 1 by omega, e6])
   obtain ⟨vs, hvs⟩ : ∃ vs, (Builtin.zeroCells #[.int .u64 0, .int .u64 0] (q - p)).toList = vs := ⟨_, rfl⟩
   rw [hvs] at hcl
   have HE := Lib.hid ((HR.out.cut (Nat.le_of_lt hpq)).beyond (p * 2) (Nat.le_refl _) vs)
   have HBE := Lib.hid (qed_ HG.out.1 vs wr (p * 2) HB.out)
   clear hrow hb hvs hlt hqm
   go_wp2
   go_ret
   exact ⟨⟨p, by omega, rfl, HE.out⟩, HBE.out⟩
section
open Go.RowKit Go.Sort Go.Lib
theorem nan_any (x : Int) (w : World) : Calls Tryz.prog 129 #[.int .u64 x] w fun e w' => e = .returned (.bool false) /\ w = w' := by
 have q : (x != x) = false := by rw [bne_eq_false_iff_eq]
 go_enter Tryz.func129, Tryz.ntmps129
 go_wp2
 go_ret
 exact ⟨rfl, rfl⟩
def cmpI (x y : Int) : Int := if x < y then -1 else if y < x then 1 else 0
theorem cmpI_lt (x y : Int) : decide (cmpI x y < 0) = decide (x < y) := by
 unfold cmpI
 by_cases h1 : x < y
 ·rw [if_pos h1, decide_eq_true h1]; rfl
 ·rw [if_neg h1, decide_eq_false h1]
  by_cases h2 : y < x
  ·rw [if_pos h2]; rfl
  ·rw [if_neg h2]; rfl
theorem qml_ (x y : Int) (w : World) : Calls Tryz.prog 88 #[.int .u64 x, .int .u64 y] w fun e w' => e = .returned (.int .i64 (cmpI x y)) /\ w = w' := by
 have NX := Lib.hid (nan_any x w)
 have NY := Lib.hid (nan_any y w)
 unfold cmpI
 by_cases h1 : x < y
 ·rw [if_pos h1]
  have q : decide (x < y) = true := decide_eq_true h1
  clear h1
  go_enter Tryz.func88, Tryz.ntmps88
  go_wp2_with fail
  refine NX.out.mono ?_
  rintro e w1 ⟨rfl, rfl⟩
  go_wp2_with fail
  refine NY.out.mono ?_
  rintro e w1 ⟨rfl, rfl⟩
  go_wp2
  go_ret
  exact ⟨rfl, rfl⟩
 ·rw [if_neg h1]
  have q : decide (x < y) = false := decide_eq_false h1
  by_cases h2 : y < x
  ·rw [if_pos h2]
   have q2 : decide (y < x) = true := decide_eq_true h2
   clear h1 h2
   go_enter Tryz.func88, Tryz.ntmps88
   go_wp2_with fail
   refine NX.out.mono ?_
   rintro e w1 ⟨rfl, rfl⟩
   go_wp2_with fail
   refine NY.out.mono ?_
   rintro e w1 ⟨rfl, rfl⟩
   go_wp2
   go_ret
   exact ⟨rfl, rfl⟩
  ·rw [if_neg h2]
   have q2 : decide (y < x) = false := decide_eq_false h2
   clear h1 h2
   go_enter Tryz.func88, Tryz.ntmps88
   go_wp2_with fail
   refine NX.out.mono ?_
   rintro e w1 ⟨rfl, rfl⟩
   go_wp2_with fail
   refine NY.out.mono ?_
   rintro e w1 ⟨rfl, rfl⟩
   go_wp2
   go_ret
   exact ⟨rfl, rfl⟩
theorem cmpw_any (a s b t : Int) (w : World) : Calls Tryz.prog 87 #[.agg #[.int .u64 a, .int .u64 s], .agg #[.int .u64 b, .int .u64 t]] w fun e w' => e = .returned (.int .i64 (cmpI a b)) /\
  w' = (w.alloc (.cells #[.int .u64 a, .int .u64 s] 173)).alloc (.cells #[.int .u64 b, .int .u64 t] 173) := by
 have CC := Lib.hid (qml_ a b)
 go_enter Tryz.func87, Tryz.ntmps87
 go_wp2_with fail
 refine (CC.out _).mono ?_
 rintro e w1 ⟨rfl, rfl⟩
 go_wp2
 go_ret
 exact ⟨rfl, rfl⟩
structure W64 where
 a : Int
 s : Int
 ha : U64 a
 hs : U64 s
instance : Inhabited W64 := ⟨⟨0, 0, ⟨by decide, by decide⟩, ⟨by decide, by decide⟩⟩⟩
def w64E (x : W64) : List Value := [.int .u64 x.a, .int .u64 x.s]
theorem w64_swo : SWO (ltOf fun x y : W64 => cmpI x.a y.a) := by
 have e : ∀ x y : W64, ltOf (fun x y : W64 => cmpI x.a y.a) x y = decide (x.a < y.a) := fun x y => cmpI_lt _ _
 refine ⟨fun x => ?_, fun x y z h1 h2 => ?_, fun x y z h1 h2 => ?_⟩
 ·rw [e]; exact decide_eq_false (Int.lt_irrefl _)
 ·rw [e, decide_eq_true_eq] at h1 h2 ⊢; omega
 ·rw [e, decide_eq_false_iff_not] at h1 h2 ⊢; omega
theorem w64_cmp (b n : Nat) (w : World) : CmpLays Tryz.prog 87 #[] w64E 2 (fun x y => cmpI x.a y.a) b 0 n w := by
 intro m os dk hs x y
 refine (cmpw_any x.a x.s y.a y.s _).mono fun e w' ⟨he, hw⟩ => ⟨he, 0, #[.cells #[.int .u64 x.a, .int .u64 x.s] 173, .cells #[.int .u64 y.a, .int .u64 y.s] 173], ?_⟩
 rw [hw, alloc_eq_grow, alloc_eq_grow, grow_grow]
 rfl
theorem qo0_ {b n : Nat} {W : World} (h : MRow b n W) : ∃ d : Array W64, d.size = n /\ HoldsK w64E 2 W b 0 d := by
 obtain ⟨_, h2⟩ := h
 obtain ⟨f, hf⟩ : ∃ f : Fin n -> W64, ∀ i : Fin n, W.cell? ⟨b, i.1 * 2, none⟩ = some (.int .u64 (f i).a) /\ W.cell? ⟨b, i.1 * 2 + 1, none⟩ = some (.int .u64 (f i).s) /\ W.frozen? ⟨b, i.1 * 2, none⟩ = false /\ W.frozen? ⟨b, i.1 * 2 + 1, none⟩ = false := by
  have h3 : ∀ i : Fin n, ∃ x : W64, W.cell? ⟨b, i.1 * 2, none⟩ = some (.int .u64 x.a) /\ W.cell? ⟨b, i.1 * 2 + 1, none⟩ = some (.int .u64 x.s) /\ W.frozen? ⟨b, i.1 * 2, none⟩ = false /\ W.frozen? ⟨b, i.1 * 2 + 1, none⟩ = false := fun i => by
   obtain ⟨x, y, e1, e2, e3, e4, e5, e6⟩ := h2 i.1 i.2
   exact ⟨⟨x, y, e3, e4⟩, e1, e2, e5, e6⟩
  exact ⟨fun i => (h3 i).choose, fun i => (h3 i).choose_spec⟩
 refine ⟨Array.ofFn f, Array.size_ofFn, fun j hj => ?_⟩
 rw [size_flatK, Array.size_ofFn] at hj
 have hj2 : j / 2 < n := by omega
 obtain ⟨e1, e2, e3, e4⟩ := hf ⟨j / 2, hj2⟩
 rw [get_flatK _ _ _ _ (by rw [Array.size_ofFn]; exact hj), getElem!_pos (Array.ofFn f) (j / 2) (by rw [Array.size_ofFn]; exact hj2), Array.getElem_ofFn]
 simp only at e1 e2 e3 e4
 rcases Nat.mod_two_eq_zero_or_one j with h | h
 ·have ej : 0 + j = j / 2 * 2 := by omega
  rw [h, ej]
  exact ⟨e1, e3⟩
 ·have ej : 0 + j = j / 2 * 2 + 1 := by omega
  rw [h, ej]
  exact ⟨e2, e4⟩
theorem qns_ {b : Nat} {W : World} {d : Array W64} (hb : b < W.heap.size) (h : HoldsK w64E 2 W b 0 d) : MRow b d.size W := by
 refine ⟨hb, fun i hi => ⟨d[i]!.a, d[i]!.s, ?_, ?_, d[i]!.ha, d[i]!.hs, ?_, ?_⟩⟩
 ·have := (h.cell hi (c := 0) (by decide)).1
  rw [Nat.zero_add, Nat.add_zero] at this
  exact this
 ·have := (h.cell hi (c := 1) (by decide)).1
  rw [Nat.zero_add] at this
  exact this
 ·have := (h.cell hi (c := 0) (by decide)).2
  rw [Nat.zero_add, Nat.add_zero] at this
  exact this
 ·have := (h.cell hi (c := 1) (by decide)).2
  rw [Nat.zero_add] at this
  exact this
theorem qdu_ {g b : Nat} {w : World} {n : Nat} {d : Array W64} {os : Array Obj} (hg : g <= b) (hgs : g <= w.heap.size) : Below g w (sortWorldK w64E 2 w b 0 n d os) := by
 have hsz : (putRowK w64E 2 (Sort.ahead w n) b 0 d).heap.size = w.heap.size := size_putRow _ _ _ _ _
 refine ⟨rfl, rfl, rfl, ?_, fun k hk => ?_⟩
 ·unfold sortWorldK
  rw [size_grow, hsz]
  omega
 ·unfold sortWorldK grow
  have hk2 : k < (putRowK w64E 2 (Sort.ahead w n) b 0 d).heap.size := by rw [hsz]; omega
  show ((putRowK w64E 2 (Sort.ahead w n) b 0 d).heap ++ os)[k]? = w.heap[k]?
  rw [Array.getElem?_append_left hk2]
  unfold putRowK putRow mapBlock
  show (((Sort.ahead w n).heap).modify b _)[k]? = w.heap[k]?
  rw [Array.getElem?_modify, if_neg (by omega)]
  rfl
theorem sort_win (g b n c : Nat) (w : World) (h : MRow b n w) (hg : g <= b) (hgs : g <= w.heap.size) (hn : n <= 1073741824) :
  Calls Tryz.prog 86 #[.slice (some ⟨b, 0, none⟩) n c, .func (.func 87) #[] #[]] w fun e w' => e = .returned (.tuple #[]) /\ MRow b n w' /\ Below g w w' := by
 obtain ⟨d, hd, hH⟩ := qo0_ h
 have hS := AnyQ.slices_SortFunc Tryz.sortl 2 (fun w => Tryz.isAgg173 w) (fun w => Tryz.sizeOf173 w) w64E (fun _ => rfl) (fun x v hv => by
  rcases List.mem_cons.1 hv with rfl | hv
  ·rfl
  ·rcases List.mem_cons.1 hv with rfl | hv
   ·rfl
   ·cases hv) (fun x y => cmpI x.a y.a) w64_swo 87 #[] b 0 c d w (fun args w => enters_of Tryz.func87 (by kernel_rfl) rfl args w) (w64_cmp b d.size w) hH h.1 (by omega)
 rw [hd] at hS
 refine Calls.mono hS fun e w' ⟨he, d', q, os, hp, _, hw⟩ => ⟨he, ?_, by rw [hw]; exact qdu_ hg hgs⟩
 have hsz : d'.size = n := hp.1.trans hd
 have hK : HoldsK w64E 2 w' b 0 d' := by
  rw [hw]
  exact holdsK_sortWorldK w64E 2 w b 0 q d d' os h.1 hH (by rw [hsz, hd])
 have hlt : b < w'.heap.size := by
  have := (qdu_ (w := w) (n := q) (d := d') (os := os) hg hgs).size
  rw [hw]; exact Nat.lt_of_lt_of_le h.1 this
 rw [<- hsz]
 exact qns_ hlt hK
end
def AnyMeetOK : Prop := ∀ (g : Nat) (A : Option Addr) (m c : Nat) (L : List (Int × Int)) (w : World), w.ownsRow g 173 2 (.slice A m c) m (flat2 (L.map winV)) -> (∀ x ∈ L, U64 x.1 /\ U64 x.2) -> m <= 1073741824 -> g <= w.heap.size ->
 Calls Tryz.prog 50 #[.slice A m c] w fun e w' => (∃ r : Bool, e = .returned (.bool r)) /\ Below g w w'
theorem idx_none (w : World) : Calls Tryz.prog 126 #[.slice none 0 0, .func (.func 85) #[] #[]] w fun e w' => e = .returned (.int .i64 (-1)) /\ w = w' := by
 go_enter Tryz.func126, Tryz.ntmps126
 go_wp2_with fail
 refine wp_loop_rounds 1 ?_
 rw [rounds_succ]
 go_wp2
 go_ret
 exact ⟨rfl, rfl⟩
theorem del_none (w : World) : Calls Tryz.prog 84 #[.slice none 0 0, .func (.func 85) #[] #[]] w fun e w' => e = .returned (.slice none 0 0) /\ w = w' := by
 have CI := Lib.hid (idx_none w)
 go_enter Tryz.func84, Tryz.ntmps84
 go_wp2_with fail
 refine CI.out.mono ?_
 rintro e w1 ⟨rfl, rfl⟩
 go_wp2
 go_ret
 exact ⟨rfl, rfl⟩
theorem sort_none (W : World) : Calls Tryz.prog 86 #[.slice none 0 0, .func (.func 87) #[] #[]] W fun e w' => e = .returned (.tuple #[]) /\ W = w' :=
 Calls.mono (AnyF.slices_SortFunc_none Tryz.sortl none 0 (.func (.func 87) #[] #[]) W) fun e w' h => ⟨h.1, h.2.symm⟩
theorem any_none (w : World) : Calls Tryz.prog 50 #[.slice none 0 0] w fun e w' => (∃ r : Bool, e = .returned (.bool r)) /\ w = w' := by
 have CD := Lib.hid (del_none w)
 have CS := Lib.hid (sort_none w)
 go_enter Tryz.func50, Tryz.ntmps50
 go_wp2_with fail
 refine CD.out.mono ?_
 rintro e w1 ⟨rfl, rfl⟩
 go_wp2_with fail
 refine CS.out.mono ?_
 rintro e w1 ⟨rfl, rfl⟩
 go_wp2_with fail
 refine wp_loop_rounds 1 ?_
 rw [rounds_succ]
 go_wp2
 go_ret
 exact ⟨⟨_, rfl⟩, rfl⟩
theorem any_some (g b m c : Nat) (w : World) (hrow : MRow b m w) (hg : g <= b) (hgs : g <= w.heap.size) (hmc : m <= c) (hc : c <= 9223372036854775807) (hm : m <= 1073741824) :
  Calls Tryz.prog 50 #[.slice (some ⟨b, 0, none⟩) m c] w fun e w' => (∃ r : Bool, e = .returned (.bool r)) /\ Below g w w' := by
 have CD := Lib.hid (del_win g b m c w hrow hg hgs hmc hc)
 have CS := Lib.hid (fun W n (hn : n <= m) (h : MRow b n W) (hb : Below g w W) => sort_win g b n c W h hg (Nat.le_trans hgs hb.size) (by omega))
 have CM := Lib.hid meetOK
 have HG := Lib.hid hgs
 clear hgs hrow hg
 go_enter Tryz.func50, Tryz.ntmps50
 go_wp2_with fail
 refine CD.out.mono ?_
 rintro e w1 ⟨⟨n, hn, rfl, hr⟩, hb⟩
 have HB1 := Lib.hid hb
 have C2 := Lib.hid (CS.out w1 n hn hr hb)
 clear hr hb CD CS
 go_wp2_with fail
 refine C2.out.mono ?_
 rintro e w2 ⟨rfl, hr, hb⟩
 have HB2 := Lib.hid (HB1.out.trans hb)
 have HR2 := Lib.hid hr
 clear hr hb C2
 go_wp2_with fail
 go_loopw [3] (fun i wr => ∃ k : Nat, 0 < k /\ i = .int .i64 k /\ k <= n + 1 /\ MRow b n wr /\ Below g w wr) (fun i _ => n + 1 - (intOf i).toNat)
 case atStart => exact ⟨1, by omega, rfl, by omega, HR2.out, HB2.out⟩
 case round =>
  obtain ⟨k, hk, rfl, hkn, hrow, hb⟩ := hrel
  have HR := Lib.hid hrow
  have HB := Lib.hid hb
  by_cases hlt : k < n
  ·obtain ⟨x0, y0, c0, c1, u0, u1, _, _⟩ := hrow.2 (k - 1) (by omega)
   obtain ⟨x1, y1, c2, c3, u2, u3, _, _⟩ := hrow.2 k hlt
   have CC := Lib.hid (fun W => CM.out x0 y0 x1 y1 W u0 u1 u2 u3)
   obtain ⟨z, hz⟩ : ∃ z, meetB x0 y0 x1 y1 = z := ⟨_, rfl⟩
   simp only [hz] at CC
   obtain ⟨p, hpk⟩ : ∃ p, p + 1 = k := ⟨k - 1, by omega⟩
   rw [show k - 1 = p by omega] at c0 c1
   have HS : Hid (∀ W, Below wr.heap.size wr W -> (W.cell? ⟨b, p * 2, none⟩ = some (.int .u64 x0) /\ W.cell? ⟨b, p * 2 + 1, none⟩ = some (.int .u64 y0)) /\ W.cell? ⟨b, k * 2, none⟩ = some (.int .u64 x1) /\ W.cell? ⟨b, k * 2 + 1, none⟩ = some (.int .u64 y1)) := Lib.hid (fun W hW => ⟨⟨(hW.cell (p := ⟨b, p * 2, none⟩) hrow.1).trans c0, (hW.cell (p := ⟨b, p * 2 + 1, none⟩) hrow.1).trans c1⟩, (hW.cell (p := ⟨b, k * 2, none⟩) hrow.1).trans c2, (hW.cell (p := ⟨b, k * 2 + 1, none⟩) hrow.1).trans c3⟩)
   have ew : IntKind.i64.wrap ((k : Int) - 1) = (p : Int) := by (rw [IntKind.wrap_i64]; omega)
   have hp : p < n := by omega
   have hkk : k + 1 <= n + 1 := by omega
   clear hrow hb u0 u1 u2 u3 hz c0 c1 c2 c3 hpk hk hkn
   go_wp2_with fail
   refine wp_region_held_drew (S := fun W => (W.cell? ⟨b, p * 2, none⟩ = some (.int .u64 x0) /\ W.cell? ⟨b, p * 2 + 1, none⟩ = some (.int .u64 y0)) /\ W.cell? ⟨b, k * 2, none⟩ = some (.int .u64 x1) /\ W.cell? ⟨b, k * 2 + 1, none⟩ = some (.int .u64 y1)) (by kernel_rfl) (HS.out _ (Below.refl _ _).drew) (fun hHeld => ?_)
   refine tk 0 hHeld fun _ => ?_
   refine tk 1 hHeld fun _ => ?_
   refine tk 2 hHeld fun _ => ?_
   refine tk 3 hHeld fun _ => ?_
   refine tk 4 hHeld fun _ => ?_
   refine tk 5 hHeld fun _ => ?_
   refine tk 6 hHeld fun _ => ?_
   refine tk 7 hHeld fun _ => ?_
   refine tk 8 hHeld fun _ => ?_
   refine qab_ 9 (by kernel_rfl) rfl (by rfl) (fun K hK => ?_)
   go_simp
   refine (CC.out _).mono ?_
   rintro e w4 ⟨rfl, hb⟩
   have HX := Lib.hid ((Below.refl wr.heap.size wr).drew.trans (hb.mono (by simp)))
   have HR4 := Lib.hid (HR.out.on HX.out)
   have HB4 := Lib.hid (HB.out.trans (HX.out.mono (Nat.le_trans HG.out HB.out.size)))
   clear hb CC
   dsimp only
   refine hK.out _ _ (HS.out _ HX.out) (fun hHeld => ?_)
   clear hK K
   refine wpAnyH_done (by kernel_rfl) ?_ _
   clear hHeld
   cases z
   ·go_wp2
    go_roundw
    case rel => exact ⟨k + 1, by omega, by go_num, hkk, HR4.out, HB4.out⟩
    case measure => simp [intOf]; omega
   ·go_wp2
    go_ret
    exact ⟨⟨_, rfl⟩, HB4.out⟩
  ·clear hrow hb
   go_wp2
   go_ret
   exact ⟨⟨_, rfl⟩, HB.out⟩
theorem anyMeetOK : AnyMeetOK := by
 intro g A m c L w hown hL hm hgs
 rcases own_mrow hown hL with ⟨rfl, rfl, rfl⟩ | ⟨b, rfl, hg, hrow, hmc, hc⟩
 ·exact (any_none w).mono fun e w' h => ⟨h.1, h.2 ▸ Below.refl g w⟩
 ·exact any_some g b m c w hrow hg hgs hmc hc hm
section
open Go.RowKit Go.Maps Go.WideMaps
theorem laidOut15 : laidOutB Tryz.prog = true := by kernel_rfl
theorem lawE : Keyed Tryz.prog 199 := Keyed.of_law (deep_law_laid laidOut15 (m := 2) (by omega) (of_decide_eq_true (by kernel_rfl)) (by kernel_rfl) (by rw [Tryz.underlying199]))
theorem zeroE (w : World) : (zeroValue 151).run Tryz.prog w = .ok (.agg #[]) w := by kernel_rfl
theorem end_key (s : ByteArray) (x : Int) (hs : s.size <= 140737488351232) (h0 : 0 <= x) (h1 : x <= 4294967295) : ∃ l, keyOf Tryz.prog 199 (.agg #[.string s, .int .u32 x]) = some l := by
 have hu := Tryz.underlying199
 have us := Tryz.underlying9
 have ui := Tryz.underlying22
 have ce : Tryz.prog.cellsOf 199 = 2 := by kernel_rfl
 have cs : Tryz.prog.cellsOf 9 = 1 := by kernel_rfl
 have ci : Tryz.prog.cellsOf 22 = 1 := by kernel_rfl
 have kt : Tryz.prog.keyType 199 = true := by kernel_rfl
 have hw : (Lit.int .u32 x).wf = true := by
  simp [Lit.wf, IntKind.min, IntKind.max, IntKind.bits, IntKind.signed]
  omega
 have hm : s.size <= maxLen := by unfold maxLen; omega
 obtain ⟨d, hd⟩ : ∃ d, Tryz.prog.types.size = d + 1 := ⟨Tryz.prog.types.size - 1, by have : 0 < Tryz.prog.types.size := of_decide_eq_true (by kernel_rfl); omega⟩
 unfold keyOf
 rw [hu, hd]
 simp only [kt, Value.formed, hu, ce, Value.cells, Bool.true_and]
 simp [Program.keyLits, hu, us, ui, ce, cs, ci, hw, hm]
end
end Go.Proofs.YtcfinbapfhhpgaaGreatDoor
