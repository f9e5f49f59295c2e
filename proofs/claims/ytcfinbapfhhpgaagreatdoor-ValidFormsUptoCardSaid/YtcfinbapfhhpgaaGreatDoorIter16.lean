/-
  Iter, part 16.
-/
import Derived.Test.YtcfinbapfhhpgaaGreatDoorIter13
import Derived.Test.YtcfinbapfhhpgaaGreatDoorBase9
namespace Go.Proofs.YtcfinbapfhhpgaaGreatDoor
open Go.RowKit
set_option linter.unusedVariables false
set_option linter.unusedSimpArgs false
set_option maxRecDepth 20000
set_option maxHeartbeats 16000000
theorem qfg_ (xs ys : List (Value × Value)) : flat2 (xs ++ ys) = flat2 xs ++ flat2 ys := by simp [flat2]
theorem flat2_put (acc r : List (Int × Int)) (a b s : Int) (j : Nat) (h : acc.length = j) : (flat2 ((acc ++ (a, s) :: r).map winV)).set (j * 2) (.int .u64 b) = flat2 ((acc ++ (b, s) :: r).map winV) := by
 have hl : (flat2 (acc.map winV)).length = j * 2 := by rw [qbn_, List.length_map, h]
 rw [List.map_append, List.map_append, qfg_, qfg_, List.set_append_right _ _ (by rw [hl]; exact Nat.le_refl _), hl, Nat.sub_self]
 rfl
theorem cel3_upto {w : World} {B n k : Nat} {A : Option Addr} {xs : List (Value × Value × Value)} (h : Cel3 w B A n xs) (hk : k <= n) : Cel3 w B A k (xs.take k) :=
 ⟨by rw [List.length_take, h.1]; omega, fun h0 => by
  obtain ⟨b, o, e, hb, hc⟩ := h.2 (by omega)
  exact ⟨b, o, e, hb, fun i hi => by
   rw [List.getElem_take]
   exact hc i (by rw [List.length_take] at hi; omega)⟩⟩
theorem wayL_take (R : Nd) (z : List Int) (k : Nat) : (wayL R z (k + 1)).take (k + 1) = wayL R (z.take k) k := by
 rw [qhx_, List.take_append_of_le_length (by rw [qbx_]; exact Nat.le_refl _), List.take_of_length_le (by rw [qbx_]; exact Nat.le_refl _), wayL, wayL]
 refine List.map_congr_left fun j hj => ?_
 rw [List.mem_range] at hj
 rw [List.take_take, Nat.min_eq_left (by omega)]
theorem SRow.keepB {lo B B' : Nat} {w w' : World} {A : Option Addr} {l : List StepR} (h : SRow w B A l) (hf : FreshL lo A) (hk : ∀ k, lo <= k -> k < B -> w'.heap[k]? = w.heap[k]?) (hB : B <= B') : SRow w' B' A l := fun h0 => by
 obtain ⟨b, o, e, hb, hc⟩ := h h0
 have hs := fun (k : Nat) => World.cell?_of_block (a := ⟨b, k, none⟩) (hk b (hf b o e) hb)
 exact ⟨b, o, e, by omega, fun i hi => ⟨(hs _).trans (hc i hi).1, (hs _).trans (hc i hi).2⟩⟩
theorem StepOk.keepB {lo B B' : Nat} {w w' : World} {x : StepR} (h : StepOk lo B w x) (hk : ∀ k, lo <= k -> k < B -> w'.heap[k]? = w.heap[k]?) (hB : B <= B') : StepOk lo B' w' x :=
 h.keep (fun b o h0 he hb => hk b (h.2.2.2.2.2 h0 b o he) hb) hB
def XWinPost (n : Nat) (N : Option Nd) (OV : Bool × List (Int × Int)) (e : Ending) (w' : World) : Prop :=
 (N = none -> ∃ A c, e = .returned (.tuple #[.slice A 0 c, .int .i64 8]) /\ c <= 9223372036854775807) /\ ((∃ y, N = some y) -> (n = 0 -> ∃ A c, e = .returned (.tuple #[.slice A 0 c, .int .i64 1]) /\ c <= 9223372036854775807) /\ (0 < n -> (OV.1 = false -> ∃ A c, ∃ er : Int, e = .returned (.tuple #[.slice A 0 c, .int .i64 er]) /\ c <= 9223372036854775807 /\ (er = 12 \/ er = 10)) /\ (OV.1 = true -> ∃ A m c, e = .returned (.tuple #[.slice A m c, .int .i64 0]) /\ Cel2 w' w'.heap.size A m (OV.2.map winV) /\ m <= c /\ c <= 9223372036854775807)))
theorem qn3_ : qpk_ := by
 intro t z A n c w hin hp hnc hc hh h40 hck
 have HW := Lib.hid (fun W (hW : Below w.heap.size w W) => xway_any t z A n c W (hin.on hW) (hp.on hW) hnc hc h40)
 have hroot := hin.root
 obtain ⟨R, hR⟩ : ∃ R, t.root = R := ⟨_, rfl⟩
 rw [hR] at HW hroot hh ⊢
 have HI := Lib.hid hroot
 have HH := Lib.hid hh
 have HPL : Hid (z.length = n) := Lib.hid (by have := hp.1; rwa [List.length_map] at this)
 obtain ⟨OV, hOV⟩ : ∃ OV, winsV R z n = OV := ⟨_, rfl⟩
 rw [hOV]
 have HOV := Lib.hid hOV
 refine Calls.mono (R := fun e w' => XWinPost n (nodeZ R z) OV e w' /\ Below w.heap.size w w') ?_ (fun e w' h => ⟨h.1.1, h.1.2, h.2⟩)
 clear hin hp hck hR hroot hh hOV
 obtain ⟨boot, ra, rc, rs, ⟨nm, pa, pc, ps, ka, kc, ks⟩⟩ := t
 simp only [Tr.val, Tr.rv, Nd.val, Nd.pv, Nd.kv, Nd.name, Nd.pa, Nd.pc, Nd.props, Nd.ka, Nd.kc, Nd.kids] at HW ⊢
 obtain ⟨b0, b1, b2, b3, b4⟩ := qa2_ w (.int .u32 boot) (.slice ra rs.length rc) (.string nm) (.slice pa ps.length pc) (.slice ka ks.length kc) _ (Below.refl _ _)
 have HB := Lib.hid ((Below.refl w.heap.size w).alloc (Nat.le_refl _) (.cells #[.int .u32 boot, .slice ra rs.length rc, .string nm, .slice pa ps.length pc, .slice ka ks.length kc] 29))
 go_enter Tryz.func76, Tryz.ntmps76
 by_cases hn0 : n = 0
 ·subst hn0
  have HZ : Hid (nodeZ R z = some R) := Lib.hid (by
   have : z = [] := List.eq_nil_of_length_eq_zero HPL.out
   rw [this]; rfl)
  clear b0 b1 b2 b3 b4
  go_wp2
  go_ret2
  refine ⟨⟨?_, ?_⟩, HB.out⟩
  ·intro h
   rw [HZ.out] at h
   cases h
  ·exact fun _ => ⟨fun _ => ⟨none, 0, rfl, by omega⟩, fun h => absurd h (Nat.lt_irrefl 0)⟩
 have k0 : ((n : Int) == 0) = false := by rw [beq_eq_false_iff_ne]; omega
 go_wp2_with fail
 refine (HW.out _ HB.out).mono ?_
 rintro e w1 ⟨hn, hy, hb⟩
 have HB1 := Lib.hid (HB.out.trans (hb.mono HB.out.size))
 clear hb b0 b1 b2 b3 b4 HW k0
 rcases hz : nodeZ R z with _ | y
 ·obtain rfl := hn hz
  have HZ := Lib.hid hz
  clear hn hy hz
  go_wp2
  go_ret2
  exact ⟨⟨fun _ => ⟨none, 0, rfl, by omega⟩, fun h => by (obtain ⟨_, h⟩ := h; rw [HZ.out] at h; cases h)⟩, HB1.out⟩
 obtain ⟨A1, c1, rfl, hcel, hc1, hc2⟩ := hy ⟨y, hz⟩
 have HZ := Lib.hid hz
 obtain ⟨k, hk⟩ : ∃ k, k + 1 = n := ⟨n - 1, by omega⟩
 obtain ⟨p, hpz⟩ := qcv_ hz k
 have hqz : nodeZ R (z.take n) = some y := by rw [List.take_of_length_le (by rw [HPL.out]; exact Nat.le_refl _)]; exact hz
 have hpi := qa9_ _ HI.out hpz
 have hqi := qa9_ _ HI.out hz
 have hph := qbs_ _ hpz
 have hqh := qbs_ _ hz
 have hn1 : n - 1 = k := by omega
 have hval : winsV R z n = if (regV p y).1 = false then (false, []) else winUp (fun a s => upV R (z.take k) s k a) [] (regV p y).2 := by
  unfold winsV; rw [hn1, hqz, hpz]; rfl
 have hr64 := qny_ hpi hqi
 have hlen := Nat.le_trans (qn5_ (parent := p) (n := y)) (Nat.le_trans hqh HH.out)
 have CR := Lib.hid (fun W (hW : Below w.heap.size w W) => reg_own p y W ((hpi.under hW).more hW.size) ((hqi.under hW).more hW.size) (Nat.le_trans hph (by have := HH.out; omega)) (Nat.le_trans hqh (by have := HH.out; omega)))
 have hcp := hcel.2 (by omega)
 have hcel2 := cel3_upto hcel (Nat.le_succ n)
 have e2 : ((wayL R z n).map Nd.tri).take n = (wayL R (z.take k) k).map Nd.tri := by rw [<- List.map_take, <- hk, wayL_take]
 rw [e2] at hcel2
 have HST := Lib.hid (fun (W : World) (hW : Below w1.heap.size w1 W) => steps_any A1 n c1 k (wayL R (z.take k) k) W hk.symm ((hcel2.below hW).more hW.size) (fun x hx => by
   obtain ⟨j, hj⟩ := qhl_ hpz hx
   exact ((qa9_ _ HI.out hj).under (HB1.out.trans (hW.mono HB1.out.size))).more (HB1.out.trans (hW.mono HB1.out.size)).size) (fun x hx => by
   obtain ⟨j, hj⟩ := qhl_ hpz hx
   exact Nat.le_trans (qbs_ _ hj) (by have := HH.out; omega)) (by omega) hc2 (by omega))
 obtain ⟨b, o, rfl, hbl, hc3⟩ := hcp
 have p3 := hc3 k (by rw [List.length_map, qbx_]; omega)
 have q3 := hc3 n (by rw [List.length_map, qbx_]; omega)
 rw [List.getElem_map, qnc_] at p3 q3
 rw [hpz] at p3
 rw [hqz] at q3
 rw [HOV.out] at hval
 obtain ⟨okr, L, hL⟩ : ∃ okr L, regV p y = (okr, L) := ⟨_, _, rfl⟩
 rw [hL] at CR hval hr64 hlen
 have HREL : Hid ((if okr = false then (false, []) else winUp (fun a s => upV R (z.take k) s k a) [] L) = OV) := Lib.hid hval.symm
 have H64 : Hid (∀ x ∈ L, U64 x.1 /\ U64 x.2) := Lib.hid hr64
 have HLEN : Hid (L.length <= 134217728) := Lib.hid hlen
 have HK := Lib.hid hk
 clear hn hy hz hcel hcel2 e2 hc3 hpz hqz hpi hqi hph hqh hval hr64 hlen hL hn1
 obtain ⟨pn, ppa, ppc, pps, pka, pkc, pks⟩ := p
 obtain ⟨yn, ypa, ypc, yps, yka, ykc, yks⟩ := y
 simp only [Nd.val, Nd.pv, Nd.kv, Nd.name, Nd.pa, Nd.pc, Nd.props, Nd.ka, Nd.kc, Nd.kids, Nd.tri, Option.getD_some] at CR p3 q3
 obtain ⟨M, hM⟩ : ∃ M, n + 1 = M := ⟨_, rfl⟩
 rw [hM]
 have K0 : IntKind.i64.wrap ((M : Int) - 1) = (n : Int) := by
  have e : (M : Int) - 1 = (n : Int) := by omega
  rw [e]; exact IntWalk.i64_in _ (by omega)
 have K1 : IntKind.i64.wrap ((n : Int) - 1) = (k : Int) := by
  have e : (n : Int) - 1 = (k : Int) := by omega
  rw [e]; exact IntWalk.i64_in _ (by omega)
 have hkM : k < M := by omega
 have hnM : n < M := by omega
 have R3 : ∀ W : World, (Instr.slice 25 (.slice (some ⟨b, o, none⟩) M c1) none (some (.int .i64 (n : Int))) none).run Tryz.prog W = .ok (.slice (some ⟨b, o, none⟩) n c1) W := fun W => run_upto3 Tryz.underlying25 qii_ _ M c1 _ n rfl (by omega) W
 have HP := Lib.hid (fun (W : World) (h : Below w1.heap.size w1 W) => And.intro (And.intro ((h.cell (p := ⟨b, o + k * 3, none⟩) hbl).trans p3.1) (And.intro ((h.cell (p := ⟨b, o + k * 3 + 1, none⟩) hbl).trans p3.2.1) ((h.cell (p := ⟨b, o + k * 3 + 2, none⟩) hbl).trans p3.2.2)))
  (And.intro ((h.cell (p := ⟨b, o + n * 3, none⟩) hbl).trans q3.1) (And.intro ((h.cell (p := ⟨b, o + n * 3 + 1, none⟩) hbl).trans q3.2.1) ((h.cell (p := ⟨b, o + n * 3 + 2, none⟩) hbl).trans q3.2.2))))
 have CL := Lib.hid (CR.out w1.drew HB1.out.drew)
 have HD1 := Lib.hid ((Below.refl w1.heap.size w1).drew)
 clear p3 q3 hbl hM CR hk
 generalize pps.length = ppl at *
 generalize pks.length = pkl at *
 generalize yps.length = ypl at *
 generalize yks.length = ykl at *
 go_wp2_with fail
 refine wp_region_held_drew (S := fun W => (W.cell? ⟨b, o + k * 3, none⟩ = some (.string pn) /\ W.cell? ⟨b, o + k * 3 + 1, none⟩ = some (.slice ppa ppl ppc) /\ W.cell? ⟨b, o + k * 3 + 2, none⟩ = some (.slice pka pkl pkc)) /\ W.cell? ⟨b, o + n * 3, none⟩ = some (.string yn) /\ W.cell? ⟨b, o + n * 3 + 1, none⟩ = some (.slice ypa ypl ypc) /\ W.cell? ⟨b, o + n * 3 + 2, none⟩ = some (.slice yka ykl ykc)) (by kernel_rfl) (HP.out _ HD1.out) (fun hHeld => ?_)
 refine tk 0 hHeld fun _ => ?_
 refine tk 1 hHeld fun _ => ?_
 refine tk 2 hHeld fun _ => ?_
 refine tk 3 hHeld fun _ => ?_
 refine tk 4 hHeld fun _ => ?_
 refine tk 5 hHeld fun _ => ?_
 refine tk 6 hHeld fun _ => ?_
 refine tk 7 hHeld fun _ => ?_
 refine tk 8 hHeld fun _ => ?_
 refine qab_ 9 (by kernel_rfl) rfl (by rfl) (fun K hK => ?_)
 go_simp
 refine CL.out.mono ?_
 rintro e w3 ⟨ho1, ho2, hb3⟩
 have HX3 := Lib.hid (HD1.out.trans hb3)
 have HB3 := Lib.hid (HB1.out.trans (HX3.out.mono HB1.out.size))
 clear hb3 CL
 cases okr
 ·obtain ⟨A3, c3, rfl, hc3⟩ := ho2 rfl
  have HO : Hid (OV = (false, [])) := Lib.hid (by rw [<- HREL.out, if_pos rfl])
  clear ho1 ho2
  dsimp only
  refine hK.out _ _ (HP.out _ HX3.out) (fun hHeld => ?_)
  clear hK K
  refine tk 10 hHeld fun _ => ?_
  refine tk 11 hHeld fun _ => ?_
  refine tk 12 hHeld fun _ => ?_
  refine tk 13 hHeld fun _ => ?_
  refine tk 14 hHeld fun _ => ?_
  refine wpAnyH_done (by kernel_rfl) ?_ _
  clear hHeld
  go_wp2
  go_ret2
  refine ⟨⟨?_, ?_⟩, HB3.out⟩
  ·intro h
   rw [HZ.out] at h
   cases h
  ·intro _
   refine ⟨fun h => by (have := HK.out; omega), fun _ => ⟨fun _ => ⟨none, 0, 10, rfl, by omega, .inr rfl⟩, fun h => by (rw [HO.out] at h; cases h)⟩⟩
 obtain ⟨A3, m3, c3, rfl, s3, l3, l3', own3⟩ := ho1 rfl
 have hl3 : L.length = m3 := by have := s3.1; rwa [List.length_map] at this
 have HL3 := Lib.hid hl3
 obtain ⟨U, hU⟩ : ∃ U, (fun a s => upV R (z.take k) s k a) = U := ⟨_, rfl⟩
 have HU2 : Hid (∀ a s, upV R (z.take k) s k a = U a s) := Lib.hid (fun a s => by rw [<- hU])
 have HREL2 : Hid (winUp U [] L = OV) := Lib.hid (by have h := HREL.out; rwa [if_neg (by simp), hU] at h)
 obtain ⟨g, hg⟩ : ∃ g, w.heap.size = g := ⟨_, rfl⟩
 have HG := Lib.hid hg
 have HOWN3 := Lib.hid (qjt_ own3 (b' := g) (by rw [<- hg]; exact HB1.out.size))
 have hm3 : m3 <= 134217728 := by rw [<- hl3]; exact HLEN.out
 have HS := Lib.hid (HST.out w3 HX3.out)
 clear ho1 ho2 s3 own3 hU hl3 HST HREL
 dsimp only
 refine hK.out _ _ (HP.out _ HX3.out) (fun hHeld => ?_)
 clear hK K
 refine tk 10 hHeld fun _ => ?_
 refine tk 11 hHeld fun _ => ?_
 refine tk 12 hHeld fun _ => ?_
 refine tk 13 hHeld fun _ => ?_
 refine tk 14 hHeld fun _ => ?_
 refine wpAnyH_done (by kernel_rfl) ?_ _
 clear hHeld
 clear HP HD1
 go_wp2_with fail
 refine HS.out.mono ?_
 rintro e w4 ⟨⟨A2, c2, xs, rfl, hxl, hc3, hc4, hrow, hfr, hok, hP⟩, hb4⟩
 have HB4 := Lib.hid (HB3.out.trans (hb4.mono HB3.out.size))
 have H34 := Lib.hid hb4
 have HOWN4 := Lib.hid (qez_ HOWN3.out hb4)
 have HXS := Lib.hid (And.intro hxl (And.intro hc3 (And.intro hc4 (And.intro hrow (And.intro hfr (And.intro hok hP))))))
 clear hb4 hxl hc3 hc4 hrow hfr hok hP HS R3
 go_wp2_with fail
 go_loopw [52] (fun i wr => ∃ (j : Nat) (acc : List (Int × Int)), j <= m3 /\ i = .int .i64 j /\ acc.length = j /\ wr.ownsRow g 173 2 (.slice A3 m3 c3) m3 (flat2 ((acc ++ L.drop j).map winV)) /\ winUp U acc (L.drop j) = OV /\ Below g w wr /\ (∀ k, w3.heap.size <= k -> k < w4.heap.size -> wr.heap[k]? = w4.heap[k]?) /\ w4.heap.size <= wr.heap.size) (fun i _ => m3 - (intOf i).toNat)
 case atStart => exact ⟨0, [], Nat.zero_le _, rfl, rfl, HOWN4.out, HREL2.out, by rw [<- hg]; exact HB4.out, fun _ _ _ => rfl, Nat.le_refl _⟩
 case round =>
  obtain ⟨j, acc, hj, rfl, hal, hown, hsum, hb, hsame, hsz⟩ := hrel
  have HAL := Lib.hid hal
  have HOW := Lib.hid hown
  have HSUM := Lib.hid hsum
  have HBX := Lib.hid hb
  have HSA := Lib.hid (And.intro hsame hsz)
  clear hal hown hsum hb hsame hsz
  by_cases hlt : j < m3
  ·have hjl : j < L.length := by rw [HL3.out]; exact hlt
   obtain ⟨gb, rfl⟩ : ∃ gb, A3 = some ⟨gb, 0, none⟩ := by
    rcases HOWN3.out.2 with ⟨_, h0⟩ | ⟨gb, cap, cur, e, _⟩
    ·omega
    ·simp only [Value.slice.injEq] at e
     exact ⟨gb, e.1⟩
   have hgb := HOWN3.out.lt gb rfl
   have hdrop : L.drop j = L[j] :: L.drop (j + 1) := (List.getElem_cons_drop (h := hjl)).symm
   have h64 := H64.out _ (List.getElem_mem hjl)
   have hsum := HSUM.out
   have hown := HOW.out
   rw [hdrop] at hsum hown
   rw [winUp] at hsum
   generalize L[j] = Y at *
   obtain ⟨wa, ws⟩ := Y
   obtain ⟨u1, u2⟩ := h64
   have hfl := qe5_ ((acc ++ (wa, ws) :: L.drop (j + 1)).map winV) j (by rw [List.length_map, List.length_append, HAL.out]; simp)
   have hge : ((acc ++ (wa, ws) :: L.drop (j + 1)).map winV)[j]'(by rw [List.length_map, List.length_append, HAL.out]; simp) = (.int .u64 wa, .int .u64 ws) := by
    rw [List.getElem_map, List.getElem_append_right (by rw [HAL.out]; exact Nat.le_refl _)]
    simp [HAL.out, winV]
   rw [hge] at hfl
   have p0 : wr.cell? ⟨gb, j * 2, none⟩ = some (.int .u64 wa) := (hown.cellAt (j * 2) (by omega)).trans hfl.1
   have p1 : wr.cell? ⟨gb, j * 2 + 1, none⟩ = some (.int .u64 ws) := (hown.cellAt (j * 2 + 1) (by omega)).trans hfl.2
   have HOW2 := Lib.hid hown
   obtain ⟨uv, huv⟩ : ∃ uv, U wa ws = uv := ⟨_, rfl⟩
   have HSX : Hid (uv.elim (false, []) (fun b => winUp U (acc ++ [(b, ws)]) (L.drop (j + 1))) = OV) := Lib.hid (by rw [<- huv]; revert hsum; cases U wa ws <;> exact id)
   obtain ⟨V, hV⟩ : ∃ V, wr.alloc (.cells #[.int .u64 wa, .int .u64 ws] 173) = V := ⟨_, rfl⟩
   have bV : Below wr.heap.size wr V := by rw [<- hV]; exact (Below.refl _ _).alloc (Nat.le_refl _) _
   have q0 : V.cell? ⟨wr.heap.size, 0, none⟩ = some (.int .u64 wa) := by rw [<- hV]; exact World.cell?_alloc_new _ _ _ _
   have q1 : V.cell? ⟨wr.heap.size, 1, none⟩ = some (.int .u64 ws) := by rw [<- hV]; exact World.cell?_alloc_new _ _ _ _
   obtain ⟨hxl, hc3, hc4, hrow, hfr, hok, hP⟩ := HXS.out
   have hsame : ∀ k, w3.heap.size <= k -> k < w4.heap.size -> V.heap[k]? = w4.heap[k]? := fun k h1 h2 => (bV.block k (by have := HSA.out.2; omega)).trans (HSA.out.1 k h1 h2)
   have hszV : w4.heap.size <= V.heap.size := Nat.le_trans HSA.out.2 bV.size
   have HCL := Lib.hid (climb_any A2 k c2 w3.heap.size xs wa ws V hxl (hrow.keepB hfr hsame hszV) (fun x hx => (hok x hx).keepB hsame hszV) hc3 hc4 (by have := HK.out; omega) u1 u2)
   have hcu := qnf_ R (z.take k) ws k xs hxl hP k wa (Nat.le_refl _)
   have exs : xs.take k = xs := List.take_of_length_le (by rw [hxl]; exact Nat.le_refl _)
   rw [exs, HU2.out, huv] at hcu
   obtain ⟨CV, hCV⟩ : ∃ CV, qby_ ws xs.reverse wa = CV := ⟨_, rfl⟩
   rw [hCV] at HCL hcu
   have HCU := Lib.hid hcu
   have HBV := Lib.hid bV
   have HGB := Lib.hid hgb
   clear exs hcu hCV hsame hszV hxl hc3 hc4 hrow hfr hok hP hge hfl hown hsum hdrop huv bV hgb hjl
   cases uv with
   | none =>
    obtain ⟨er, he, h12⟩ := HCU.out.1 rfl
    subst he
    have HO : Hid (OV = (false, [])) := Lib.hid HSX.out.symm
    have k1 : (er != 0) = true := by rw [bne_iff_ne]; omega
    have H12 := Lib.hid h12
    clear h12 HCU
    go_wp2_with fail
    refine HCL.out.mono ?_
    rintro e w5 ⟨rfl, hb5⟩
    have HB5 := Lib.hid (HBX.out.trans ((HBV.out.trans (hb5.mono HBV.out.size)).mono (by have := HBX.out.size; omega)))
    clear hb5 p0 p1 q0 q1 hV HCL
    go_wp2
    go_ret2
    refine ⟨⟨?_, ?_⟩, by rw [HG.out]; exact HB5.out⟩
    ·intro h
     rw [HZ.out] at h
     cases h
    ·intro _
     refine ⟨fun h => by (have := HK.out; omega), fun _ => ⟨fun _ => ⟨none, 0, er, rfl, by omega, H12.out⟩, fun h => by (rw [HO.out] at h; cases h)⟩⟩
   | some bv =>
    obtain rfl := HCU.out.2 bv rfl
    have HO : Hid (winUp U (acc ++ [(bv, ws)]) (L.drop (j + 1)) = OV) := Lib.hid HSX.out
    clear HCU
    go_wp2_with fail
    refine HCL.out.mono ?_
    rintro e w5 ⟨rfl, hb5⟩
    have h5 : Below wr.heap.size wr w5 := HBV.out.trans (hb5.mono HBV.out.size)
    have own5 := qez_ HOW2.out h5
    have f0 := own5.frozenAt (j * 2)
    have d0 : w5.cell? ⟨gb, j * 2, none⟩ = some (.int .u64 wa) := (h5.cell (p := ⟨gb, j * 2, none⟩) (World.block_lt_of_cell? wr _ p0)).trans p0
    obtain ⟨own6, gr6⟩ := own5.stored (j * 2) (.int .u64 bv)
    rw [flat2_put acc (L.drop (j + 1)) wa bv ws j HAL.out] at own6
    have e6 : acc ++ [(bv, ws)] ++ L.drop (j + 1) = acc ++ (bv, ws) :: L.drop (j + 1) := by simp
    have HOW6 : Hid ((w5.setCell ⟨gb, j * 2, none⟩ (.int .u64 bv)).ownsRow g 173 2 (.slice (some ⟨gb, 0, none⟩) m3 c3) m3 (flat2 ((acc ++ [(bv, ws)] ++ L.drop (j + 1)).map winV))) := Lib.hid (by rw [e6]; exact own6)
    have h5g : Below g w w5 := HBX.out.trans (h5.mono (by have := HBX.out.size; omega))
    have HB6 : Hid (Below g w (w5.setCell ⟨gb, j * 2, none⟩ (.int .u64 bv))) := Lib.hid (h5g.setCell (p := ⟨gb, j * 2, none⟩) HGB.out.1 _)
    have HS6 : Hid ((∀ k, w3.heap.size <= k -> k < w4.heap.size -> (w5.setCell ⟨gb, j * 2, none⟩ (.int .u64 bv)).heap[k]? = w4.heap[k]?) /\ w4.heap.size <= (w5.setCell ⟨gb, j * 2, none⟩ (.int .u64 bv)).heap.size) := Lib.hid ⟨fun k h1 h2 => by
     have h3 : (w5.setCell ⟨gb, j * 2, none⟩ (.int .u64 bv)).heap[k]? = w5.heap[k]? := Below.heap_setCell _ _ _ _ (by show k ≠ gb; have := HGB.out.2; omega)
     exact h3.trans ((h5.block k (by have := HSA.out.2; omega)).trans (HSA.out.1 k h1 h2)), by
     have h3 := gr6.size
     have h4 := h5.size
     have := HSA.out.2
     omega⟩
    clear h5 own5 own6 gr6 e6 h5g hb5 p0 p1 q0 q1 hV HCL
    go_wp2
    go_roundw
    case rel => exact ⟨j + 1, acc ++ [(bv, ws)], by omega, by go_num, by (rw [List.length_append, HAL.out]; rfl), HOW6.out, HO.out, HB6.out, HS6.out.1, HS6.out.2⟩
    case measure => simp [intOf]; omega
  ·obtain rfl : j = m3 := by omega
   have HO : Hid (OV = (true, acc)) := Lib.hid (by
    have h := HSUM.out
    rw [List.drop_of_length_le (by rw [HL3.out]; exact Nat.le_refl _), winUp] at h
    exact h.symm)
   have hown := HOW.out
   rw [List.drop_of_length_le (by rw [HL3.out]; exact Nat.le_refl _), List.append_nil] at hown
   obtain ⟨Ao, co, e, hcel, hco1, hco2, _⟩ := qa0_ hown
   simp only [Value.slice.injEq, true_and] at e
   obtain ⟨rfl, rfl⟩ := e
   have HCEL := Lib.hid hcel
   have HCO := Lib.hid (And.intro hco1 hco2)
   clear hown hcel hco1 hco2
   go_wp2
   go_ret2
   refine ⟨⟨?_, ?_⟩, by rw [HG.out]; exact HBX.out⟩
   ·intro h
    rw [HZ.out] at h
    cases h
   ·intro _
    refine ⟨fun h => by (have := HK.out; omega), fun _ => ⟨fun h => by (rw [HO.out] at h; cases h), fun _ => ⟨_, j, _, rfl, by rw [HO.out]; exact HCEL.out, HCO.out.1, HCO.out.2⟩⟩⟩
end Go.Proofs.YtcfinbapfhhpgaaGreatDoor
