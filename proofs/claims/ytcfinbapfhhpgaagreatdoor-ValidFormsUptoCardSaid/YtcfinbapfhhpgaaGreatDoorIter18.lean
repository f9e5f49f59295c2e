/-
  Iter, part 18.
-/
import Derived.Test.YtcfinbapfhhpgaaGreatDoorIter17
import Derived.Test.YtcfinbapfhhpgaaGreatDoorIter10
import Derived.Test.YtcfinbapfhhpgaaGreatDoorBase7
import Derived.Test.YtcfinbapfhhpgaaGreatDoorBase5
namespace Go.Proofs.YtcfinbapfhhpgaaGreatDoor
open Go.RowKit
set_option linter.unusedVariables false
set_option linter.unusedSimpArgs false
set_option maxRecDepth 20000
set_option maxHeartbeats 16000000
def NodeP (t : Tr) (xs : List SpR) (ds : List SpD) (r q : SpR) (d : SpD) (aen : Bool) (er : Int) (d' : SpD) : Prop :=
 if (onP r.y).2 ≠ 0 then er = (onP r.y).2 else d'.en = ((onP r.y).1 && aen) /\
  if ((onP r.y).1 && aen) = false then er = 0 /\ d' = { d with en := false }
  else if (kindP r.y).2.2 ≠ 0 then er = (kindP r.y).2.2
  else d'.kd = (kindP r.y).1 /\
   if (kindP r.y).1 = 1 then er = busP q.y r.y
   else if (kindP r.y).1 ≠ 0 then (er = 0 ↔ UpB xs ds r.z /\ winB t.root (r.z.map Int.ofNat) r.z.length (kindP r.y).1 = true /\ linB t.root r.y (r.z.map Int.ofNat) (kindP r.y).1 = true) /\ (er = 0 -> qce_ t.root (r.z.map Int.ofNat) = .ok d'.ws)
   else er = if (kindP r.y).2.1 then 15 else 0
def qoe_ (t : Tr) (B0 bc : Nat) (xs : List SpR) (ds : List SpD) (i : Nat) (r q : SpR) (d : SpD) (aen : Bool) (w : World) (e : Ending) (w' : World) : Prop := ∃ (er : Int) (d' : SpD), e = .returned (.int .i64 er) /\ Chk w' t bc xs (ds.set i d') /\ Below B0 w w' /\ w'.heap[bc]? = w.heap[bc]? /\ NodeP t xs ds r q d aen er d'
theorem chk_en {t : Tr} {B0 bc : Nat} {xs : List SpR} {ds : List SpD} {i : Nat} {w : World} (hi : i < xs.length) (hi' : i < ds.length) (hk : Chk w t bc xs ds) (hBs : ∀ r ∈ xs, B0 <= r.b) (en : Bool) :
  Chk (w.setCell ⟨xs[i].b, 6, none⟩ (.bool en)) t bc xs (ds.set i { ds[i] with en := en }) /\ Below B0 w (w.setCell ⟨xs[i].b, 6, none⟩ (.bool en)) := by
 refine ⟨hk.put hi _ (by simp [World.setCell]) ?_ (fun k hk2 => Below.heap_setCell _ _ _ _ hk2) (hk.sp.lines ds[i] (List.getElem_mem hi')), (Below.refl _ _).setCell (hBs _ (List.getElem_mem hi)) _⟩
 have h3 := hk.sp.box i hi hi'
 simp [World.setCell, Array.getElem?_modify, h3, spO]
theorem chk_kd {t : Tr} {B0 bc : Nat} {xs : List SpR} {ds : List SpD} {i : Nat} {w : World} (hi : i < xs.length) (hi' : i < ds.length) (hk : Chk w t bc xs ds) (hBs : ∀ r ∈ xs, B0 <= r.b) (kd : Int) :
  Chk (w.setCell ⟨xs[i].b, 7, none⟩ (.int .i64 kd)) t bc xs (ds.set i { ds[i] with kd := kd }) /\ Below B0 w (w.setCell ⟨xs[i].b, 7, none⟩ (.int .i64 kd)) := by
 refine ⟨hk.put hi _ (by simp [World.setCell]) ?_ (fun k hk2 => Below.heap_setCell _ _ _ _ hk2) (hk.sp.lines ds[i] (List.getElem_mem hi')), (Below.refl _ _).setCell (hBs _ (List.getElem_mem hi)) _⟩
 have h3 := hk.sp.box i hi hi'
 simp [World.setCell, Array.getElem?_modify, h3, spO]
theorem UpB.set {xs : List SpR} {ds : List SpD} {i : Nat} (hi : i < xs.length) (d' : SpD) : UpB xs (ds.set i d') xs[i].z ↔ UpB xs ds xs[i].z := by
 have key : ∀ j (h : j < xs.length), (∃ s, s ≠ [] /\ xs[i].z = xs[j].z ++ s) -> i ≠ j := fun j h ⟨s, hs, e⟩ e2 => by
  subst e2
  have h1 := congrArg List.length e
  rw [List.length_append] at h1
  have h2 := List.length_pos_iff.2 hs
  omega
 constructor
 ·intro h j hj hj' h0 hs
  have h1 := h j hj (by rw [List.length_set]; exact hj') h0 hs
  rwa [List.getElem_set_ne (key j hj hs)] at h1
 ·intro h j hj hj' h0 hs
  rw [List.getElem_set_ne (key j hj hs)]
  exact h j hj (by rw [List.length_set] at hj'; exact hj') h0 hs
theorem vnode_any (t : Tr) (B0 bc : Nat) (xs : List SpR) (ds : List SpD) (i a : Nat) (w : World) (hi : i < xs.length) (hi' : i < ds.length) (ha : a < xs.length) (ha' : a < ds.length) (hab : xs[i].ab = some xs[a].b) (hz0 : xs[i].z ≠ []) (hzn : (xs.map SpR.z).Nodup) (hk : Chk w t bc xs ds) (hin : t.In w B0) (hck : qb5_ t = 0) (hh : heftN t.root <= 134217728) (hB : B0 <= w.heap.size) (hBs : ∀ r ∈ xs, B0 <= r.b) (aen : Bool) (haen : ds[a].en = aen) :
  Calls Tryz.prog 23 #[.pointer (some ⟨bc, 0, none⟩), .pointer (some ⟨xs[i].b, 0, none⟩)] w fun e w' => qoe_ t B0 bc xs ds i xs[i] xs[a] ds[i] aen w e w' := by
 have hnode : ∀ j (hj : j < xs.length), xs[j].y.In w B0 /\ heftN xs[j].y <= 134217728 := fun j hj => by
  have h1 := (qa4_ _ _).trans (hk.sp.stat _ (List.getElem_mem hj)).node
  exact ⟨qa9_ _ hin.root h1, Nat.le_trans (qbs_ _ h1) hh⟩
 have CO := Lib.hid (fun W (hW : Below B0 w W) (hs : B0 <= W.heap.size) => qj3_ xs[i].y W (((hnode i hi).1.under hW).more hs) (hnode i hi).2)
 have CK := Lib.hid (fun W (hW : Below B0 w W) (hs : B0 <= W.heap.size) => qfq_ xs[i].y W (((hnode i hi).1.under hW).more hs) (hnode i hi).2)
 have CB := Lib.hid (fun W (d dq : SpD) (hW : Below B0 w W) (hs : B0 <= W.heap.size) (h1 : W.heap[xs[i].b]? = some (spO xs[i] d)) (h2 : W.heap[xs[a].b]? = some (spO xs[a] dq)) => bus_any xs[i] xs[a] d dq W h1 h2 hab (((hnode a ha).1.under hW).more hs) (((hnode i hi).1.under hW).more hs) (Nat.le_trans (hnode a ha).2 (by decide)) (Nat.le_trans (hnode i hi).2 (by decide)))
 have CD := Lib.hid (fun W d (hW : Below B0 w W) (hs : B0 <= W.heap.size) (hc : Chk W t bc xs (ds.set i d)) => qmr_ t B0 bc xs (ds.set i d) i W hi (by rw [List.length_set]; exact hi') hz0 hzn hc (hin.under hW) hck hh hs hBs)
 have HK := Lib.hid hk
 have HB0 := Lib.hid hB
 have HSE := Lib.hid (fun W (hc : Chk W t bc xs ds) (en : Bool) => chk_en (B0 := B0) hi hi' hc hBs en)
 have HSK := Lib.hid (fun W (d : SpD) (kd : Int) (hc : Chk W t bc xs (ds.set i d)) => chk_kd (B0 := B0) hi (by rw [List.length_set]; exact hi') hc hBs kd)
 have HUP := Lib.hid (fun (d : SpD) => UpB.set (ds := ds) hi d)
 have HNE : Hid (i ≠ a) := Lib.hid (fun e => by
  subst e
  rcases hk.sp.above hi with ⟨h, _⟩ | ⟨j2, k, hj2, h1, h2⟩
  ·rw [h] at hab; cases hab
  ·rw [h1] at hab
   have h3 : j2 = i := qkp_ hk.sp.nod (i := j2) (j := i) (by rw [List.length_map]; exact hj2) (by rw [List.length_map]; exact hi) (by simpa using hab)
   subst h3
   have h4 := congrArg List.length h2
   simp at h4)
 have HSP : Hid (∀ W (ds' : List SpD) (h' : i < ds'.length), Chk W t bc xs ds' -> (W.cell? ⟨xs[i].b, 1, none⟩ = some (.string xs[i].y.name) /\ W.cell? ⟨xs[i].b, 2, none⟩ = some xs[i].y.pv /\ W.cell? ⟨xs[i].b, 3, none⟩ = some xs[i].y.kv) /\ W.cell? ⟨xs[i].b, 4, none⟩ = some (.pointer (some ⟨xs[a].b, 0, none⟩)) /\ (W.cell? ⟨xs[i].b, 6, none⟩ = some (.bool ds'[i].en) /\ W.frozen? ⟨xs[i].b, 6, none⟩ = false) /\ W.cell? ⟨xs[i].b, 7, none⟩ = some (.int .i64 ds'[i].kd) /\ W.frozen? ⟨xs[i].b, 7, none⟩ = false) := Lib.hid (fun W ds' h' hc => by
  have h1 := hc.sp.box i hi h'
  obtain ⟨_, q1, q2, q3, q4, _, q6, q7, _⟩ := qaq_ h1
  refine ⟨⟨q1, q2, q3⟩, ?_, ⟨q6, Lib.frozen_of_heap h1 6⟩, q7, Lib.frozen_of_heap h1 7⟩
  rw [q4, hab]; rfl)
 have HSA : Hid (∀ W (ds' : List SpD) (h' : a < ds'.length), Chk W t bc xs ds' -> W.cell? ⟨xs[a].b, 6, none⟩ = some (.bool ds'[a].en)) := Lib.hid (fun W ds' h' hc => (qaq_ (hc.sp.box a ha h')).2.2.2.2.2.2.1)
 have HNB := Lib.hid (fun W ds' (h' : i < ds'.length) (hc : Chk W t bc xs ds') => hc.ne hi h')
 have HXB := Lib.hid (fun W ds' (h' : i < ds'.length) (hc : Chk W t bc xs ds') => hc.sp.box i hi h')
 have HXA := Lib.hid (fun W ds' (h' : a < ds'.length) (hc : Chk W t bc xs ds') => hc.sp.box a ha h')
 obtain ⟨yn, hyn⟩ : ∃ yn, xs[i].y.name = yn := ⟨_, rfl⟩
 obtain ⟨yp, hyp⟩ : ∃ yp, xs[i].y.pv = yp := ⟨_, rfl⟩
 obtain ⟨yk, hyk⟩ : ∃ yk, xs[i].y.kv = yk := ⟨_, rfl⟩
 obtain ⟨on, hon⟩ : ∃ on, onP xs[i].y = on := ⟨_, rfl⟩
 obtain ⟨kk, hkk⟩ : ∃ kk, kindP xs[i].y = kk := ⟨_, rfl⟩
 obtain ⟨bi, hbi⟩ : ∃ bi, xs[i].b = bi := ⟨_, rfl⟩
 obtain ⟨ba, hba⟩ : ∃ ba, xs[a].b = ba := ⟨_, rfl⟩
 have HNP : Hid (∀ er d', NodeP t xs ds xs[i] xs[a] ds[i] aen er d' ↔ (if on.2 ≠ 0 then er = on.2 else d'.en = (on.1 && aen) /\
  if (on.1 && aen) = false then er = 0 /\ d' = { ds[i] with en := false }
  else if kk.2.2 ≠ 0 then er = kk.2.2
  else d'.kd = kk.1 /\
   if kk.1 = 1 then er = busP xs[a].y xs[i].y
   else if kk.1 ≠ 0 then (er = 0 ↔ UpB xs ds xs[i].z /\ winB t.root (xs[i].z.map Int.ofNat) xs[i].z.length kk.1 = true /\ linB t.root xs[i].y (xs[i].z.map Int.ofNat) kk.1 = true) /\ (er = 0 -> qce_ t.root (xs[i].z.map Int.ofNat) = .ok d'.ws)
   else er = if kk.2.1 then 15 else 0)) := Lib.hid (fun er d' => by unfold NodeP; rw [hon, hkk])
 have ev : xs[i].y.val = .agg #[.string yn, yp, yk] := by rw [<- hyn, <- hyp, <- hyk]; rfl
 rw [ev, hon] at CO
 rw [ev, hkk] at CK
 rw [hyn, hyp, hyk, hbi, hba] at HSP
 rw [hba] at HSA
 rw [hbi] at HSE HSK CD HNB ⊢
 have HCB : Hid (∀ W d (hW : Below B0 w W), B0 <= W.heap.size -> Chk W t bc xs (ds.set i d) -> Calls Tryz.prog 46 #[.pointer (some ⟨bi, 0, none⟩)] W fun e w' => e = .returned (.int .i64 (busP xs[a].y xs[i].y)) /\ Below W.heap.size W w') := Lib.hid (fun W d hW hs hc => by
  have h1 := CB.out W _ _ hW hs (HXB.out W _ (by rw [List.length_set]; exact hi') hc) (HXA.out W _ (by rw [List.length_set]; exact ha') hc)
  rw [hbi] at h1
  exact h1)
 have HSET : Hid (∀ d : SpD, ∃ h : i < (ds.set i d).length, (ds.set i d)[i] = d) := Lib.hid (fun d => ⟨by rw [List.length_set]; exact hi', List.getElem_set_self _⟩)
 clear hnode hab hz0 hzn hin hck hh hBs hyn hyp hyk hon hkk hbi hba ev CB HXB HXA
 have HAEN := Lib.hid haen
 obtain ⟨on1, on2⟩ := on
 obtain ⟨k1, k2, k3⟩ := kk
 obtain ⟨⟨c1, c2, c3⟩, c4, ⟨c6, f6⟩, c7, f7⟩ := HSP.out w ds hi' hk
 clear hk hB
 go_enter Tryz.func23, Tryz.ntmps23
 go_wp2_with fail
 refine (CO.out w (Below.refl _ _) HB0.out).mono ?_
 rintro e w1 ⟨rfl, hb⟩
 have HB1 := Lib.hid (hb.mono HB0.out)
 have HC1 : Hid (w1.heap[bc]? = w.heap[bc]?) := Lib.hid (hb.block bc HK.out.lt)
 have HK1 := Lib.hid (HK.out.below hb)
 have HS1 := Lib.hid (hb.size)
 clear hb CO c1 c2 c3 c4 c6 f6 c7 f7
 by_cases ho : on2 = 0
 rotate_left
 ·have q : (on2 != 0) = true := by rw [bne_iff_ne]; exact ho
  have HO := Lib.hid ho
  clear ho
  go_wp2
  go_ret
  exact ⟨on2, ds[i], rfl, by rw [List.set_getElem_self]; exact HK1.out, HB1.out, HC1.out, (HNP.out _ _).2 (by rw [if_pos HO.out])⟩
 subst ho
 obtain ⟨⟨c1, c2, c3⟩, c4, ⟨c6, f6⟩, c7, f7⟩ := HSP.out w1 ds hi' HK1.out
 have d6 := HSA.out w1 ds ha' HK1.out
 rw [haen] at d6
 obtain ⟨eni, heni⟩ : ∃ eni, ds[i].en = eni := ⟨_, rfl⟩
 obtain ⟨kdi, hkdi⟩ : ∃ kdi, ds[i].kd = kdi := ⟨_, rfl⟩
 rw [heni] at c6
 rw [hkdi] at c7
 clear heni hkdi
 have HE1 := Lib.hid (HSE.out w1 HK1.out)
 have HEC : Hid (∀ v, (w1.setCell ⟨bi, 6, none⟩ v).heap[bc]? = w.heap[bc]?) := Lib.hid (fun v => (Below.heap_setCell _ _ _ _ (HNB.out _ _ hi' HK1.out)).trans HC1.out)
 have HOFF : Hid (∀ W, Chk W t bc xs (ds.set i { ds[i] with en := false }) -> Below B0 w W -> W.heap[bc]? = w.heap[bc]? -> (on1 && aen) = false -> qoe_ t B0 bc xs ds i xs[i] xs[a] ds[i] aen w (.returned (.int .i64 0)) W) := Lib.hid (fun W h1 h2 h4 h3 => ⟨0, { ds[i] with en := false }, rfl, h1, h2, h4, (HNP.out _ _).2 (by rw [if_neg (by simp)]; exact ⟨h3.symm, by rw [if_pos h3]; exact ⟨rfl, rfl⟩⟩)⟩)
 cases on1
 ·go_wp2_with fail
  go_ret
  exact HOFF.out _ (HE1.out false).1 (HB1.out.trans (HE1.out false).2) (HEC.out _) rfl
 cases aen
 ·go_wp2_with fail
  go_ret
  exact HOFF.out _ (HE1.out false).1 (HB1.out.trans (HE1.out false).2) (HEC.out _) rfl
 clear HOFF
 obtain ⟨W2, hW2⟩ : ∃ W2, w1.setCell ⟨bi, 6, none⟩ (.bool true) = W2 := ⟨_, rfl⟩
 obtain ⟨D2, hD2⟩ : ∃ D2 : SpD, { ds[i] with en := true } = D2 := ⟨_, rfl⟩
 have hk2 := (HE1.out true).1
 have hb2 := HB1.out.trans (HE1.out true).2
 rw [hW2] at hk2 hb2
 rw [hD2] at hk2
 have HK2 := Lib.hid hk2
 have HB2 := Lib.hid hb2
 have HS2 : Hid (B0 <= W2.heap.size) := Lib.hid (by rw [<- hW2]; have h1 := HS1.out; have h2 := HB0.out; simp [World.setCell]; omega)
 have HC2 : Hid (W2.heap[bc]? = w.heap[bc]?) := Lib.hid (by rw [<- hW2]; exact HEC.out _)
 have HD2 : Hid (D2.en = true) := Lib.hid (by rw [<- hD2])
 have CK2 := Lib.hid (CK.out W2 hb2 HS2.out)
 obtain ⟨hi2, e2⟩ := HSET.out D2
 obtain ⟨⟨m1, m2, m3⟩, m4, ⟨m6, g6⟩, m7, g7⟩ := HSP.out W2 _ hi2 hk2
 rw [e2, HD2.out] at m6
 clear hk2 hb2 HE1 CK hD2 m7 e2 hi2
 go_wp2_with fail
 clear hW2 c1 c2 c3 c4 c6 f6 c7 f7 d6 m1 m2 m3 m4 m6 g6 g7
 refine CK2.out.mono ?_
 rintro e w3 ⟨rfl, hb⟩
 have HB3 := Lib.hid (HB2.out.trans (hb.mono HS2.out))
 have HS3 : Hid (B0 <= w3.heap.size) := Lib.hid (Nat.le_trans HS2.out hb.size)
 have HK3 := Lib.hid (HK2.out.below hb)
 have HC3 : Hid (w3.heap[bc]? = w.heap[bc]?) := Lib.hid ((hb.block bc HK2.out.lt).trans HC2.out)
 clear hb CK2
 by_cases h3 : k3 = 0
 rotate_left
 ·have q : (k3 != 0) = true := by rw [bne_iff_ne]; exact h3
  have HO := Lib.hid h3
  clear h3
  go_wp2
  go_ret
  exact ⟨k3, D2, rfl, HK3.out, HB3.out, HC3.out, (HNP.out _ _).2 (by rw [if_neg (by simp)]; exact ⟨HD2.out, by rw [if_neg (by simp), if_pos HO.out]⟩)⟩
 subst h3
 obtain ⟨hi2, e2⟩ := HSET.out D2
 obtain ⟨⟨c1, c2, c3⟩, c4, ⟨c6, f6⟩, c7, f7⟩ := HSP.out w3 _ hi2 HK3.out
 rw [e2] at c6 c7
 obtain ⟨eni, heni⟩ : ∃ eni, D2.en = eni := ⟨_, rfl⟩
 obtain ⟨kdi, hkdi⟩ : ∃ kdi, D2.kd = kdi := ⟨_, rfl⟩
 rw [heni] at c6
 rw [hkdi] at c7
 have hks := HSK.out w3 D2 k1 HK3.out
 rw [List.set_set] at hks
 have hD3 : ({ (ds.set i D2)[i] with kd := k1 } : SpD) = { D2 with kd := k1 } := by rw [e2]
 rw [hD3] at hks
 obtain ⟨D3, hD⟩ : ∃ D3 : SpD, { D2 with kd := k1 } = D3 := ⟨_, rfl⟩
 rw [hD] at hks
 have HD3 : Hid (D3.en = true /\ D3.kd = k1) := Lib.hid ⟨by rw [<- hD]; exact HD2.out, by rw [<- hD]⟩
 obtain ⟨W4, hW4⟩ : ∃ W4, w3.setCell ⟨bi, 7, none⟩ (.int .i64 k1) = W4 := ⟨_, rfl⟩
 rw [hW4] at hks
 have HK4 := Lib.hid hks.1
 have HB4 := Lib.hid (HB3.out.trans hks.2)
 have HS4 : Hid (B0 <= W4.heap.size) := Lib.hid (by rw [<- hW4]; have h1 := HS3.out; simp [World.setCell]; omega)
 have HC4 : Hid (W4.heap[bc]? = w.heap[bc]?) := Lib.hid (by rw [<- hW4]; exact (Below.heap_setCell _ _ _ _ (HNB.out _ _ hi2 HK3.out)).trans HC3.out)
 have CB4 := Lib.hid (HCB.out W4 D3 HB4.out HS4.out HK4.out)
 have CD4 := Lib.hid (CD.out W4 D3 HB4.out HS4.out HK4.out)
 clear hks hD hD3 heni hkdi e2 hi2 CD HCB HSK HSE
 have HFIN : Hid (∀ W er d', Chk W t bc xs (ds.set i d') -> Below B0 w W -> W.heap[bc]? = w.heap[bc]? -> d'.en = true -> d'.kd = k1 -> (if k1 = 1 then er = busP xs[a].y xs[i].y
   else if k1 ≠ 0 then (er = 0 ↔ UpB xs ds xs[i].z /\ winB t.root (xs[i].z.map Int.ofNat) xs[i].z.length k1 = true /\ linB t.root xs[i].y (xs[i].z.map Int.ofNat) k1 = true) /\ (er = 0 -> qce_ t.root (xs[i].z.map Int.ofNat) = .ok d'.ws)
   else er = if k2 then 15 else 0) -> qoe_ t B0 bc xs ds i xs[i] xs[a] ds[i] true w (.returned (.int .i64 er)) W) := Lib.hid (fun W er d' h1 h2 h6 h3 h4 h5 => ⟨er, d', rfl, h1, h2, h6, (HNP.out _ _).2 (by
  rw [if_neg (by simp)]
  refine ⟨h3, ?_⟩
  rw [if_neg (by simp), if_neg (by simp)]
  exact ⟨h4, h5⟩)⟩)
 by_cases hk1 : k1 = 1
 ·subst hk1
  go_wp2_with fail
  refine CB4.out.mono ?_
  rintro e w5 ⟨rfl, hb⟩
  clear c1 c2 c3 c4 c6 f6 c7 f7 hW4
  have HB5 := Lib.hid (HB4.out.trans (hb.mono HS4.out))
  have HK5 := Lib.hid (HK4.out.below hb)
  have HC5 : Hid (w5.heap[bc]? = w.heap[bc]?) := Lib.hid ((hb.block bc HK4.out.lt).trans HC4.out)
  clear hb CB4 CD4
  go_wp2
  go_ret
  exact HFIN.out _ _ D3 HK5.out HB5.out HC5.out HD3.out.1 HD3.out.2 (by simp)
 by_cases hk0 : k1 = 0
 ·subst hk0
  cases k2
  ·go_wp2_with fail
   go_ret
   exact HFIN.out _ 0 D3 HK4.out HB4.out HC4.out HD3.out.1 HD3.out.2 (by simp)
  ·go_wp2_with fail
   go_ret
   exact HFIN.out _ 15 D3 HK4.out HB4.out HC4.out HD3.out.1 HD3.out.2 (by simp)
 have q1 : (k1 == 1) = false := by rw [beq_eq_false_iff_ne]; exact hk1
 have q0 : (k1 != 0) = true := by rw [bne_iff_ne]; exact hk0
 go_wp2_with fail
 refine CD4.out.mono ?_
 rintro e w5 ⟨er, d', rfl, hc, hen, hkd, hb, hiff, hws, hbc⟩
 clear c1 c2 c3 c4 c6 f6 c7 f7 hW4
 obtain ⟨hi2, e2⟩ := HSET.out D3
 rw [e2] at hen hkd hiff
 rw [List.set_set] at hc
 have hn1 : ¬ k1 = 1 := hk1
 have hres := HFIN.out w5 er d' hc (HB4.out.trans hb) (hbc.trans HC4.out) (hen.trans HD3.out.1) (hkd.trans HD3.out.2) (by
  rw [if_neg hk1, if_pos hk0]
  refine ⟨hiff.trans ?_, hws⟩
  unfold DevB
  rw [HUP.out, HD3.out.2])
 have HRES := Lib.hid hres
 clear hc hen hkd hb hiff hws hbc hres CD4 CB4 e2 hi2
 go_wp2
 go_ret
 exact HRES.out
theorem qmv_ : (Tryz.prog.info? 75).map (fun i => (i.zero, i.size, i.bytes)) = some (some (.pointer none), 1, 8) := by kernel_rfl
theorem app_ptr {w : World} {v : Value} {n : Nat} {bs : List Nat} (h : w.ownsRow 0 75 1 v n (bs.map bptr)) (b : Nat) (hn : n <= 4398046511104) :
  ∃ A' c' w', (Builtin.append_ #[72, 72] 72 #[v, .slice (some ⟨w.heap.size, 0, none⟩) 1 1]).run Tryz.prog (w.alloc (.cells #[bptr b] 75)) = .ok (.slice A' (n + 1) c') w' /\ w'.ownsRow 0 75 1 (.slice A' (n + 1) c') (n + 1) ((bs ++ [b]).map bptr) /\
   Chg (fun g => v.ownBlock = some g) w w' /\ ((Value.slice A' (n + 1) c').ownBlock = v.ownBlock \/ ∃ g, (Value.slice A' (n + 1) c').ownBlock = some g /\ w.heap.size <= g) := by
 obtain ⟨i0, hi, hz, hs1, hby⟩ := qaw_ qmv_
 have hl : (bs.map bptr).length = n := by have := h.1; omega
 have h1 : (w.alloc (.cells #[bptr b] 75)).ownsRow 0 75 1 v (bs.map bptr).length (bs.map bptr) := by rw [hl]; exact h.alloc _
 have hc : Cel (w.alloc (.cells #[bptr b] 75)) (w.heap.size + 1) (some ⟨w.heap.size, 0, none⟩) 1 [bptr b] := ⟨rfl, fun _ => ⟨w.heap.size, 0, rfl, Nat.lt_succ_self _, fun i hi => by
  obtain rfl : i = 0 := by omega
  exact World.cell?_alloc_new _ _ _ _⟩⟩
 obtain ⟨v', w', r, g1, g2, g3⟩ := qlt_ Tryz.underlying72 hi hz hs1 hby rfl 1 h1 hc (fun u hu => by rw [List.mem_singleton.1 hu]; rfl) (by rw [hl]; simp only [List.length_singleton]; omega) (by rw [hl]; simp only [List.length_singleton]; omega) (by simp) 72
 rw [List.length_append, hl] at g1
 have g1' : w'.ownsRow 0 75 1 v' (n + 1) ((bs ++ [b]).map bptr) := by rw [List.map_append]; exact g1
 obtain ⟨A', c', rfl, _⟩ := qai_ g1'
 refine ⟨A', c', w', r, g1', (Chg.ofBelow ((Below.refl w.heap.size w).alloc (Nat.le_refl _) _)).trans (F' := fun g => v.ownBlock = some g) (Chg.ofGrown g2 (fun g e => e)) (fun g _ e => e), ?_⟩
 rcases g3 with e | e
 ·exact .inl e
 ·exact .inr ⟨_, e, by simp⟩
structure AddI (t : Tr) (bc : Nat) (w : World) (D : List Nat) (A0 : Option Addr) (c0 : Nat) (r : SpR) (d : SpD) (i : Nat) (rest : List SpR) (kA : Option Addr) (kc : Nat) (ks : List Nat) (A : Option Addr) (c : Nat) (W : World) : Prop where
 cbox : W.heap[bc]? = some (chkO t A (D.length + 1 + rest.length) c)
 srow : W.ownsRow 0 75 1 (.slice A (D.length + 1 + rest.length) c) (D.length + 1 + rest.length) ((D ++ r.b :: rest.map SpR.b).map bptr)
 rbox : W.heap[r.b]? = some (spO { r with kA := kA, kc := kc, ks := ks } d)
 box : ∀ q ∈ rest, W.heap[q.b]? = some (spO q SpD.zero)
 new : ∀ q ∈ rest, w.heap.size <= q.b
 nod : (rest.map SpR.b).Nodup
 stat : ∀ q ∈ rest, SpStat W t.root (r.bz :: rest.map SpR.bz) q
 kl : ks.length = i
 krow : W.ownsRow 0 75 1 (.slice kA i kc) i (ks.map bptr)
 kown : ∀ g, (Value.slice kA i kc).ownBlock = some g -> w.heap.size <= g /\ (Value.slice A (D.length + 1 + rest.length) c).ownBlock ≠ some g
 down : ∀ j (h : j < ks.length), (ks[j], r.z ++ [j]) ∈ rest.map SpR.bz
 rk : ∀ q ∈ rest, ∀ g, q.kv.ownBlock = some g -> w.heap.size <= g /\ (Value.slice A (D.length + 1 + rest.length) c).ownBlock ≠ some g /\ (Value.slice kA i kc).ownBlock ≠ some g
 zs : rest.map SpR.z = qaf_ (r.y.kids.take i) r.z 0
 chg : Chg (fun g => g = bc \/ g = r.b \/ (Value.slice A0 D.length c0).ownBlock = some g) w W
 sown : (Value.slice A (D.length + 1 + rest.length) c).ownBlock = (Value.slice A0 D.length c0).ownBlock \/ ∃ g, (Value.slice A (D.length + 1 + rest.length) c).ownBlock = some g /\ w.heap.size <= g
section
theorem Chg.below0 {F : Nat -> Prop} {w w' : World} (h : Chg F w w') {B : Nat} (hB : B <= w.heap.size) (hF : ∀ g, F g -> B <= g) : Below B w w' := h.below hB hF
theorem sp_set5 {W : World} {r : SpR} {d : SpD} (h : W.heap[r.b]? = some (spO r d)) (kA : Option Addr) (kc : Nat) (ks : List Nat) : (W.setCell ⟨r.b, 5, none⟩ (.slice kA ks.length kc)).heap[r.b]? = some (spO { r with kA := kA, kc := kc, ks := ks } d) := by
 simp [World.setCell, Array.getElem?_modify, h, spO]
theorem chk_set5 {W : World} {bc : Nat} {t : Tr} {A : Option Addr} {n c : Nat} (h : W.heap[bc]? = some (chkO t A n c)) (A' : Option Addr) (n' c' : Nat) : (W.setCell ⟨bc, 5, none⟩ (.slice A' n' c')).heap[bc]? = some (chkO t A' n' c') := by
 simp [World.setCell, Array.getElem?_modify, h, chkO]
section
variable {t : Tr} {bc : Nat} {w : World} {D : List Nat} {A0 : Option Addr} {c0 : Nat} {r : SpR} {d : SpD} {i : Nat} {rest : List SpR} {kA : Option Addr} {kc : Nat} {ks : List Nat} {A : Option Addr} {c : Nat} {W : World}
theorem AddI.lt (h : AddI t bc w D A0 c0 r d i rest kA kc ks A c W) : bc < W.heap.size /\ r.b < W.heap.size /\ ∀ q ∈ rest, q.b < W.heap.size :=
 ⟨(Array.getElem?_eq_some_iff.1 h.cbox).1, (Array.getElem?_eq_some_iff.1 h.rbox).1, fun q hq => (Array.getElem?_eq_some_iff.1 (h.box q hq)).1⟩
theorem AddI.on {W' : World} (h : AddI t bc w D A0 c0 r d i rest kA kc ks A c W) (hb : Below W.heap.size W W') : AddI t bc w D A0 c0 r d i rest kA kc ks A c W' := by
 obtain ⟨l1, l2, l3⟩ := h.lt
 refine ⟨(hb.block _ l1).trans h.cbox, qb6_ h.srow (fun g hg => hb.block g (qak_ h.srow g hg).1), (hb.block _ l2).trans h.rbox, fun q hq => (hb.block _ (l3 q hq)).trans (h.box q hq), h.new, h.nod, fun q hq => (h.stat q hq).keep' (fun g hg => hb.block g ((h.stat q hq).rtyp g hg).1) (fun g hg => hb.block g ((h.stat q hq).ktyp g hg).1), h.kl, qb6_ h.krow (fun g hg => hb.block g (qak_ h.krow g hg).1), h.kown, h.down, h.rk, h.zs, ?_, h.sown⟩
 exact h.chg.trans (F' := fun _ => False) (Chg.ofBelow hb) (fun g _ e => e.elim)
structure AddK (t : Tr) (bc : Nat) (w : World) (D : List Nat) (A0 : Option Addr) (c0 : Nat) (r : SpR) (d : SpD) (i : Nat) (rest : List SpR) (kA : Option Addr) (kc : Nat) (ks : List Nat) (A : Option Addr) (c : Nat) (k : SpR) (W : World) : Prop where
 cbox : W.heap[bc]? = some (chkO t A (D.length + 1 + rest.length) c)
 srow : W.ownsRow 0 75 1 (.slice A (D.length + 1 + rest.length) c) (D.length + 1 + rest.length) ((D ++ r.b :: rest.map SpR.b).map bptr)
 rbox : W.heap[r.b]? = some (spO { r with kA := kA, kc := kc, ks := ks ++ [k.b] } d)
 kbox : W.heap[k.b]? = some (spO k SpD.zero)
 box : ∀ q ∈ rest, W.heap[q.b]? = some (spO q SpD.zero)
 new : ∀ q ∈ rest, w.heap.size <= q.b /\ q.b < k.b
 knew : w.heap.size <= k.b /\ r.b < k.b
 nod : (rest.map SpR.b).Nodup
 stat : ∀ q ∈ rest, SpStat W t.root (r.bz :: rest.map SpR.bz) q
 kl : ks.length = i
 krow : W.ownsRow 0 75 1 (.slice kA (i + 1) kc) (i + 1) ((ks ++ [k.b]).map bptr)
 kown : ∀ g, (Value.slice kA (i + 1) kc).ownBlock = some g -> w.heap.size <= g /\ (Value.slice A (D.length + 1 + rest.length) c).ownBlock ≠ some g
 down : ∀ j (h : j < ks.length), (ks[j], r.z ++ [j]) ∈ rest.map SpR.bz
 rk : ∀ q ∈ rest, ∀ g, q.kv.ownBlock = some g -> w.heap.size <= g /\ (Value.slice A (D.length + 1 + rest.length) c).ownBlock ≠ some g /\ (Value.slice kA (i + 1) kc).ownBlock ≠ some g
 zs : rest.map SpR.z = qaf_ (r.y.kids.take i) r.z 0
 chg : Chg (fun g => g = bc \/ g = r.b \/ (Value.slice A0 D.length c0).ownBlock = some g) w W
 sown : (Value.slice A (D.length + 1 + rest.length) c).ownBlock = (Value.slice A0 D.length c0).ownBlock \/ ∃ g, (Value.slice A (D.length + 1 + rest.length) c).ownBlock = some g /\ w.heap.size <= g
 prow : W.ownsRow 0 3 1 k.row k.z.length (ints k.z)
theorem AddI.kid (h : AddI t bc w D A0 c0 r d i rest kA kc ks A c W) (hw : w.heap.size <= W.heap.size) (hrw : r.b < w.heap.size) (k : SpR) (hkb : k.b = W.heap.size) (hrow : W.ownsRow 0 3 1 k.row k.z.length (ints k.z)) (hi : i <= 4398046511104) :
  ∃ kA' kc' w5, (Builtin.append_ #[72, 72] 72 #[.slice kA i kc, .slice (some ⟨W.heap.size + 1, 0, none⟩) 1 1]).run Tryz.prog ((W.alloc (spO k SpD.zero)).alloc (.cells #[bptr k.b] 75)) = .ok (.slice kA' (i + 1) kc') w5 /\
   w5.heap[r.b]? = some (spO { r with kA := kA, kc := kc, ks := ks } d) /\ AddK t bc w D A0 c0 r d i rest kA' kc' ks A c k (w5.setCell ⟨r.b, 5, none⟩ (.slice kA' (i + 1) kc')) := by
 have hb4 := (Below.refl W.heap.size W).alloc (Nat.le_refl _) (spO k SpD.zero)
 have h4 := h.on hb4
 have hs4 : (W.alloc (spO k SpD.zero)).heap.size = W.heap.size + 1 := by simp
 have hk4 : (W.alloc (spO k SpD.zero)).heap[k.b]? = some (spO k SpD.zero) := by rw [hkb]; exact heap_alloc_new _ _
 have hp4 : (W.alloc (spO k SpD.zero)).ownsRow 0 3 1 k.row k.z.length (ints k.z) := hrow.alloc _
 obtain ⟨l1, l2, l3⟩ := h.lt
 generalize W.alloc (spO k SpD.zero) = W4 at *
 obtain ⟨kA', kc', w5, r5, o5, b5, n5⟩ := app_ptr h4.krow k.b hi
 rw [hs4] at r5
 -- the row of r's kids is no spot's own, no checker's, not the row of the spots
 have hty : ∀ g, (Value.slice kA i kc).ownBlock = some g -> ∃ arr, W4.heap[g]? = some (.cells arr 75 (0, 0)) := fun g hg => (qak_ h4.krow g hg).2
 have hkeep : ∀ b, b < W4.heap.size -> (∀ arr, W4.heap[b]? ≠ some (.cells arr 75 (0, 0))) -> w5.heap[b]? = W4.heap[b]? := fun b hb hn => b5.block b hb (fun e => by
  obtain ⟨arr, e2⟩ := hty b e
  exact hn arr e2)
 have hsp : ∀ {q : SpR} {x : SpD}, W4.heap[q.b]? = some (spO q x) -> w5.heap[q.b]? = some (spO q x) := fun {q x} e => (hkeep q.b (Array.getElem?_eq_some_iff.1 e).1 (fun arr e2 => absurd (qag_ e e2) (by decide))).trans e
 have hrb5 : w5.heap[r.b]? = some (spO { r with kA := kA, kc := kc, ks := ks } d) := hsp (q := { r with kA := kA, kc := kc, ks := ks }) h4.rbox
 have hcb5 : w5.heap[bc]? = some (chkO t A (D.length + 1 + rest.length) c) := (hkeep bc (by omega) (fun arr e2 => absurd (qag_ h4.cbox e2) (by decide))).trans h4.cbox
 have hbr : bc ≠ r.b := fun e => by
  have h1 := h4.cbox
  rw [e] at h1
  exact absurd (qag_ h1 h4.rbox) (by decide)
 have hset : ∀ b, b ≠ r.b -> (w5.setCell ⟨r.b, 5, none⟩ (.slice kA' (i + 1) kc')).heap[b]? = w5.heap[b]? := fun b hb => Below.heap_setCell _ _ _ _ hb
 have hown : ∀ {e : TypeId} {n : Nat} {v : Value} {xs : List Value}, W4.ownsRow 0 e 1 v n xs -> e ≠ 80 -> (∀ g, v.ownBlock = some g -> (Value.slice kA i kc).ownBlock ≠ some g) -> (w5.setCell ⟨r.b, 5, none⟩ (.slice kA' (i + 1) kc')).ownsRow 0 e 1 v n xs := fun {e n v xs} ho he hn => qb6_ ho (fun g hg => by
  obtain ⟨h1, arr, h2⟩ := qak_ ho g hg
  rw [hset g (fun e3 => by
   subst e3
   exact he (qag_ h2 h4.rbox))]
  exact b5.block g h1 (hn g hg))
 have hks : (ks ++ [k.b]).length = i + 1 := by rw [List.length_append, h.kl]; rfl
 have hnew : ∀ g, (Value.slice kA' (i + 1) kc').ownBlock = some g -> (Value.slice kA i kc).ownBlock = some g \/ W4.heap.size <= g := fun g hg => by
  rcases n5 with e | ⟨g', e, hg'⟩
  ·exact .inl (e ▸ hg)
  ·rw [hg] at e
   cases e
   exact .inr hg'
 refine ⟨kA', kc', w5, r5, hrb5, ⟨(hset _ hbr).trans hcb5, hown h4.srow (by decide) (fun g h1 h2 => (h4.kown g h2).2 h1), ?_, (hset _ (by omega)).trans (hsp hk4), fun q hq => (hset _ (by have := h.new q hq; omega)).trans (hsp (h4.box q hq)), fun q hq => ⟨h.new q hq, by have := l3 q hq; omega⟩, ⟨by omega, by omega⟩, h.nod, fun q hq => ?_, h.kl, ?_, fun g hg => ?_, h.down, fun q hq g hg => ?_, h.zs, ?_, h.sown, hown hp4 (by decide) (fun g h1 h2 => ?_)⟩⟩
 ·have := sp_set5 (r := { r with kA := kA, kc := kc, ks := ks }) hrb5 kA' kc' (ks ++ [k.b])
  rw [hks] at this
  exact this
 ·refine (h4.stat q hq).keep' (fun g hg => ?_) (fun g hg => ?_)
  ·obtain ⟨h1, arr, h2⟩ := (h4.stat q hq).rtyp g hg
   rw [hset g (fun e => by subst e; exact absurd (qag_ h2 h4.rbox) (by decide))]
   exact hkeep g h1 (fun a e => absurd (qag_ h2 e) (by decide))
  ·obtain ⟨h1, arr, h2⟩ := (h4.stat q hq).ktyp g hg
   rw [hset g (fun e => by subst e; exact absurd (qag_ h2 h4.rbox) (by decide))]
   exact b5.block g h1 (h4.rk q hq g hg).2.2
 ·refine qb6_ o5 (fun g hg => hset g (fun e => ?_))
  subst e
  obtain ⟨_, arr, h2⟩ := qak_ o5 _ hg
  exact absurd (qag_ h2 hrb5) (by decide)
 ·rcases hnew g hg with e | e
  ·exact h4.kown g e
  ·refine ⟨by omega, fun e2 => ?_⟩
   have := (qak_ h4.srow g e2).1
   omega
 ·refine ⟨(h4.rk q hq g hg).1, (h4.rk q hq g hg).2.1, fun e => ?_⟩
  rcases hnew g e with e2 | e2
  ·exact (h4.rk q hq g hg).2.2 e2
  ·have := ((h4.stat q hq).ktyp g hg).1
   omega
 ·have h1 : Chg (fun g => g = bc \/ g = r.b \/ (Value.slice A0 D.length c0).ownBlock = some g) w w5 := h4.chg.trans (F' := fun g => (Value.slice kA i kc).ownBlock = some g) b5 (fun g hg e => by have := (h4.kown g e).1; omega)
  exact h1.setCell (.inl (.inr (.inl rfl))) _
 ·obtain ⟨_, arr, h3⟩ := qak_ hp4 g h1
  obtain ⟨arr2, h5⟩ := hty g h2
  exact absurd (qag_ h3 h5) (by decide)
end
end
section
variable {t : Tr} {bc : Nat} {w : World} {D : List Nat} {A0 : Option Addr} {c0 : Nat} {r : SpR} {d : SpD} {i : Nat} {rest : List SpR} {kA : Option Addr} {kc : Nat} {ks : List Nat} {A : Option Addr} {c : Nat} {k : SpR} {W : World}
theorem AddK.next (h : AddK t bc w D A0 c0 r d i rest kA kc ks A c k W) (hw : w.heap.size <= W.heap.size) (hrw : r.b < w.heap.size) {restk : List SpR} {kA' : Option Addr} {kc' : Nat} {ks' : List Nat} {A' : Option Addr} {c' : Nat} {W' : World}
  (hn : AddI t bc W (D ++ r.b :: rest.map SpR.b) A c k SpD.zero k.y.kids.length restk kA' kc' ks' A' c' W') (hz : k.z = r.z ++ [i]) (hab : k.ab = some r.b) (hnode : qaj_ t.root k.z = some k.y) (hcap : k.z.length <= k.c /\ k.c <= 9223372036854775807) (hiy : i < r.y.kids.length) (hky : k.y = r.y.kids[i]) :
  AddI t bc w D A0 c0 r d (i + 1) (rest ++ { k with kA := kA', kc := kc', ks := ks' } :: restk) kA kc (ks ++ [k.b]) A' c' W' := by
 have hD : (D ++ r.b :: rest.map SpR.b).length = D.length + 1 + rest.length := by simp; omega
 have hl1 : (D ++ r.b :: rest.map SpR.b).length + 1 + restk.length = D.length + 1 + (rest ++ { k with kA := kA', kc := kc', ks := ks' } :: restk).length := by rw [hD, List.length_append, List.length_cons]; omega
 have hc1 := hn.cbox
 have hs1 := hn.srow
 have hsn := hn.sown
 have hkn := hn.kown
 have hrn := hn.rk
 have hchg := hn.chg
 rw [hl1] at hc1 hs1 hsn hkn hrn
 rw [hD] at hsn hchg
 have lkb : k.b < W.heap.size := (Array.getElem?_eq_some_iff.1 h.kbox).1
 have lrb : r.b < W.heap.size := (Array.getElem?_eq_some_iff.1 h.rbox).1
 have lrest : ∀ q ∈ rest, q.b < W.heap.size := fun q hq => (Array.getElem?_eq_some_iff.1 (h.box q hq)).1
 have hsW : W.heap.size <= W'.heap.size := hchg.size
 -- what stays: spots other than k, rows of ints, rows of pointers that are not the spots' own
 have hspot : ∀ {q : SpR} {x : SpD}, q.b ≠ k.b -> W.heap[q.b]? = some (spO q x) -> W'.heap[q.b]? = some (spO q x) := fun {q x} hne e => (hchg.block q.b (Array.getElem?_eq_some_iff.1 e).1 (fun e2 => by
  rcases e2 with e2 | e2 | e2
  ·have h3 := h.cbox
   rw [<- e2] at h3
   exact absurd (qag_ e h3) (by decide)
  ·exact hne e2
  ·obtain ⟨_, arr, h3⟩ := qak_ h.srow _ e2
   exact absurd (qag_ e h3) (by decide))).trans e
 have hrow : ∀ {e : TypeId} {n : Nat} {v : Value} {xs : List Value}, W.ownsRow 0 e 1 v n xs -> e ≠ 80 -> e ≠ 74 -> (∀ g, v.ownBlock = some g -> (Value.slice A (D.length + 1 + rest.length) c).ownBlock ≠ some g) -> ∀ g, v.ownBlock = some g -> W'.heap[g]? = W.heap[g]? := fun {e n v xs} ho h1 h2 h3 g hg => by
  obtain ⟨hl, arr, h4⟩ := qak_ ho g hg
  exact hchg.block g hl (fun e2 => by
   rcases e2 with e2 | e2 | e2
   ·have h5 := h.cbox
    rw [<- e2] at h5
    exact h2 (qag_ h4 h5)
   ·have h5 := h.kbox
    rw [<- e2] at h5
    exact h1 (qag_ h4 h5)
   ·exact h3 g hg e2)
 have hint : ∀ {n : Nat} {v : Value} {xs : List Value}, W.ownsRow 0 3 1 v n xs -> ∀ g, v.ownBlock = some g -> W'.heap[g]? = W.heap[g]? := fun {n v xs} ho => hrow ho (by decide) (by decide) (fun g h1 h2 => by
  obtain ⟨_, arr, h4⟩ := qak_ ho g h1
  obtain ⟨_, arr2, h5⟩ := qak_ h.srow g h2
  exact absurd (qag_ h4 h5) (by decide))
 have hA' : ∀ g, g < W.heap.size -> (Value.slice A (D.length + 1 + rest.length) c).ownBlock ≠ some g -> (Value.slice A' (D.length + 1 + (rest ++ { k with kA := kA', kc := kc', ks := ks' } :: restk).length) c').ownBlock ≠ some g := fun g hg hne e => by
  rcases hsn with e2 | ⟨g2, e2, h2⟩
  ·exact hne (e2 ▸ e)
  ·rw [e] at e2
   cases e2
   omega
 refine ⟨hc1, ?_, hspot (q := { r with kA := kA, kc := kc, ks := ks ++ [k.b] }) (by have := h.knew; show r.b ≠ k.b; omega) h.rbox, ?_, ?_, ?_, ?_, ?_, qb6_ h.krow ?_, ?_, ?_, ?_, ?_, ?_, ?_⟩
 ·have e : (D ++ r.b :: rest.map SpR.b) ++ k.b :: restk.map SpR.b = D ++ r.b :: (rest ++ { k with kA := kA', kc := kc', ks := ks' } :: restk).map SpR.b := by simp
  rw [<- e]
  exact hs1
 ·intro q hq
  rcases List.mem_append.1 hq with hq | hq
  ·exact hspot (by have := (h.new q hq).2; omega) (h.box q hq)
  ·rcases List.mem_cons.1 hq with rfl | hq
   ·exact hn.rbox
   ·exact hn.box q hq
 ·intro q hq
  rcases List.mem_append.1 hq with hq | hq
  ·exact (h.new q hq).1
  ·rcases List.mem_cons.1 hq with rfl | hq
   ·exact h.knew.1
   ·have := hn.new q hq
    omega
 ·rw [List.map_append, List.nodup_append]
  refine ⟨h.nod, ?_, ?_⟩
  ·rw [List.map_cons, List.nodup_cons]
   refine ⟨fun hm => ?_, hn.nod⟩
   obtain ⟨q, hq, e⟩ := List.mem_map.1 hm
   have := hn.new q hq
   change q.b = k.b at e
   omega
  ·intro a ha b hb e
   subst e
   obtain ⟨q, hq, rfl⟩ := List.mem_map.1 ha
   rw [List.map_cons, List.mem_cons] at hb
   have h1 := (h.new q hq).2
   have h2 := lrest q hq
   rcases hb with e | hb
   ·change q.b = k.b at e
    omega
   ·obtain ⟨q2, hq2, e⟩ := List.mem_map.1 hb
    have := hn.new q2 hq2
    omega
 ·intro q hq
  have hsub1 : ∀ x ∈ r.bz :: rest.map SpR.bz, x ∈ r.bz :: (rest ++ { k with kA := kA', kc := kc', ks := ks' } :: restk).map SpR.bz := fun x hx => by
   simp only [List.map_append, List.mem_cons, List.mem_append] at hx ⊢
   rcases hx with hx | hx
   ·exact .inl hx
   ·exact .inr (.inl hx)
  have hsub2 : ∀ x ∈ k.bz :: restk.map SpR.bz, x ∈ r.bz :: (rest ++ { k with kA := kA', kc := kc', ks := ks' } :: restk).map SpR.bz := fun x hx => by
   simp only [List.map_append, List.map_cons, List.mem_cons, List.mem_append] at hx ⊢
   exact .inr (.inr hx)
  rcases List.mem_append.1 hq with hq | hq
  ·refine ((h.stat q hq).keep' (hint (h.stat q hq).row) ?_).sub hsub1
   exact hrow (h.stat q hq).kids (by decide) (by decide) (fun g hg => (h.rk q hq g hg).2.1)
  ·rcases List.mem_cons.1 hq with rfl | hq
   ·refine ⟨hnode, hcap, qb6_ h.prow (hint h.prow), ?_, .inr ⟨r.bz, List.mem_cons_self .., hab, i, hz⟩, ?_, fun j hj => ?_⟩
    ·have := hn.krow
     rw [<- hn.kl] at this
     exact this
    ·exact hn.kl
    ·exact hsub2 _ (List.mem_cons_of_mem _ (hn.down j hj))
   ·exact (hn.stat q hq).sub hsub2
 ·rw [List.length_append, h.kl]; rfl
 ·exact hrow h.krow (by decide) (by decide) (fun g hg => (h.kown g hg).2)
 ·intro g hg
  have h1 := h.kown g hg
  exact ⟨h1.1, hA' g (qak_ h.krow g hg).1 h1.2⟩
 ·intro j hj
  rw [List.length_append, h.kl] at hj
  simp only [List.length_singleton] at hj
  rcases Nat.lt_or_ge j i with h1 | h1
  ·have h2 : j < ks.length := by rw [h.kl]; exact h1
   rw [List.getElem_append_left h2, List.map_append]
   exact List.mem_append_left _ (h.down j h2)
  ·obtain rfl : j = i := by omega
   rw [List.getElem_append_right (by rw [h.kl]; exact Nat.le_refl _), List.map_append]
   refine List.mem_append_right _ ?_
   rw [List.map_cons, List.mem_cons]
   left
   refine Prod.ext ?_ ?_
   ·simp [SpR.bz]
   ·exact hz.symm
 ·intro q hq g hg
  rcases List.mem_append.1 hq with hq | hq
  ·have h1 := h.rk q hq g hg
   exact ⟨h1.1, hA' g ((h.stat q hq).ktyp g hg).1 h1.2.1, h1.2.2⟩
  ·rcases List.mem_cons.1 hq with rfl | hq
   ·have hg2 : (Value.slice kA' k.y.kids.length kc').ownBlock = some g := by
     have e := hn.kl
     rw [<- e]
     exact hg
    have h1 := hkn g hg2
    exact ⟨by omega, h1.2, fun e => by have := (qak_ h.krow g e).1; omega⟩
   ·have h1 := hrn q hq g hg
    exact ⟨by omega, h1.2.1, fun e => by have := (qak_ h.krow g e).1; omega⟩
 ·rw [List.map_append, List.map_cons, h.zs, hn.zs, qbz_ _ _ _ hiy, List.take_length, qa5_, <- hky, <- hz]
 ·refine h.chg.trans hchg (fun g hg e => ?_)
  rcases e with e | e | e
  ·exact .inl e
  ·have := h.knew.1
   omega
  ·rcases h.sown with e2 | ⟨g2, e2, h2⟩
   ·exact .inr (.inr (e2 ▸ e))
   ·rw [e] at e2
    cases e2
    omega
 ·rcases hsn with e | ⟨g, e, h1⟩
  ·rcases h.sown with e2 | ⟨g2, e2, h2⟩
   ·exact .inl (e.trans e2)
   ·exact .inr ⟨g2, e.trans e2, h2⟩
  ·exact .inr ⟨g, e, by omega⟩
theorem AddI.start {w1 : World} (hc : w.heap[bc]? = some (chkO t A0 D.length c0)) (hr : w.heap[r.b]? = some (spO r d)) (hks : r.ks = []) (hkA : r.kA = none) (hkc : r.kc = 0) {A' : Option Addr} {c' : Nat} (hs : w.ownsRow 0 75 1 (.slice A0 D.length c0) D.length (D.map bptr))
  (ho : w1.ownsRow 0 75 1 (.slice A' (D.length + 1) c') (D.length + 1) ((D ++ [r.b]).map bptr)) (hb : Chg (fun g => (Value.slice A0 D.length c0).ownBlock = some g) w w1) (hn : (Value.slice A' (D.length + 1) c').ownBlock = (Value.slice A0 D.length c0).ownBlock \/ ∃ g, (Value.slice A' (D.length + 1) c').ownBlock = some g /\ w.heap.size <= g) :
  AddI t bc w D A0 c0 r d 0 [] none 0 [] A' c' (w1.setCell ⟨bc, 5, none⟩ (.slice A' (D.length + 1) c')) := by
 have hbr : r.b ≠ bc := fun e => by
  rw [e] at hr
  exact absurd (qag_ hr hc) (by decide)
 have hc1 : w1.heap[bc]? = some (chkO t A0 D.length c0) := (hb.block bc (Array.getElem?_eq_some_iff.1 hc).1 (fun e => by
  obtain ⟨_, arr, h⟩ := qak_ hs bc e
  exact absurd (qag_ h hc) (by decide))).trans hc
 have hr1 : w1.heap[r.b]? = some (spO r d) := (hb.block r.b (Array.getElem?_eq_some_iff.1 hr).1 (fun e => by
  obtain ⟨_, arr, h⟩ := qak_ hs r.b e
  exact absurd (qag_ h hr) (by decide))).trans hr
 refine ⟨chk_set5 hc1 A' (D.length + 1) c', qb6_ ho (fun g hg => Below.heap_setCell _ _ _ _ (fun e => ?_)), ?_, fun q hq => (by cases hq), fun q hq => (by cases hq), List.nodup_nil, fun q hq => (by cases hq), rfl, World.ownsRow_nil _ _ _ _, fun g hg => (by cases hg), fun j hj => (by cases hj), fun q hq => (by cases hq), by simp [qaf_], ?_, hn⟩
 ·subst e
  obtain ⟨_, arr, h⟩ := qak_ ho _ hg
  exact absurd (qag_ h hc1) (by decide)
 ·rw [Below.heap_setCell _ _ _ _ hbr, hr1, <- hkA, <- hkc, <- hks]
 ·have h1 : Chg (fun g => g = bc \/ g = r.b \/ (Value.slice A0 D.length c0).ownBlock = some g) w w1 := hb.mono (fun g _ e => .inr (.inr e))
  exact h1.setCell (.inl (.inl rfl)) _
end
end Go.Proofs.YtcfinbapfhhpgaaGreatDoor
