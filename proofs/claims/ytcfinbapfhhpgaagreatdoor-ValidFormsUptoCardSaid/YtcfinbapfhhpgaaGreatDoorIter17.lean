/-
  Iter, part 17.
-/
import Derived.Test.YtcfinbapfhhpgaaGreatDoorIter15
import Derived.Test.YtcfinbapfhhpgaaGreatDoorIter16
import Derived.Deep.LoopGhost
namespace Go.Proofs.YtcfinbapfhhpgaaGreatDoor
open Go.RowKit
set_option linter.unusedVariables false
set_option linter.unusedSimpArgs false
set_option maxRecDepth 20000
set_option maxHeartbeats 16000000
def UpB (xs : List SpR) (ds : List SpD) (z : List Nat) : Prop := ∀ j (h : j < xs.length) (h' : j < ds.length), xs[j].z ≠ [] -> (∃ s, s ≠ [] /\ z = xs[j].z ++ s) -> ds[j].kd = 1
def UpTo (xs : List SpR) (ds : List SpD) (z : List Nat) (n : Nat) : Prop := ∀ j (h : j < xs.length) (h' : j < ds.length), xs[j].z ≠ [] -> (∃ s, s ≠ [] /\ z = xs[j].z ++ s) -> n < xs[j].z.length -> ds[j].kd = 1
theorem UpTo.all {xs : List SpR} {ds : List SpD} {z : List Nat} (h : UpTo xs ds z 0) : UpB xs ds z := fun j hj hj' h0 hs => h j hj hj' h0 hs (by
 rcases hx : xs[j].z with _ | ⟨a, l⟩
 ·exact absurd hx h0
 ·simp)
theorem UpTo.step {xs : List SpR} {ds : List SpD} {z : List Nat} {j n : Nat} (hz : (xs.map SpR.z).Nodup) (hj : j < xs.length) (hj' : j < ds.length) (hs : ∃ s, s ≠ [] /\ z = xs[j].z ++ s) (h : UpTo xs ds z xs[j].z.length) (hk : ds[j].kd = 1) (hn : n + 1 = xs[j].z.length) : UpTo xs ds z n := fun j2 h2 h2' h0 hs2 hl => by
 rcases Nat.lt_or_ge xs[j].z.length xs[j2].z.length with h3 | h3
 ·exact h j2 h2 h2' h0 hs2 h3
 ·have h4 : xs[j2].z.length = xs[j].z.length := by omega
  obtain ⟨s1, _, e1⟩ := hs
  obtain ⟨s2, _, e2⟩ := hs2
  have h5 : xs[j2].z = xs[j].z := (List.append_inj (e2.symm.trans e1) h4).1
  have h6 : (xs.map SpR.z)[j2]'(by rw [List.length_map]; exact h2) = (xs.map SpR.z)[j]'(by rw [List.length_map]; exact hj) := by simpa using h5
  obtain rfl : j2 = j := by
   rcases Nat.lt_trichotomy j2 j with h7 | h7 | h7
   ·exact absurd h6 (List.pairwise_iff_getElem.1 hz j2 j _ _ h7)
   ·exact h7
   ·exact absurd h6.symm (List.pairwise_iff_getElem.1 hz j j2 _ _ h7)
  exact hk
theorem Spots.above {w : World} {R : Nd} {xs : List SpR} {ds : List SpD} (h : Spots w R xs ds) {j : Nat} (hj : j < xs.length) : (xs[j].ab = none /\ xs[j].z = []) \/ ∃ j2 k, ∃ hj2 : j2 < xs.length, xs[j].ab = some xs[j2].b /\ xs[j].z = xs[j2].z ++ [k] := by
 rcases (h.stat _ (List.getElem_mem hj)).up with h1 | ⟨q, hq, h1, k, h2⟩
 ·exact .inl h1
 ·obtain ⟨r, hr, e⟩ := List.mem_map.1 hq
  obtain ⟨j2, hj2, rfl⟩ := List.getElem_of_mem hr
  refine .inr ⟨j2, k, hj2, ?_, ?_⟩
  ·rw [h1, <- e]; rfl
  ·rw [h2, <- e]; rfl
theorem wayR_64c {w : World} {B : Nat} {root y : Nd} {z : List Int} (hin : root.In w B) (h : nodeZ root z = some y) (q : Nat) : ∀ r ∈ (wayR root z q).2.2, R64 r := by
 obtain ⟨x1, h1⟩ := qcv_ h q
 obtain ⟨x2, h2⟩ := qcv_ h (q + 1)
 unfold wayR
 rw [h1, h2]
 exact qc9_ (qa9_ _ hin h1) (qa9_ _ hin h2)
theorem upV_64c {root : Nd} {z : List Int} {s : Int} : ∀ (k : Nat) (a b : Int), (∀ q, ∀ r ∈ (wayR root z q).2.2, R64 r) -> U64 a -> upV root z s k a = some b -> U64 b
 | 0, a, b, _, ha, h => by rw [upV] at h; rw [<- Option.some.inj h]; exact ha
 | k + 1, a, b, hw, ha, h => by
  rw [upV] at h
  split at h
  ·cases h
  ·split at h
   ·cases h
   ·rename_i x hx
    exact upV_64c k x b hw (qnb_ (hw k) ha hx) h
theorem qms_ {U : Int -> Int -> Option Int} (hU : ∀ a s b, U64 a -> U a s = some b -> U64 b) : ∀ (l acc : List (Int × Int)), (∀ x ∈ l, U64 x.1 /\ U64 x.2) -> (∀ x ∈ acc, U64 x.1 /\ U64 x.2) -> ∀ x ∈ (winUp U acc l).2, U64 x.1 /\ U64 x.2
 | [], acc, _, ha, x, hx => by rw [winUp] at hx; exact ha x hx
 | y :: r, acc, hl, ha, x, hx => by
  rw [winUp] at hx
  split at hx
  ·cases hx
  ·rename_i b hb
   refine qms_ hU r (acc ++ [(b, y.2)]) (fun z hz => hl z (List.mem_cons_of_mem _ hz)) (fun z hz => ?_) x hx
   rcases List.mem_append.1 hz with h | h
   ·exact ha z h
   ·rw [List.mem_singleton.1 h]
    have h1 := hl y (List.mem_cons_self ..)
    exact ⟨hU _ _ _ h1.1 hb, h1.2⟩
theorem winsV_64 {w : World} {B : Nat} {root y : Nd} {z : List Int} (hin : root.In w B) (h : nodeZ root z = some y) (n : Nat) : ∀ x ∈ (winsV root z n).2, U64 x.1 /\ U64 x.2 := by
 obtain ⟨x1, h1⟩ := qcv_ h (n - 1)
 obtain ⟨x2, h2⟩ := qcv_ h n
 unfold winsV
 split
 ·intro x hx; cases hx
 ·refine qms_ (fun a s b ha hb => upV_64c _ _ _ (fun q => wayR_64c hin h1 q) ha hb) _ [] (qny_ (by rw [h1]; exact qa9_ _ hin h1) (by rw [h2]; exact qa9_ _ hin h2)) (fun x hx => by cases hx)
def winB (root : Nd) (z : List Int) (n : Nat) (kd : Int) : Bool := (winsV root z n).1 && (match (winsV root z n).2 with
 | [x] => !qd1_ x.1 x.2 && mayB kd x.2
 | _ => false)
noncomputable def linB (root y : Nd) (z : List Int) (kd : Int) : Bool := match qce_ root z with
 | .error _ => false
 | .ok ws => !(decide (kd = 7) && !ctrlB y) && decide ((ws.length : Int) <= mostN kd) && ws.all (fun l => decide (lineP root l.1 l.2 = 0))
def DevB (t : Tr) (xs : List SpR) (ds : List SpD) (i : Nat) (r : SpR) (d : SpD) : Prop := UpB xs ds r.z /\ winB t.root (r.z.map Int.ofNat) r.z.length d.kd = true /\ linB t.root r.y (r.z.map Int.ofNat) d.kd = true
def DevOut (t : Tr) (B0 bc : Nat) (xs : List SpR) (ds : List SpD) (i : Nat) (r : SpR) (d : SpD) (w : World) (e : Ending) (w' : World) : Prop := ∃ (er : Int) (d' : SpD), e = .returned (.int .i64 er) /\ Chk w' t bc xs (ds.set i d') /\ d'.en = d.en /\ d'.kd = d.kd /\ Below B0 w w' /\ (er = 0 ↔ DevB t xs ds i r d) /\ (er = 0 -> qce_ t.root (r.z.map Int.ofNat) = .ok d'.ws) /\ w'.heap[bc]? = w.heap[bc]?
theorem Chk.lt {w : World} {t : Tr} {bc : Nat} {xs : List SpR} {ds : List SpD} (h : Chk w t bc xs ds) : bc < w.heap.size := by
 obtain ⟨⟨A, c, h1, _⟩, _⟩ := h
 exact (Array.getElem?_eq_some_iff.1 h1).1
theorem Chk.ne {w : World} {t : Tr} {bc : Nat} {xs : List SpR} {ds : List SpD} (h : Chk w t bc xs ds) {i : Nat} (hi : i < xs.length) (hi' : i < ds.length) : bc ≠ xs[i].b := fun e => by
 have hx := h.sp.box i hi hi'
 obtain ⟨⟨A, c, h1, _⟩, _⟩ := h
 rw [<- e, h1] at hx
 exact qn7_ (Option.some.inj hx)
theorem dev_err {t : Tr} {B0 bc : Nat} {xs : List SpR} {ds : List SpD} {i : Nat} {w W : World} (hi : i < xs.length) (hi' : i < ds.length) (hk : Chk w t bc xs ds) (hB : B0 <= w.heap.size) (er : Int) (h0 : er ≠ 0) (hb : Below w.heap.size w W) (hn : ¬ DevB t xs ds i xs[i] ds[i]) : DevOut t B0 bc xs ds i xs[i] ds[i] w (.returned (.int .i64 er)) W :=
 ⟨er, ds[i], rfl, by rw [List.set_getElem_self]; exact hk.below hb, rfl, rfl, hb.mono hB, ⟨fun h => absurd h h0, fun h => absurd h hn⟩, fun h => absurd h h0, hb.block bc hk.lt⟩
theorem dev_put {t : Tr} {B0 bc : Nat} {xs : List SpR} {ds : List SpD} {i : Nat} {w W : World} (hi : i < xs.length) (hi' : i < ds.length) (hk : Chk w t bc xs ds) (hB : B0 <= w.heap.size) (hBs : ∀ r ∈ xs, B0 <= r.b) (hb : Below w.heap.size w W) (A : Option Addr) (m c : Nat) (ws : List (List Nat × Int)) (hl : LinesP (fun b => w.heap.size <= b) W A m ws) (h1 : m <= c) (h2 : c <= 9223372036854775807) :
  Chk (W.setCell ⟨xs[i].b, 8, none⟩ (.slice A m c)) t bc xs (ds.set i { ds[i] with A := A, m := m, c := c, ws := ws }) /\ Below B0 w (W.setCell ⟨xs[i].b, 8, none⟩ (.slice A m c)) := by
 have hkW := hk.below hb
 refine ⟨hkW.put hi _ (by simp [World.setCell]) ?_ (fun k hk2 => Below.heap_setCell _ _ _ _ hk2) ⟨hl.mono (fun b _ hb2 hm => ?_), h1, h2⟩, (hb.mono hB).setCell (hBs _ (List.getElem_mem hi)) _⟩
 ·have h3 := hkW.sp.box i hi hi'
  simp [World.setCell, Array.getElem?_modify, h3, spO]
 ·obtain ⟨r, hr, e⟩ := List.mem_map.1 hm
  obtain ⟨j, hj, rfl⟩ := List.getElem_of_mem hr
  have := hk.sp.lt hj
  omega
theorem qmr_ (t : Tr) (B0 bc : Nat) (xs : List SpR) (ds : List SpD) (i : Nat) (w : World) (hi : i < xs.length) (hi' : i < ds.length) (hz0 : xs[i].z ≠ []) (hzn : (xs.map SpR.z).Nodup) (hk : Chk w t bc xs ds) (hin : t.In w B0) (hck : qb5_ t = 0) (hh : heftN t.root <= 134217728) (hB : B0 <= w.heap.size) (hBs : ∀ r ∈ xs, B0 <= r.b) :
  Calls Tryz.prog 47 #[.pointer (some ⟨bc, 0, none⟩), .pointer (some ⟨xs[i].b, 0, none⟩)] w fun e w' => DevOut t B0 bc xs ds i xs[i] ds[i] w e w' := by
 have HERR := Lib.hid (fun er W h0 hb hn => dev_err (W := W) hi hi' hk hB er h0 hb hn)
 have HCT := Lib.hid (fun W (hW : Below B0 w W) (hs : B0 <= W.heap.size) => qnx_ xs[i].y W (((qa9_ _ hin.root ((qa4_ _ _).trans (hk.sp.stat _ (List.getElem_mem hi)).node)).under hW).more hs))
 have HLI := Lib.hid (fun W (hW : Below B0 w W) (hs : B0 <= W.heap.size) A0 n0 c0 hb x y hsh => qpg_ t bc A0 n0 c0 x y W hb ((hin.under hW).more hs) hck hh hsh)
 have HB0 := Lib.hid hB
 have HBC : Hid (∀ W v, Below w.heap.size w W -> (W.setCell ⟨xs[i].b, 8, none⟩ v).heap[bc]? = w.heap[bc]? /\ bc < (W.setCell ⟨xs[i].b, 8, none⟩ v).heap.size) := Lib.hid (fun W v hW => ⟨(Below.heap_setCell _ _ _ _ (hk.ne hi hi')).trans (hW.block bc hk.lt), by have h1 := hW.size; have h2 := hk.lt; simp [World.setCell]; omega⟩)
 have HPUT := Lib.hid (fun W A m c ws hb hl h1 h2 => dev_put (W := W) hi hi' hk hB hBs hb A m c ws hl h1 h2)
 have hst := hk.sp.stat _ (List.getElem_mem hi)
 obtain ⟨pA, pc, ep, hcel, hp1, hp2, _⟩ := qai_ hst.row
 have hep : xs[i].A = pA /\ xs[i].c = pc := by simpa using ep
 obtain ⟨rfl, rfl⟩ := hep
 have hn15 : xs[i].z.length <= 40 := by
  have := qcq_ (qdd_ hck) hst.node
  omega
 have hnz : nodeZ t.root (xs[i].z.map Int.ofNat) = some xs[i].y := (qa4_ _ _).trans hst.node
 have hinW : ∀ W, Below w.heap.size w W -> t.In W W.heap.size := fun W hW => (hin.more hB).on hW
 have CW := Lib.hid (fun W (hW : Below w.heap.size w W) => qn3_ t (xs[i].z.map Int.ofNat) xs[i].A xs[i].z.length xs[i].c W (hinW W hW) (by rw [<- qf3_]; exact hcel.on hW) hp1 hp2 hh hn15 hck)
 have CL := Lib.hid (fun W (hW : Below w.heap.size w W) => qhd_ t (xs[i].z.map Int.ofNat) xs[i].A xs[i].z.length xs[i].c W (hinW W hW) hh (by rw [<- qf3_]; exact hcel.on hW) hp1 hp2)
 have HW64 : Hid (∀ n, ∀ x ∈ (winsV t.root (xs[i].z.map Int.ofNat) n).2, U64 x.1 /\ U64 x.2) := Lib.hid (fun n => winsV_64 hin.root hnz n)
 have HZL : Hid (0 < xs[i].z.length /\ nodeZ t.root (xs[i].z.map Int.ofNat) = some xs[i].y) := Lib.hid ⟨List.length_pos_iff.2 hz0, hnz⟩
 have HSP := Lib.hid (fun W (hW : Below w.heap.size w W) => qaq_ ((hW.block _ (hk.sp.lt hi)).trans (hk.sp.box i hi hi')))
 have HCB : Hid (∀ W, Below w.heap.size w W -> W.cell? ⟨bc, 0, none⟩ = some (.int .u32 t.boot) /\ W.cell? ⟨bc, 1, none⟩ = some (.slice t.ra t.rs.length t.rc) /\ W.cell? ⟨bc, 2, none⟩ = some (.string t.root.name) /\ W.cell? ⟨bc, 3, none⟩ = some (.slice t.root.pa t.root.props.length t.root.pc) /\ W.cell? ⟨bc, 4, none⟩ = some (.slice t.root.ka t.root.kids.length t.root.kc)) := Lib.hid (fun W hW => by
  obtain ⟨A, c, h1, _⟩ := hk.box
  obtain ⟨q0, q1, q2, q3, q4, _⟩ := qbl_ ((hW.block _ (Array.getElem?_eq_some_iff.1 h1).1).trans h1)
  exact ⟨q0, q1, q2, q3, q4⟩)
 have HK := Lib.hid hk
 have HZN := Lib.hid hzn
 obtain ⟨a0, k0, ha0, hab, hzz⟩ : ∃ j2 k, ∃ hj2 : j2 < xs.length, xs[i].ab = some xs[j2].b /\ xs[i].z = xs[j2].z ++ [k] := by
  rcases hk.sp.above hi with ⟨_, h⟩ | h
  ·exact absurd h hz0
  ·exact h
 have hcell := qaq_ (hk.sp.box i hi hi')
 have c4 := hcell.2.2.2.2.1
 rw [hab] at c4
 replace c4 : w.cell? ⟨xs[i].b, 4, none⟩ = some (.pointer (some ⟨xs[a0].b, 0, none⟩)) := c4
 have HZ := Lib.hid hzz
 have HZ0 := Lib.hid hz0
 have HLEN := Lib.hid hk.sp.len
 have HAI := Lib.hid (fun (j : Nat) (hj : j < xs.length) (hj' : j < ds.length) => qh8_ xs[j] ds[j] w (hk.sp.box j hj hj'))
 obtain ⟨boot, ra, rc, rs, ⟨nm, pa, pc, ps, ka, kc, ks⟩⟩ := t
 simp only [Tr.val, Tr.rv, Nd.val, Nd.pv, Nd.kv, Nd.name, Nd.pa, Nd.pc, Nd.props, Nd.ka, Nd.kc, Nd.kids] at CW CL HCB
 generalize hbi : xs[i].b = bi at *
 clear hcell hab hzz hk hzn hz0 hst hcel hp1 hp2 ep hn15 hnz hinW hin hck hh hB hBs
 go_enter Tryz.func47, Tryz.ntmps47
 go_wp2_with fail
 go_loopg [5] xs[a0].z.length (fun n p wr => wr = w /\ ∃ (j : Nat) (hj : j < xs.length), p = .pointer (some ⟨xs[j].b, 0, none⟩) /\ n = xs[j].z.length /\ (∃ s, s ≠ [] /\ xs[i].z = xs[j].z ++ s) /\ UpTo xs ds xs[i].z xs[j].z.length)
 case atStart =>
  refine ⟨rfl, a0, ha0, rfl, rfl, ⟨[k0], by simp, HZ.out⟩, fun j2 h2 h2' h0 ⟨s, hs, e⟩ hl => ?_⟩
  rw [HZ.out] at e
  exfalso
  have h7 := congrArg List.length e
  simp only [List.length_append, List.length_cons, List.length_nil] at h7
  have h8 := List.length_pos_iff.2 hs
  omega
 case round =>
  obtain ⟨rfl, j, hj, rfl, rfl, hsx, hup⟩ := hrel
  have HSX := Lib.hid hsx
  have HUP := Lib.hid hup
  have hj' : j < ds.length := by rw [HLEN.out]; exact hj
  have CR := Lib.hid (HAI.out j hj hj')
  clear hsx hup
  rcases HK.out.sp.above hj with ⟨hn, hzr⟩ | ⟨j2, k2, hj2, ha2, hz2⟩
  rotate_left
  ·have hcj := qaq_ (HK.out.sp.box j hj hj')
   have k4 := hcj.2.2.2.2.1
   have k7 := hcj.2.2.2.2.2.2.2.1
   rw [ha2] at k4 CR
   replace k4 : wr.cell? ⟨xs[j].b, 4, none⟩ = some (.pointer (some ⟨xs[j2].b, 0, none⟩)) := k4
   have HZJ := Lib.hid hz2
   obtain ⟨kd, hkd⟩ : ∃ kd, ds[j].kd = kd := ⟨_, rfl⟩
   rw [hkd] at k7
   have HKD := Lib.hid hkd
   clear hcj ha2 hz2 hkd
   generalize hbj : xs[j].b = bj at *
   go_wp2_with fail
   refine CR.out.mono ?_
   rintro e w2 ⟨rfl, hw⟩
   subst hw
   clear CR
   by_cases hk1 : kd = 1
   ·subst hk1
    go_wp2
    go_roundg xs[j2].z.length
    case rel =>
     refine ⟨rfl, j2, hj2, rfl, rfl, ?_, ?_⟩
     ·obtain ⟨s, hs, e⟩ := HSX.out
      exact ⟨k2 :: s, by simp, by rw [e, HZJ.out]; simp⟩
     ·exact UpTo.step HZN.out hj hj' HSX.out HUP.out HKD.out (by rw [HZJ.out]; simp)
    case measure => rw [HZJ.out]; simp
   ·have q : (kd != 1) = true := by rw [bne_iff_ne]; exact hk1
    have HNU : Hid (¬ UpB xs ds xs[i].z) := Lib.hid (fun h => hk1 (by rw [<- HKD.out]; exact h j hj hj' (by rw [HZJ.out]; simp) HSX.out))
    clear hk1
    go_wp2
    go_ret
    exact HERR.out 15 _ (by decide) (Below.refl _ _) (fun h => HNU.out h.1)
  ·rw [hn] at CR
   have HUA : Hid (UpB xs ds xs[i].z) := Lib.hid (UpTo.all (by have h := HUP.out; rw [hzr] at h; exact h))
   clear hn hzr
   go_wp2_with fail
   refine CR.out.mono ?_
   rintro e w2 ⟨rfl, hw⟩
   subst hw
   clear CR
   clear HAI HSX HUP
   obtain ⟨zA, hzA⟩ : ∃ zA, xs[i].A = zA := ⟨_, rfl⟩
   obtain ⟨zc, hzc⟩ : ∃ zc, xs[i].c = zc := ⟨_, rfl⟩
   obtain ⟨zl, hzl⟩ : ∃ zl, xs[i].z.length = zl := ⟨_, rfl⟩
   obtain ⟨kd, hkd⟩ : ∃ kd, ds[i].kd = kd := ⟨_, rfl⟩
   obtain ⟨yn, hyn⟩ : ∃ yn, xs[i].y.name = yn := ⟨_, rfl⟩
   obtain ⟨yp, hyp⟩ : ∃ yp, xs[i].y.pv = yp := ⟨_, rfl⟩
   obtain ⟨yk, hyk⟩ : ∃ yk, xs[i].y.kv = yk := ⟨_, rfl⟩
   have HS : Hid (∀ W, Below w2.heap.size w2 W -> (W.cell? ⟨bc, 0, none⟩ = some (.int .u32 boot) /\ W.cell? ⟨bc, 1, none⟩ = some (.slice ra rs.length rc) /\ W.cell? ⟨bc, 2, none⟩ = some (.string nm) /\ W.cell? ⟨bc, 3, none⟩ = some (.slice pa ps.length pc) /\ W.cell? ⟨bc, 4, none⟩ = some (.slice ka ks.length kc)) /\ W.cell? ⟨bi, 0, none⟩ = some (.slice zA zl zc) /\ (W.cell? ⟨bi, 1, none⟩ = some (.string yn) /\ W.cell? ⟨bi, 2, none⟩ = some yp /\ W.cell? ⟨bi, 3, none⟩ = some yk) /\ W.cell? ⟨bi, 7, none⟩ = some (.int .i64 kd)) := Lib.hid (fun W hW => by
    obtain ⟨q0, q1, q2, q3, _, _, _, q7, _⟩ := HSP.out W hW
    refine ⟨HCB.out W hW, ?_, ⟨?_, ?_, ?_⟩, ?_⟩
    ·rw [<- hzA, <- hzl, <- hzc]; exact q0
    ·rw [<- hyn]; exact q1
    ·rw [<- hyp]; exact q2
    ·rw [<- hyk]; exact q3
    ·rw [<- hkd]; exact q7)
   have HSG : Hid (∀ (W : World) (d' : SpD), Chk W (Tr.mk boot ra rc rs (Nd.mk nm pa pc ps ka kc ks)) bc xs (ds.set i d') -> d'.kd = kd -> ((W.cell? ⟨bc, 0, none⟩ = some (.int .u32 boot) /\ W.cell? ⟨bc, 1, none⟩ = some (.slice ra rs.length rc) /\ W.cell? ⟨bc, 2, none⟩ = some (.string nm) /\ W.cell? ⟨bc, 3, none⟩ = some (.slice pa ps.length pc) /\ W.cell? ⟨bc, 4, none⟩ = some (.slice ka ks.length kc)) /\ W.cell? ⟨bi, 0, none⟩ = some (.slice zA zl zc) /\ (W.cell? ⟨bi, 1, none⟩ = some (.string yn) /\ W.cell? ⟨bi, 2, none⟩ = some yp /\ W.cell? ⟨bi, 3, none⟩ = some yk) /\ W.cell? ⟨bi, 7, none⟩ = some (.int .i64 kd)) /\ W.cell? ⟨bi, 8, none⟩ = some (.slice d'.A d'.m d'.c)) := Lib.hid (fun W d' hc hd => by
    have hil : i < (ds.set i d').length := by rw [List.length_set]; exact hi'
    have hbx := hc.sp.box i hi hil
    rw [List.getElem_set_self] at hbx
    obtain ⟨q0, q1, q2, q3, _, _, _, q7, q8⟩ := qaq_ hbx
    obtain ⟨A, c, h1, _⟩ := hc.box
    obtain ⟨r0, r1, r2, r3, r4, _⟩ := qbl_ h1
    rw [hbi] at q0 q1 q2 q3 q7 q8
    refine ⟨⟨⟨r0, r1, r2, r3, r4⟩, ?_, ⟨?_, ?_, ?_⟩, ?_⟩, q8⟩
    ·rw [<- hzA, <- hzl, <- hzc]; exact q0
    ·rw [<- hyn]; exact q1
    ·rw [<- hyp]; exact q2
    ·rw [<- hyk]; exact q3
    ·rw [<- hd]; exact q7)
   rw [hzA, hzl, hzc] at CW CL
   have HWB : Hid (winB (Nd.mk nm pa pc ps ka kc ks) (xs[i].z.map Int.ofNat) zl kd = ((winsV (Nd.mk nm pa pc ps ka kc ks) (xs[i].z.map Int.ofNat) zl).1 && (match (winsV (Nd.mk nm pa pc ps ka kc ks) (xs[i].z.map Int.ofNat) zl).2 with
    | [x] => !qd1_ x.1 x.2 && mayB kd x.2
    | _ => false))) := Lib.hid rfl
   have HCT2 : Hid (∀ W, Below B0 w2 W -> B0 <= W.heap.size -> Calls Tryz.prog 78 #[.agg #[.string yn, yp, yk]] W fun e w' => e = .returned (.bool (ctrlB xs[i].y)) /\ Below W.heap.size W w') := Lib.hid (fun W h1 h2 => by
    rw [<- hyn, <- hyp, <- hyk]
    exact HCT.out W h1 h2)
   have HDB : Hid (DevB (Tr.mk boot ra rc rs (Nd.mk nm pa pc ps ka kc ks)) xs ds i xs[i] ds[i] -> winB (Nd.mk nm pa pc ps ka kc ks) (xs[i].z.map Int.ofNat) zl kd = true /\ linB (Nd.mk nm pa pc ps ka kc ks) xs[i].y (xs[i].z.map Int.ofNat) kd = true) := Lib.hid (fun h => by
    rw [<- hzl, <- hkd]; exact h.2)
   have HDB2 : Hid (winB (Nd.mk nm pa pc ps ka kc ks) (xs[i].z.map Int.ofNat) zl kd = true -> linB (Nd.mk nm pa pc ps ka kc ks) xs[i].y (xs[i].z.map Int.ofNat) kd = true -> DevB (Tr.mk boot ra rc rs (Nd.mk nm pa pc ps ka kc ks)) xs ds i xs[i] ds[i]) := Lib.hid (fun h1 h2 => ⟨HUA.out, by rw [hzl, hkd]; exact h1, by rw [hkd]; exact h2⟩)
   have HZL2 : Hid (0 < zl) := Lib.hid (by rw [<- hzl]; exact HZL.out.1)
   have HNZ := Lib.hid HZL.out.2
   have HKD := Lib.hid hkd
   have HR := Lib.hid (Below.refl w2.heap.size w2)
   clear hzA hzc hzl hkd hyn hyp hyk HUA HZL HSP HCB HCT
   obtain ⟨WV, hWV⟩ : ∃ WV, winsV (Nd.mk nm pa pc ps ka kc ks) (xs[i].z.map Int.ofNat) zl = WV := ⟨_, rfl⟩
   rw [hWV] at HWB
   have H64 : Hid (∀ x ∈ WV.2, U64 x.1 /\ U64 x.2) := Lib.hid (by rw [<- hWV]; exact HW64.out zl)
   have CW2 : Hid (∀ W, Below w2.heap.size w2 W -> Calls Tryz.prog 76 #[.agg #[.int .u32 boot, .slice ra rs.length rc, .string nm, .slice pa ps.length pc, .slice ka ks.length kc], .slice zA zl zc] W fun e w' => ((WV.1 = false -> ∃ A c, ∃ er : Int, e = .returned (.tuple #[.slice A 0 c, .int .i64 er]) /\ c <= 9223372036854775807 /\ (er = 12 \/ er = 10)) /\ (WV.1 = true -> ∃ A m c, e = .returned (.tuple #[.slice A m c, .int .i64 0]) /\ Cel2 w' w'.heap.size A m (WV.2.map winV) /\ m <= c /\ c <= 9223372036854775807)) /\ Below W.heap.size W w') := Lib.hid (fun W hW => (CW.out W hW).mono (fun e w' h => by
    obtain ⟨_, h1, h2⟩ := h
    have h3 := (h1 ⟨_, HNZ.out⟩).2 HZL2.out
    rw [hWV] at h3
    exact ⟨h3, h2⟩))
   clear CW hWV
   obtain ⟨w1, w2s⟩ := WV
   go_wp2_with fail
   refine wp_region_held_drew (S := fun W => (W.cell? ⟨bc, 0, none⟩ = some (.int .u32 boot) /\ W.cell? ⟨bc, 1, none⟩ = some (.slice ra rs.length rc) /\ W.cell? ⟨bc, 2, none⟩ = some (.string nm) /\ W.cell? ⟨bc, 3, none⟩ = some (.slice pa ps.length pc) /\ W.cell? ⟨bc, 4, none⟩ = some (.slice ka ks.length kc)) /\ W.cell? ⟨bi, 0, none⟩ = some (.slice zA zl zc) /\ (W.cell? ⟨bi, 1, none⟩ = some (.string yn) /\ W.cell? ⟨bi, 2, none⟩ = some yp /\ W.cell? ⟨bi, 3, none⟩ = some yk) /\ W.cell? ⟨bi, 7, none⟩ = some (.int .i64 kd)) (by kernel_rfl) (HS.out _ HR.out.drew) (fun hHeld => ?_)
   refine tk 0 hHeld fun _ => ?_
   refine tk 1 hHeld fun _ => ?_
   refine tk 2 hHeld fun _ => ?_
   refine tk 3 hHeld fun _ => ?_
   refine tk 4 hHeld fun _ => ?_
   refine tk 5 hHeld fun _ => ?_
   refine tk 6 hHeld fun _ => ?_
   refine tk 7 hHeld fun _ => ?_
   refine qab_ 8 (by kernel_rfl) rfl (by rfl) (fun K hK => ?_)
   go_simp
   refine (CW2.out _ HR.out.drew).mono ?_
   rintro e w3 ⟨⟨hbad, hgood⟩, hb⟩
   have HB3 := Lib.hid (HR.out.drew.trans (hb.mono (by simp)))
   clear hb CW2
   cases w1
   ·obtain ⟨A2, c2, er, rfl, _, her⟩ := hbad rfl
    clear hbad hgood
    dsimp only
    refine hK.out _ _ (HS.out _ HB3.out) (fun hHeld => ?_)
    clear hK K
    refine tk 9 hHeld fun _ => ?_
    refine tk 10 hHeld fun _ => ?_
    refine tk 11 hHeld fun _ => ?_
    refine tk 12 hHeld fun _ => ?_
    refine tk 13 hHeld fun _ => ?_
    refine wpAnyH_done (by kernel_rfl) ?_ _
    clear hHeld
    have q : (er != 0) = true := by rw [bne_iff_ne]; omega
    have hE : Hid (er ≠ 0 /\ ¬ DevB (Tr.mk boot ra rc rs (Nd.mk nm pa pc ps ka kc ks)) xs ds i xs[i] ds[i]) := Lib.hid ⟨by omega, fun h => by
     have h1 := (HDB.out h).1
     rw [HWB.out] at h1
     cases h1⟩
    clear her
    go_wp2
    go_ret
    exact HERR.out er _ hE.out.1 HB3.out hE.out.2
   ·obtain ⟨A2, m2, c2, rfl, hcel, hm1, hm2⟩ := hgood rfl
    have HC2 := Lib.hid hcel
    have HM2 := Lib.hid (And.intro hm1 hm2)
    clear hbad hgood hcel hm1 hm2
    dsimp only
    refine hK.out _ _ (HS.out _ HB3.out) (fun hHeld => ?_)
    clear hK K
    refine tk 9 hHeld fun _ => ?_
    refine tk 10 hHeld fun _ => ?_
    refine tk 11 hHeld fun _ => ?_
    refine tk 12 hHeld fun _ => ?_
    refine tk 13 hHeld fun _ => ?_
    refine wpAnyH_done (by kernel_rfl) ?_ _
    clear hHeld
    go_wp2_with fail
    by_cases hm : m2 = 1
    rotate_left
    ·have q : ((m2 : Int) != 1) = true := by rw [bne_iff_ne]; omega
     have hE : Hid (¬ DevB (Tr.mk boot ra rc rs (Nd.mk nm pa pc ps ka kc ks)) xs ds i xs[i] ds[i]) := Lib.hid (fun h => by
      have h1 := (HDB.out h).1
      have h2 := HC2.out.1
      rw [List.length_map] at h2
      rw [HWB.out] at h1
      rcases w2s with _ | ⟨x, _ | ⟨y, l⟩⟩
      ·simp at h1
      ·simp at h2; omega
      ·simp at h1)
     clear hm
     refine wp_region_held_drew (S := fun W => (W.cell? ⟨bc, 0, none⟩ = some (.int .u32 boot) /\ W.cell? ⟨bc, 1, none⟩ = some (.slice ra rs.length rc) /\ W.cell? ⟨bc, 2, none⟩ = some (.string nm) /\ W.cell? ⟨bc, 3, none⟩ = some (.slice pa ps.length pc) /\ W.cell? ⟨bc, 4, none⟩ = some (.slice ka ks.length kc)) /\ W.cell? ⟨bi, 0, none⟩ = some (.slice zA zl zc) /\ (W.cell? ⟨bi, 1, none⟩ = some (.string yn) /\ W.cell? ⟨bi, 2, none⟩ = some yp /\ W.cell? ⟨bi, 3, none⟩ = some yk) /\ W.cell? ⟨bi, 7, none⟩ = some (.int .i64 kd)) (by kernel_rfl) (HS.out _ HB3.out.drew) (fun hHeld => ?_)
     refine tk 0 hHeld fun _ => ?_
     refine tk 1 hHeld fun _ => ?_
     refine tk 2 hHeld fun _ => ?_
     refine tk 3 hHeld fun _ => ?_
     refine qae_ 4 rfl (by kernel_rfl) (by kernel_rfl) (by kernel_rfl) (fun _ _ _ h => h) (by rfl) hHeld (fun _ => ?_)
     simp only [Act.put, List.setIfInBounds_toArray, List.set_cons_zero, List.set_cons_succ]
     refine qae_ 5 rfl (by kernel_rfl) (by kernel_rfl) (by kernel_rfl) (fun _ _ _ h => h) (by rfl) hHeld (fun _ => ?_)
     simp only [Act.put, List.setIfInBounds_toArray, List.set_cons_zero, List.set_cons_succ]
     refine qae_ 6 rfl (by kernel_rfl) (by kernel_rfl) (by kernel_rfl) (fun _ _ _ h => h) (by rfl) hHeld (fun _ => ?_)
     simp only [Act.put, List.setIfInBounds_toArray, List.set_cons_zero, List.set_cons_succ]
     refine qae_ 7 rfl (by kernel_rfl) (by kernel_rfl) (by kernel_rfl) (fun _ _ _ h => h) (by rfl) hHeld (fun _ => ?_)
     simp only [Act.put, List.setIfInBounds_toArray, List.set_cons_zero, List.set_cons_succ]
     refine tk 8 hHeld fun _ => ?_
     refine tk 9 hHeld fun _ => ?_
     refine qae_ 10 rfl (by kernel_rfl) (by kernel_rfl) (by kernel_rfl) (fun _ _ _ h => h) (by rfl) hHeld (fun _ => ?_)
     simp only [Act.put, List.setIfInBounds_toArray, List.set_cons_zero, List.set_cons_succ]
     refine qae_ 11 rfl (by kernel_rfl) (by kernel_rfl) (by kernel_rfl) (fun _ _ _ h => h) (by rfl) hHeld (fun _ => ?_)
     simp only [Act.put, List.setIfInBounds_toArray, List.set_cons_zero, List.set_cons_succ]
     refine qae_ 12 rfl (by kernel_rfl) (by kernel_rfl) (by kernel_rfl) (fun _ _ _ h => h) (by rfl) hHeld (fun _ => ?_)
     simp only [Act.put, List.setIfInBounds_toArray, List.set_cons_zero, List.set_cons_succ]
     refine qae_ 13 rfl (by kernel_rfl) (by kernel_rfl) (by kernel_rfl) (fun _ _ _ h => h) (by rfl) hHeld (fun _ => ?_)
     simp only [Act.put, List.setIfInBounds_toArray, List.set_cons_zero, List.set_cons_succ]
     refine qae_ 14 rfl (by kernel_rfl) (by kernel_rfl) (by kernel_rfl) (fun _ _ _ h => h) (by rfl) hHeld (fun _ => ?_)
     simp only [Act.put, List.setIfInBounds_toArray, List.set_cons_zero, List.set_cons_succ]
     refine qae_ 15 rfl (by kernel_rfl) (by kernel_rfl) (by kernel_rfl) (fun _ _ _ h => h) (by rfl) hHeld (fun _ => ?_)
     simp only [Act.put, List.setIfInBounds_toArray, List.set_cons_zero, List.set_cons_succ]
     refine qae_ 16 rfl (by kernel_rfl) (by kernel_rfl) (by kernel_rfl) (fun _ _ _ h => h) (by rfl) hHeld (fun _ => ?_)
     simp only [Act.put, List.setIfInBounds_toArray, List.set_cons_zero, List.set_cons_succ]
     refine qae_ 17 rfl (by kernel_rfl) (by kernel_rfl) (by kernel_rfl) (fun _ _ _ h => h) (by rfl) hHeld (fun _ => ?_)
     simp only [Act.put, List.setIfInBounds_toArray, List.set_cons_zero, List.set_cons_succ]
     refine qae_ 18 rfl (by kernel_rfl) (by kernel_rfl) (by kernel_rfl) (fun _ _ _ h => h) (by rfl) hHeld (fun _ => ?_)
     simp only [Act.put, List.setIfInBounds_toArray, List.set_cons_zero, List.set_cons_succ]
     refine qae_ 19 rfl (by kernel_rfl) (by kernel_rfl) (by kernel_rfl) (fun _ _ _ h => h) (by rfl) hHeld (fun _ => ?_)
     simp only [Act.put, List.setIfInBounds_toArray, List.set_cons_zero, List.set_cons_succ]
     refine tk 20 hHeld fun _ => ?_
     refine wpAnyH_done (by kernel_rfl) ?_ _
     clear hHeld
     go_wp2
     go_ret
     exact HERR.out 12 _ (by decide) HB3.out.drew hE.out
    ·subst hm
     obtain ⟨x, rfl⟩ : ∃ x, w2s = [x] := by
      have h2 := HC2.out.1
      rw [List.length_map] at h2
      rcases w2s with _ | ⟨x, _ | ⟨y, l⟩⟩
      ·simp at h2
      ·exact ⟨x, rfl⟩
      ·simp at h2
     obtain ⟨x1, x2⟩ := x
     have HU := Lib.hid (H64.out (x1, x2) (by simp))
     obtain ⟨wb, wo, rfl, _, hcc⟩ := HC2.out.2 (by decide)
     have hcc0 := hcc 0 (by simp)
     have CG1 := Lib.hid (fun W => qm0_ x1 x2 W HU.out.1 HU.out.2)
     have CM1 := Lib.hid (fun W => ql3_ kd x2 W)
     have HWB2 : Hid (winB (Nd.mk nm pa pc ps ka kc ks) (xs[i].z.map Int.ofNat) zl kd = (!qd1_ x1 x2 && mayB kd x2)) := Lib.hid (by rw [HWB.out]; rfl)
     generalize qd1_ x1 x2 = BB at *
     generalize mayB kd x2 = MB at *
     have HS3 : Hid (∀ W, Below w3.heap.size w3 W -> ((W.cell? ⟨bc, 0, none⟩ = some (.int .u32 boot) /\ W.cell? ⟨bc, 1, none⟩ = some (.slice ra rs.length rc) /\ W.cell? ⟨bc, 2, none⟩ = some (.string nm) /\ W.cell? ⟨bc, 3, none⟩ = some (.slice pa ps.length pc) /\ W.cell? ⟨bc, 4, none⟩ = some (.slice ka ks.length kc)) /\ W.cell? ⟨bi, 0, none⟩ = some (.slice zA zl zc) /\ (W.cell? ⟨bi, 1, none⟩ = some (.string yn) /\ W.cell? ⟨bi, 2, none⟩ = some yp /\ W.cell? ⟨bi, 3, none⟩ = some yk) /\ W.cell? ⟨bi, 7, none⟩ = some (.int .i64 kd)) /\ W.cell? ⟨wb, wo, none⟩ = some (.int .u64 x1) /\ W.cell? ⟨wb, wo + 1, none⟩ = some (.int .u64 x2)) := Lib.hid (fun W hW => by
      refine ⟨HS.out W (HB3.out.trans (hW.mono HB3.out.size)), ?_, ?_⟩
      ·rw [hW.cell (p := ⟨wb, wo, none⟩) (by have := HC2.out.2 (by decide); obtain ⟨b', o', e', hb', _⟩ := this; cases e'; exact hb')]
       exact hcc0.1
      ·rw [hW.cell (p := ⟨wb, wo + 1, none⟩) (by have := HC2.out.2 (by decide); obtain ⟨b', o', e', hb', _⟩ := this; cases e'; exact hb')]
       exact hcc0.2)
     have HR3 := Lib.hid (Below.refl w3.heap.size w3)
     clear hcc hcc0 HWB
     refine wp_region_held_drew (S := fun W => ((W.cell? ⟨bc, 0, none⟩ = some (.int .u32 boot) /\ W.cell? ⟨bc, 1, none⟩ = some (.slice ra rs.length rc) /\ W.cell? ⟨bc, 2, none⟩ = some (.string nm) /\ W.cell? ⟨bc, 3, none⟩ = some (.slice pa ps.length pc) /\ W.cell? ⟨bc, 4, none⟩ = some (.slice ka ks.length kc)) /\ W.cell? ⟨bi, 0, none⟩ = some (.slice zA zl zc) /\ (W.cell? ⟨bi, 1, none⟩ = some (.string yn) /\ W.cell? ⟨bi, 2, none⟩ = some yp /\ W.cell? ⟨bi, 3, none⟩ = some yk) /\ W.cell? ⟨bi, 7, none⟩ = some (.int .i64 kd)) /\ W.cell? ⟨wb, wo, none⟩ = some (.int .u64 x1) /\ W.cell? ⟨wb, wo + 1, none⟩ = some (.int .u64 x2)) (by kernel_rfl) (HS3.out _ HR3.out.drew) (fun hHeld => ?_)
     refine tk 0 hHeld fun _ => ?_
     refine tk 1 hHeld fun _ => ?_
     refine tk 2 hHeld fun _ => ?_
     refine tk 3 hHeld fun _ => ?_
     refine tk 4 hHeld fun _ => ?_
     refine tk 5 hHeld fun _ => ?_
     refine tk 6 hHeld fun _ => ?_
     refine qab_ 7 (by kernel_rfl) rfl (by rfl) (fun K hK => ?_)
     go_simp
     refine (CG1.out _).mono ?_
     rintro e w4 ⟨rfl, hb⟩
     have HB4 := Lib.hid (HR3.out.drew.trans (hb.mono (by simp)))
     clear hb CG1
     dsimp only
     refine hK.out _ _ (HS3.out _ HB4.out) (fun hHeld => ?_)
     clear hK K
     refine tk 8 hHeld fun _ => ?_
     refine tk 9 hHeld fun _ => ?_
     cases BB
     rotate_left
     ·skip
      refine qae_ 10 rfl (by kernel_rfl) (by kernel_rfl) (by kernel_rfl) (fun _ _ _ h => h) (by rfl) hHeld (fun _ => ?_)
      simp only [Act.put, List.setIfInBounds_toArray, List.set_cons_zero, List.set_cons_succ]
      refine qae_ 11 rfl (by kernel_rfl) (by kernel_rfl) (by kernel_rfl) (fun _ _ _ h => h) (by rfl) hHeld (fun _ => ?_)
      simp only [Act.put, List.setIfInBounds_toArray, List.set_cons_zero, List.set_cons_succ]
      refine qae_ 12 rfl (by kernel_rfl) (by kernel_rfl) (by kernel_rfl) (fun _ _ _ h => h) (by rfl) hHeld (fun _ => ?_)
      simp only [Act.put, List.setIfInBounds_toArray, List.set_cons_zero, List.set_cons_succ]
      refine qae_ 13 rfl (by kernel_rfl) (by kernel_rfl) (by kernel_rfl) (fun _ _ _ h => h) (by rfl) hHeld (fun _ => ?_)
      simp only [Act.put, List.setIfInBounds_toArray, List.set_cons_zero, List.set_cons_succ]
      refine qae_ 14 rfl (by kernel_rfl) (by kernel_rfl) (by kernel_rfl) (fun _ _ _ h => h) (by rfl) hHeld (fun _ => ?_)
      simp only [Act.put, List.setIfInBounds_toArray, List.set_cons_zero, List.set_cons_succ]
      refine qae_ 15 rfl (by kernel_rfl) (by kernel_rfl) (by kernel_rfl) (fun _ _ _ h => h) (by rfl) hHeld (fun _ => ?_)
      simp only [Act.put, List.setIfInBounds_toArray, List.set_cons_zero, List.set_cons_succ]
      refine qae_ 16 rfl (by kernel_rfl) (by kernel_rfl) (by kernel_rfl) (fun _ _ _ h => h) (by rfl) hHeld (fun _ => ?_)
      simp only [Act.put, List.setIfInBounds_toArray, List.set_cons_zero, List.set_cons_succ]
      refine qae_ 17 rfl (by kernel_rfl) (by kernel_rfl) (by kernel_rfl) (fun _ _ _ h => h) (by rfl) hHeld (fun _ => ?_)
      simp only [Act.put, List.setIfInBounds_toArray, List.set_cons_zero, List.set_cons_succ]
      refine qae_ 18 rfl (by kernel_rfl) (by kernel_rfl) (by kernel_rfl) (fun _ _ _ h => h) (by rfl) hHeld (fun _ => ?_)
      simp only [Act.put, List.setIfInBounds_toArray, List.set_cons_zero, List.set_cons_succ]
      refine qae_ 19 rfl (by kernel_rfl) (by kernel_rfl) (by kernel_rfl) (fun _ _ _ h => h) (by rfl) hHeld (fun _ => ?_)
      simp only [Act.put, List.setIfInBounds_toArray, List.set_cons_zero, List.set_cons_succ]
      refine tk 20 hHeld fun _ => ?_
      refine wpAnyH_done (by kernel_rfl) ?_ _
      clear hHeld
      have hE : Hid (¬ DevB (Tr.mk boot ra rc rs (Nd.mk nm pa pc ps ka kc ks)) xs ds i xs[i] ds[i]) := Lib.hid (fun h => by
       have h1 := (HDB.out h).1
       rw [HWB2.out] at h1
       simp at h1)
      have HBX := Lib.hid (HB3.out.trans (HB4.out.mono HB3.out.size))
      go_wp2
      go_ret
      exact HERR.out 12 _ (by decide) HBX.out hE.out
     ·skip
      refine tk 10 hHeld fun _ => ?_
      refine tk 11 hHeld fun _ => ?_
      refine tk 12 hHeld fun _ => ?_
      refine tk 13 hHeld fun _ => ?_
      refine tk 14 hHeld fun _ => ?_
      refine tk 15 hHeld fun _ => ?_
      refine tk 16 hHeld fun _ => ?_
      refine tk 17 hHeld fun _ => ?_
      refine qab_ 18 (by kernel_rfl) rfl (by rfl) (fun K hK => ?_)
      go_simp
      refine (CM1.out _).mono ?_
      rintro e w5 ⟨rfl, rfl⟩
      dsimp only
      refine hK.out _ _ (HS3.out _ HB4.out) (fun hHeld => ?_)
      clear hK K
      refine tk 19 hHeld fun _ => ?_
      refine tk 20 hHeld fun _ => ?_
      refine wpAnyH_done (by kernel_rfl) ?_ _
      clear hHeld
      have HBX := Lib.hid (HB3.out.trans (HB4.out.mono HB3.out.size))
      cases MB
      ·have hE : Hid (¬ DevB (Tr.mk boot ra rc rs (Nd.mk nm pa pc ps ka kc ks)) xs ds i xs[i] ds[i]) := Lib.hid (fun h => by
        have h1 := (HDB.out h).1
        rw [HWB2.out] at h1
        simp at h1)
       go_wp2
       go_ret
       exact HERR.out 12 _ (by decide) HBX.out hE.out
      ·have HWT : Hid (winB (Nd.mk nm pa pc ps ka kc ks) (xs[i].z.map Int.ofNat) zl kd = true) := Lib.hid (by rw [HWB2.out]; rfl)
       clear HWB2 HS3 HR3 HB4 HC2 HM2 CM1 HU
       go_wp2_with fail
       obtain ⟨X, hX⟩ : ∃ X, qce_ (Nd.mk nm pa pc ps ka kc ks) (xs[i].z.map Int.ofNat) = X := ⟨_, rfl⟩
       have HXV := Lib.hid hX
       have CL2 := Lib.hid (CL.out _ (HBX.out.drew))
       simp only [hX] at CL2
       clear hX CL
       refine wp_region_held_drew (S := fun W => (W.cell? ⟨bc, 0, none⟩ = some (.int .u32 boot) /\ W.cell? ⟨bc, 1, none⟩ = some (.slice ra rs.length rc) /\ W.cell? ⟨bc, 2, none⟩ = some (.string nm) /\ W.cell? ⟨bc, 3, none⟩ = some (.slice pa ps.length pc) /\ W.cell? ⟨bc, 4, none⟩ = some (.slice ka ks.length kc)) /\ W.cell? ⟨bi, 0, none⟩ = some (.slice zA zl zc) /\ (W.cell? ⟨bi, 1, none⟩ = some (.string yn) /\ W.cell? ⟨bi, 2, none⟩ = some yp /\ W.cell? ⟨bi, 3, none⟩ = some yk) /\ W.cell? ⟨bi, 7, none⟩ = some (.int .i64 kd)) (by kernel_rfl) (HS.out _ HBX.out.drew) (fun hHeld => ?_)
       refine tk 0 hHeld fun _ => ?_
       refine tk 1 hHeld fun _ => ?_
       refine tk 2 hHeld fun _ => ?_
       refine tk 3 hHeld fun _ => ?_
       refine tk 4 hHeld fun _ => ?_
       refine tk 5 hHeld fun _ => ?_
       refine tk 6 hHeld fun _ => ?_
       refine tk 7 hHeld fun _ => ?_
       refine tk 8 hHeld fun _ => ?_
       refine qab_ 9 (by kernel_rfl) rfl (by rfl) (fun K hK => ?_)
       go_simp
       refine CL2.out.mono ?_
       rintro e w6 ⟨hl, hb⟩
       have HB6 := Lib.hid (HBX.out.drew.trans (hb.mono (by have := HBX.out.size; simpa using this)))
       have hwz : w2.heap.size <= w5.heap.size := HBX.out.size
       have HBI : Hid (∃ v, w6.cell? ⟨bi, 8, none⟩ = some v /\ w6.frozen? ⟨bi, 8, none⟩ = false) := Lib.hid (by
        have h1 := (HK.out.below HB6.out).sp.box i hi hi'
        have h2 := (qaq_ h1).2.2.2.2.2.2.2.2
        have h3 := Lib.frozen_of_heap h1 8
        rw [hbi] at h2 h3
        exact ⟨_, h2, h3⟩)
       obtain ⟨old8, o8, f8⟩ := HBI.out
       cases X with
       | error er =>
        obtain rfl : e = .returned (.tuple #[.slice none 0 0, .int .i64 er]) := hl
        have hP := HPUT.out w6 none 0 0 [] HB6.out (LinesP.nil _ _ _) (Nat.le_refl _) (by omega)
        have HP := Lib.hid hP
        have HS8 := Lib.hid (HSG.out _ _ hP.1 HKD.out)
        clear hb CL2 hP
        dsimp only
        refine hK.out _ _ (HS.out _ HB6.out) (fun hHeld => ?_)
        clear hK K
        refine tk 10 hHeld fun _ => ?_
        refine tk 11 hHeld fun _ => ?_
        refine tk 12 hHeld fun _ => ?_
        refine tk 13 hHeld fun _ => ?_
        refine tk 14 hHeld fun _ => ?_
        refine qab_ 15 (by kernel_rfl) rfl (by rfl) (fun K hK => ?_)
        go_simp
        refine hK.out _ _ HS8.out.1 (fun hHeld => ?_)
        clear hK K
        refine tk 16 hHeld fun _ => ?_
        refine wpAnyH_done (by kernel_rfl) ?_ _
        clear hHeld
        have hE : Hid (er ≠ 0 /\ ¬ DevB (Tr.mk boot ra rc rs (Nd.mk nm pa pc ps ka kc ks)) xs ds i xs[i] ds[i]) := Lib.hid ⟨qfn_ HXV.out, fun h => by
         have h1 := (HDB.out h).2
         unfold linB at h1
         rw [HXV.out] at h1
         cases h1⟩
        have q : (er != 0) = true := by rw [bne_iff_ne]; exact hE.out.1
        clear o8 f8
        go_wp2
        go_ret
        exact ⟨er, _, rfl, HP.out.1, rfl, rfl, HP.out.2, ⟨fun h => absurd h hE.out.1, fun h => absurd h hE.out.2⟩, fun h => absurd h hE.out.1, (HBC.out w6 _ HB6.out).1⟩
       | ok ws =>
        obtain ⟨A8, m8, c8, rfl, hlp, h81, h82⟩ := hl
        have hP := HPUT.out w6 A8 m8 c8 ws HB6.out (hlp.mono (fun b _ hb2 => by simp at hb2; omega)) h81 h82
        have HP := Lib.hid hP
        have HS8 := Lib.hid (HSG.out _ _ hP.1 HKD.out)
        have HM8 := Lib.hid (And.intro h81 h82)
        have HLEN8 := Lib.hid hlp.v.len
        clear hb CL2 hP hlp h81 h82
        dsimp only
        refine hK.out _ _ (HS.out _ HB6.out) (fun hHeld => ?_)
        clear hK K
        refine tk 10 hHeld fun _ => ?_
        refine tk 11 hHeld fun _ => ?_
        refine tk 12 hHeld fun _ => ?_
        refine tk 13 hHeld fun _ => ?_
        refine tk 14 hHeld fun _ => ?_
        refine qab_ 15 (by kernel_rfl) rfl (by rfl) (fun K hK => ?_)
        go_simp
        refine hK.out _ _ HS8.out.1 (fun hHeld => ?_)
        clear hK K
        refine tk 16 hHeld fun _ => ?_
        refine wpAnyH_done (by kernel_rfl) ?_ _
        clear hHeld
        clear o8 f8
        have HSU : Hid (w2.heap.size <= (w6.setCell ⟨bi, 8, none⟩ (.slice A8 m8 c8)).heap.size) := Lib.hid (by
         have h1 := HB6.out.size
         simp [World.setCell]; exact h1)
        have HBU8 := Lib.hid (HBC.out w6 (.slice A8 m8 c8) HB6.out)
        clear HS8
        generalize w6.setCell ⟨bi, 8, none⟩ (.slice A8 m8 c8) = U at *
        have HS9 : Hid (∀ W, Below U.heap.size U W -> ((W.cell? ⟨bc, 0, none⟩ = some (.int .u32 boot) /\ W.cell? ⟨bc, 1, none⟩ = some (.slice ra rs.length rc) /\ W.cell? ⟨bc, 2, none⟩ = some (.string nm) /\ W.cell? ⟨bc, 3, none⟩ = some (.slice pa ps.length pc) /\ W.cell? ⟨bc, 4, none⟩ = some (.slice ka ks.length kc)) /\ W.cell? ⟨bi, 0, none⟩ = some (.slice zA zl zc) /\ (W.cell? ⟨bi, 1, none⟩ = some (.string yn) /\ W.cell? ⟨bi, 2, none⟩ = some yp /\ W.cell? ⟨bi, 3, none⟩ = some yk) /\ W.cell? ⟨bi, 7, none⟩ = some (.int .i64 kd)) /\ W.cell? ⟨bi, 8, none⟩ = some (.slice A8 m8 c8)) := Lib.hid (fun W hW => HSG.out W _ (HP.out.1.below hW) HKD.out)
        have HR9 := Lib.hid (Below.refl U.heap.size U)
        have HBU : Hid (∀ W, Below U.heap.size U W -> Below B0 w2 W /\ B0 <= W.heap.size) := Lib.hid (fun W hW => ⟨HP.out.2.trans (hW.mono (Nat.le_trans HB0.out HSU.out)), Nat.le_trans HB0.out (Nat.le_trans HSU.out hW.size)⟩)
        have HFIN : Hid (∀ (er : Int) W, Below U.heap.size U W -> (er = 0 ↔ DevB (Tr.mk boot ra rc rs (Nd.mk nm pa pc ps ka kc ks)) xs ds i xs[i] ds[i]) -> DevOut (Tr.mk boot ra rc rs (Nd.mk nm pa pc ps ka kc ks)) B0 bc xs ds i xs[i] ds[i] w2 (.returned (.int .i64 er)) W) := Lib.hid (fun er W hW he => ⟨er, _, rfl, HP.out.1.below hW, rfl, rfl, (HBU.out W hW).1, he, fun _ => HXV.out, (hW.block bc HBU8.out.2).trans HBU8.out.1⟩)
        have HLB : Hid (linB (Nd.mk nm pa pc ps ka kc ks) xs[i].y (xs[i].z.map Int.ofNat) kd = (!(decide (kd = 7) && !ctrlB xs[i].y) && decide ((ws.length : Int) <= mostN kd) && ws.all (fun l => decide (lineP (Nd.mk nm pa pc ps ka kc ks) l.1 l.2 = 0)))) := Lib.hid (by unfold linB; rw [HXV.out])
        have HLV : Hid (LinesV U U.heap.size A8 m8 ws) := Lib.hid (by
         have h1 := HP.out.1.sp.lines { ds[i] with A := A8, m := m8, c := c8, ws := ws } (by
          have h2 : i < (ds.set i { ds[i] with A := A8, m := m8, c := c8, ws := ws }).length := by rw [List.length_set]; exact hi'
          have h3 := List.getElem_mem h2
          rw [List.getElem_set_self] at h3
          exact h3)
         exact h1.1.v)
        clear HS HSG HB6 HBX HBI HPUT HERR
        have MOST := Lib.hid (fun W => most_any kd W)
        obtain ⟨MK, hMK⟩ : ∃ MK, mostN kd = MK := ⟨_, rfl⟩
        rw [hMK] at MOST HLB
        generalize ctrlB xs[i].y = CB at *
        have HM8L : Hid (ws.length = m8) := Lib.hid HLEN8.out
        go_wp2_with fail
        refine wp_region_held_drew (S := fun W => ((W.cell? ⟨bc, 0, none⟩ = some (.int .u32 boot) /\ W.cell? ⟨bc, 1, none⟩ = some (.slice ra rs.length rc) /\ W.cell? ⟨bc, 2, none⟩ = some (.string nm) /\ W.cell? ⟨bc, 3, none⟩ = some (.slice pa ps.length pc) /\ W.cell? ⟨bc, 4, none⟩ = some (.slice ka ks.length kc)) /\ W.cell? ⟨bi, 0, none⟩ = some (.slice zA zl zc) /\ (W.cell? ⟨bi, 1, none⟩ = some (.string yn) /\ W.cell? ⟨bi, 2, none⟩ = some yp /\ W.cell? ⟨bi, 3, none⟩ = some yk) /\ W.cell? ⟨bi, 7, none⟩ = some (.int .i64 kd)) /\ W.cell? ⟨bi, 8, none⟩ = some (.slice A8 m8 c8)) (by kernel_rfl) (HS9.out _ HR9.out.drew) (fun hHeld => ?_)
        refine tk 0 hHeld fun _ => ?_
        refine tk 1 hHeld fun _ => ?_
        refine tk 2 hHeld fun _ => ?_
        refine tk 3 hHeld fun _ => ?_
        by_cases hk7 : kd = 7
        ·have q7 : (kd == 7) = true := by rw [beq_iff_eq]; exact hk7
         skip
         refine tk 4 hHeld fun _ => ?_
         refine tk 5 hHeld fun _ => ?_
         refine tk 6 hHeld fun _ => ?_
         refine tk 7 hHeld fun _ => ?_
         refine tk 8 hHeld fun _ => ?_
         refine tk 9 hHeld fun _ => ?_
         refine qab_ 10 (by kernel_rfl) rfl (by rfl) (fun K hK => ?_)
         go_simp
         refine (HCT2.out _ (HBU.out _ HR9.out.drew).1 (HBU.out _ HR9.out.drew).2).mono ?_
         rintro e w8 ⟨rfl, hb⟩
         have HB8 := Lib.hid (HR9.out.drew.trans (hb.mono (by simp)))
         clear hb
         dsimp only
         refine hK.out _ _ (HS9.out _ HB8.out) (fun hHeld => ?_)
         clear hK K
         refine tk 11 hHeld fun _ => ?_
         refine tk 12 hHeld fun _ => ?_
         refine tk 13 hHeld fun _ => ?_
         have HK7 : Hid (decide (kd = 7) = true) := Lib.hid (decide_eq_true hk7)
         clear hk7
         cases CB
         ·have hE : Hid (¬ DevB (Tr.mk boot ra rc rs (Nd.mk nm pa pc ps ka kc ks)) xs ds i xs[i] ds[i]) := Lib.hid (fun h => by
           have h1 := (HDB.out h).2
           rw [HLB.out, HK7.out] at h1
           simp at h1)
          skip
          refine qae_ 14 rfl (by kernel_rfl) (by kernel_rfl) (by kernel_rfl) (fun _ _ _ h => h) (by rfl) hHeld (fun _ => ?_)
          simp only [Act.put, List.setIfInBounds_toArray, List.set_cons_zero, List.set_cons_succ]
          refine qae_ 15 rfl (by kernel_rfl) (by kernel_rfl) (by kernel_rfl) (fun _ _ _ h => h) (by rfl) hHeld (fun _ => ?_)
          simp only [Act.put, List.setIfInBounds_toArray, List.set_cons_zero, List.set_cons_succ]
          refine qae_ 16 rfl (by kernel_rfl) (by kernel_rfl) (by kernel_rfl) (fun _ _ _ h => h) (by rfl) hHeld (fun _ => ?_)
          simp only [Act.put, List.setIfInBounds_toArray, List.set_cons_zero, List.set_cons_succ]
          refine qae_ 17 rfl (by kernel_rfl) (by kernel_rfl) (by kernel_rfl) (fun _ _ _ h => h) (by rfl) hHeld (fun _ => ?_)
          simp only [Act.put, List.setIfInBounds_toArray, List.set_cons_zero, List.set_cons_succ]
          refine qae_ 18 rfl (by kernel_rfl) (by kernel_rfl) (by kernel_rfl) (fun _ _ _ h => h) (by rfl) hHeld (fun _ => ?_)
          simp only [Act.put, List.setIfInBounds_toArray, List.set_cons_zero, List.set_cons_succ]
          refine qae_ 19 rfl (by kernel_rfl) (by kernel_rfl) (by kernel_rfl) (fun _ _ _ h => h) (by rfl) hHeld (fun _ => ?_)
          simp only [Act.put, List.setIfInBounds_toArray, List.set_cons_zero, List.set_cons_succ]
          refine qae_ 20 rfl (by kernel_rfl) (by kernel_rfl) (by kernel_rfl) (fun _ _ _ h => h) (by rfl) hHeld (fun _ => ?_)
          simp only [Act.put, List.setIfInBounds_toArray, List.set_cons_zero, List.set_cons_succ]
          refine qae_ 21 rfl (by kernel_rfl) (by kernel_rfl) (by kernel_rfl) (fun _ _ _ h => h) (by rfl) hHeld (fun _ => ?_)
          simp only [Act.put, List.setIfInBounds_toArray, List.set_cons_zero, List.set_cons_succ]
          refine qae_ 22 rfl (by kernel_rfl) (by kernel_rfl) (by kernel_rfl) (fun _ _ _ h => h) (by rfl) hHeld (fun _ => ?_)
          simp only [Act.put, List.setIfInBounds_toArray, List.set_cons_zero, List.set_cons_succ]
          refine qae_ 23 rfl (by kernel_rfl) (by kernel_rfl) (by kernel_rfl) (fun _ _ _ h => h) (by rfl) hHeld (fun _ => ?_)
          simp only [Act.put, List.setIfInBounds_toArray, List.set_cons_zero, List.set_cons_succ]
          refine qae_ 24 rfl (by kernel_rfl) (by kernel_rfl) (by kernel_rfl) (fun _ _ _ h => h) (by rfl) hHeld (fun _ => ?_)
          simp only [Act.put, List.setIfInBounds_toArray, List.set_cons_zero, List.set_cons_succ]
          refine tk 25 hHeld fun _ => ?_
          refine wpAnyH_done (by kernel_rfl) ?_ _
          clear hHeld
          go_wp2
          go_ret
          exact HFIN.out 4 _ HB8.out ⟨fun h => (by cases h), fun h => absurd h hE.out⟩
         ·have HLB2 : Hid (linB (Nd.mk nm pa pc ps ka kc ks) xs[i].y (xs[i].z.map Int.ofNat) kd = (decide ((ws.length : Int) <= MK) && ws.all (fun l => decide (lineP (Nd.mk nm pa pc ps ka kc ks) l.1 l.2 = 0)))) := Lib.hid (by rw [HLB.out]; simp)
          refine tk 14 hHeld fun _ => ?_
          refine tk 15 hHeld fun _ => ?_
          refine tk 16 hHeld fun _ => ?_
          refine tk 17 hHeld fun _ => ?_
          refine tk 18 hHeld fun _ => ?_
          refine tk 19 hHeld fun _ => ?_
          refine tk 20 hHeld fun _ => ?_
          refine tk 21 hHeld fun _ => ?_
          refine tk 22 hHeld fun _ => ?_
          refine qab_ 23 (by kernel_rfl) rfl (by rfl) (fun K hK => ?_)
          go_simp
          refine (MOST.out _).mono ?_
          rintro e w9 ⟨rfl, hw9⟩
          subst hw9
          dsimp only
          refine hK.out _ _ (HS9.out _ HB8.out) (fun hHeld => ?_)
          clear hK K
          by_cases hgt : (m8 : Int) > MK
          ·have q1 : decide ((m8 : Int) > MK) = true := decide_eq_true hgt
           have q2 : decide (MK < (m8 : Int)) = true := decide_eq_true hgt
           have hE : Hid (¬ DevB (Tr.mk boot ra rc rs (Nd.mk nm pa pc ps ka kc ks)) xs ds i xs[i] ds[i]) := Lib.hid (fun h => by
            have h1 := (HDB.out h).2
            rw [HLB.out, HM8L.out, decide_eq_false (show ¬ (m8 : Int) <= MK by omega)] at h1
            simp at h1)
           clear hgt
           skip
           refine tk 24 hHeld fun _ => ?_
           refine tk 25 hHeld fun _ => ?_
           refine wpAnyH_done (by kernel_rfl) ?_ _
           clear hHeld
           go_wp2
           go_ret
           exact HFIN.out 4 _ HB8.out ⟨fun h => (by cases h), fun h => absurd h hE.out⟩
          ·have q1 : decide ((m8 : Int) > MK) = false := decide_eq_false hgt
           have q2 : decide (MK < (m8 : Int)) = false := decide_eq_false hgt
           have HLE : Hid (decide ((m8 : Int) <= MK) = true) := Lib.hid (decide_eq_true (by omega))
           clear hgt
           skip
           refine tk 24 hHeld fun _ => ?_
           refine tk 25 hHeld fun _ => ?_
           refine wpAnyH_done (by kernel_rfl) ?_ _
           clear hHeld
           obtain ⟨⟨_, _, _, r7⟩, r8⟩ := HS9.out _ HB8.out
           go_wp2_with fail
           clear q1 q2 q7
           go_loopw [112] (fun i wr => ∃ k : Nat, k <= m8 /\ i = .int .i64 k /\ (∀ j (h : j < ws.length), j < k -> lineP (Nd.mk nm pa pc ps ka kc ks) ws[j].1 ws[j].2 = 0) /\ Below U.heap.size U wr) (fun i _ => m8 - (intOf i).toNat)
           case atStart => exact ⟨0, Nat.zero_le _, rfl, fun j h h0 => absurd h0 (Nat.not_lt_zero _), HB8.out⟩
           case round =>
            obtain ⟨k, hk, rfl, hpre, hb⟩ := hrel
            have HPRE := Lib.hid hpre
            have HBW := Lib.hid hb
            have hm12 : m8 <= 9223372036854775807 := by have := HM8.out; omega
            clear hpre
            by_cases hlt : k < m8
            ·obtain ⟨x8, hcel8, htwo8⟩ := HLV.out
             have hxl : x8.length = m8 := by have := hcel8.1; rwa [List.length_map] at this
             have hkx : k < x8.length := by rw [hxl]; exact hlt
             obtain ⟨hkw, hsh⟩ := qpm_ htwo8 hkx
             obtain ⟨lb, lo, rfl, _, hcc⟩ := (hcel8.on hb).2 (by omega)
             have hkm : k < (x8.map LnR.two).length := by rw [List.length_map]; exact hkx
             obtain ⟨d0, d1⟩ := hcc k hkm
             simp only [List.getElem_map] at d0 d1
             have hsh2 : qcf_ wr wr.heap.size x8[k] ws[k] := ⟨hsh.1.on hb, hsh.2⟩
             obtain ⟨x, hx⟩ : ∃ x, x8[k] = x := ⟨_, rfl⟩
             obtain ⟨y, hy⟩ : ∃ y, ws[k] = y := ⟨_, rfl⟩
             rw [hx, hy] at hsh2
             rw [hx] at d0 d1
             have HY := Lib.hid (Exists.intro hkw hy : ∃ h : k < ws.length, ws[k] = y)
             obtain ⟨xA, xn, xc, xl⟩ := x
             simp only [LnR.two] at d0 d1
             have hba := (Below.refl _ wr).alloc (Nat.le_refl _) (.cells #[.slice xA xn xc, .int .u32 xl] 127)
             have hbU := hb.trans (hba.mono hb.size)
             have HBA := Lib.hid hbU
             obtain ⟨Ab, cb, hbx, _⟩ := (HP.out.1.below hbU).box
             have CX := Lib.hid (HLI.out (wr.alloc (.cells #[.slice xA xn xc, .int .u32 xl] 127)) (HBU.out _ hbU).1 (HBU.out _ hbU).2 Ab xs.length cb hbx ⟨xA, xn, xc, xl⟩ y ⟨hsh2.1.on hba, hsh2.2⟩)
             simp only [qcm_] at CX
             obtain ⟨er, her⟩ : ∃ er, lineP (Nd.mk nm pa pc ps ka kc ks) y.1 y.2 = er := ⟨_, rfl⟩
             replace CX : Hid (Calls Tryz.prog 80 #[.pointer (some ⟨bc, 0, none⟩), .agg #[.slice xA xn xc, .int .u32 xl]] (wr.alloc (.cells #[.slice xA xn xc, .int .u32 xl] 127)) fun e w' => e = .returned (.int .i64 er) /\ Below (wr.alloc (.cells #[.slice xA xn xc, .int .u32 xl] 127)).heap.size (wr.alloc (.cells #[.slice xA xn xc, .int .u32 xl] 127)) w') := by rw [<- her]; exact CX
             have HER := Lib.hid her
             clear hcel8 htwo8 hxl hsh hcc hkm hx hkx hy hkw hsh2 hba hbU hbx hb her
             go_wp2_with fail
             refine CX.out.mono ?_
             rintro e w10 ⟨rfl, hb⟩
             have HB10 := Lib.hid (HBA.out.trans (hb.mono HBA.out.size))
             clear hb CX d0 d1
             by_cases he0 : er = 0
             ·subst he0
              go_wp2
              go_roundw
              case rel => exact ⟨k + 1, by omega, by go_num, fun j hj hjk => by
               rcases Nat.lt_or_ge j k with h | h
               ·exact HPRE.out j hj h
               ·obtain rfl : j = k := by omega
                obtain ⟨h1, h2⟩ := HY.out
                rw [h2]; exact HER.out, HB10.out⟩
              case measure => simp [intOf]; omega
             ·have q : (er != 0) = true := by rw [bne_iff_ne]; exact he0
              have hE : Hid (er ≠ 0 /\ ¬ DevB (Tr.mk boot ra rc rs (Nd.mk nm pa pc ps ka kc ks)) xs ds i xs[i] ds[i]) := Lib.hid ⟨he0, fun h => by
               have h1 := (HDB.out h).2
               rw [HLB2.out] at h1
               have h2 := (Bool.and_eq_true_iff.1 h1).2
               rw [List.all_eq_true] at h2
               obtain ⟨h3, h4⟩ := HY.out
               have h5 := h2 _ (List.getElem_mem h3)
               rw [h4, HER.out] at h5
               exact he0 (by simpa using h5)⟩
              clear he0
              go_wp2
              go_ret
              exact HFIN.out er _ HB10.out ⟨fun h => absurd h hE.out.1, fun h => absurd h hE.out.2⟩
            ·obtain rfl : k = m8 := by omega
             have hE : Hid (DevB (Tr.mk boot ra rc rs (Nd.mk nm pa pc ps ka kc ks)) xs ds i xs[i] ds[i]) := Lib.hid (HDB2.out HWT.out (by
              rw [HLB2.out, HM8L.out, HLE.out, Bool.true_and, List.all_eq_true]
              intro l hl
              obtain ⟨j, hj, rfl⟩ := List.getElem_of_mem hl
              exact decide_eq_true (HPRE.out j hj (by rw [<- HM8L.out]; exact hj))))
             clear hb
             go_wp2
             go_ret
             exact HFIN.out 0 _ HBW.out ⟨fun _ => hE.out, fun _ => rfl⟩
        ·have q7 : (kd == 7) = false := by rw [beq_eq_false_iff_ne]; exact hk7
         have HLB2 : Hid (linB (Nd.mk nm pa pc ps ka kc ks) xs[i].y (xs[i].z.map Int.ofNat) kd = (decide ((ws.length : Int) <= MK) && ws.all (fun l => decide (lineP (Nd.mk nm pa pc ps ka kc ks) l.1 l.2 = 0)))) := Lib.hid (by rw [HLB.out, decide_eq_false hk7]; simp)
         have HB8 := Lib.hid HR9.out.drew
         clear hk7
         refine tk 4 hHeld fun _ => ?_
         refine tk 5 hHeld fun _ => ?_
         refine qae_ 6 rfl (by kernel_rfl) (by kernel_rfl) (by kernel_rfl) (fun _ _ _ h => h) (by rfl) hHeld (fun _ => ?_)
         simp only [Act.put, List.setIfInBounds_toArray, List.set_cons_zero, List.set_cons_succ]
         refine qae_ 7 rfl (by kernel_rfl) (by kernel_rfl) (by kernel_rfl) (fun _ _ _ h => h) (by rfl) hHeld (fun _ => ?_)
         simp only [Act.put, List.setIfInBounds_toArray, List.set_cons_zero, List.set_cons_succ]
         refine qae_ 8 rfl (by kernel_rfl) (by kernel_rfl) (by kernel_rfl) (fun _ _ _ h => h) (by rfl) hHeld (fun _ => ?_)
         simp only [Act.put, List.setIfInBounds_toArray, List.set_cons_zero, List.set_cons_succ]
         refine qae_ 9 rfl (by kernel_rfl) (by kernel_rfl) (by kernel_rfl) (fun _ _ _ h => h) (by rfl) hHeld (fun _ => ?_)
         simp only [Act.put, List.setIfInBounds_toArray, List.set_cons_zero, List.set_cons_succ]
         refine qae_ 10 rfl (by kernel_rfl) (by kernel_rfl) (by kernel_rfl) (fun _ _ _ h => h) (by rfl) hHeld (fun _ => ?_)
         simp only [Act.put, List.setIfInBounds_toArray, List.set_cons_zero, List.set_cons_succ]
         refine qae_ 11 rfl (by kernel_rfl) (by kernel_rfl) (by kernel_rfl) (fun _ _ _ h => h) (by rfl) hHeld (fun _ => ?_)
         simp only [Act.put, List.setIfInBounds_toArray, List.set_cons_zero, List.set_cons_succ]
         refine tk 12 hHeld fun _ => ?_
         refine tk 13 hHeld fun _ => ?_
         refine tk 14 hHeld fun _ => ?_
         refine tk 15 hHeld fun _ => ?_
         refine tk 16 hHeld fun _ => ?_
         refine tk 17 hHeld fun _ => ?_
         refine tk 18 hHeld fun _ => ?_
         refine tk 19 hHeld fun _ => ?_
         refine tk 20 hHeld fun _ => ?_
         refine tk 21 hHeld fun _ => ?_
         refine tk 22 hHeld fun _ => ?_
         refine qab_ 23 (by kernel_rfl) rfl (by rfl) (fun K hK => ?_)
         go_simp
         refine (MOST.out _).mono ?_
         rintro e w9 ⟨rfl, hw9⟩
         subst hw9
         dsimp only
         refine hK.out _ _ (HS9.out _ HB8.out) (fun hHeld => ?_)
         clear hK K
         by_cases hgt : (m8 : Int) > MK
         ·have q1 : decide ((m8 : Int) > MK) = true := decide_eq_true hgt
          have q2 : decide (MK < (m8 : Int)) = true := decide_eq_true hgt
          have hE : Hid (¬ DevB (Tr.mk boot ra rc rs (Nd.mk nm pa pc ps ka kc ks)) xs ds i xs[i] ds[i]) := Lib.hid (fun h => by
           have h1 := (HDB.out h).2
           rw [HLB.out, HM8L.out, decide_eq_false (show ¬ (m8 : Int) <= MK by omega)] at h1
           simp at h1)
          clear hgt
          skip
          refine tk 24 hHeld fun _ => ?_
          refine tk 25 hHeld fun _ => ?_
          refine wpAnyH_done (by kernel_rfl) ?_ _
          clear hHeld
          go_wp2
          go_ret
          exact HFIN.out 4 _ HB8.out ⟨fun h => (by cases h), fun h => absurd h hE.out⟩
         ·have q1 : decide ((m8 : Int) > MK) = false := decide_eq_false hgt
          have q2 : decide (MK < (m8 : Int)) = false := decide_eq_false hgt
          have HLE : Hid (decide ((m8 : Int) <= MK) = true) := Lib.hid (decide_eq_true (by omega))
          clear hgt
          skip
          refine tk 24 hHeld fun _ => ?_
          refine tk 25 hHeld fun _ => ?_
          refine wpAnyH_done (by kernel_rfl) ?_ _
          clear hHeld
          obtain ⟨⟨_, _, _, r7⟩, r8⟩ := HS9.out _ HB8.out
          go_wp2_with fail
          clear q1 q2 q7
          go_loopw [112] (fun i wr => ∃ k : Nat, k <= m8 /\ i = .int .i64 k /\ (∀ j (h : j < ws.length), j < k -> lineP (Nd.mk nm pa pc ps ka kc ks) ws[j].1 ws[j].2 = 0) /\ Below U.heap.size U wr) (fun i _ => m8 - (intOf i).toNat)
          case atStart => exact ⟨0, Nat.zero_le _, rfl, fun j h h0 => absurd h0 (Nat.not_lt_zero _), HB8.out⟩
          case round =>
           obtain ⟨k, hk, rfl, hpre, hb⟩ := hrel
           have HPRE := Lib.hid hpre
           have HBW := Lib.hid hb
           have hm12 : m8 <= 9223372036854775807 := by have := HM8.out; omega
           clear hpre
           by_cases hlt : k < m8
           ·obtain ⟨x8, hcel8, htwo8⟩ := HLV.out
            have hxl : x8.length = m8 := by have := hcel8.1; rwa [List.length_map] at this
            have hkx : k < x8.length := by rw [hxl]; exact hlt
            obtain ⟨hkw, hsh⟩ := qpm_ htwo8 hkx
            obtain ⟨lb, lo, rfl, _, hcc⟩ := (hcel8.on hb).2 (by omega)
            have hkm : k < (x8.map LnR.two).length := by rw [List.length_map]; exact hkx
            obtain ⟨d0, d1⟩ := hcc k hkm
            simp only [List.getElem_map] at d0 d1
            have hsh2 : qcf_ wr wr.heap.size x8[k] ws[k] := ⟨hsh.1.on hb, hsh.2⟩
            obtain ⟨x, hx⟩ : ∃ x, x8[k] = x := ⟨_, rfl⟩
            obtain ⟨y, hy⟩ : ∃ y, ws[k] = y := ⟨_, rfl⟩
            rw [hx, hy] at hsh2
            rw [hx] at d0 d1
            have HY := Lib.hid (Exists.intro hkw hy : ∃ h : k < ws.length, ws[k] = y)
            obtain ⟨xA, xn, xc, xl⟩ := x
            simp only [LnR.two] at d0 d1
            have hba := (Below.refl _ wr).alloc (Nat.le_refl _) (.cells #[.slice xA xn xc, .int .u32 xl] 127)
            have hbU := hb.trans (hba.mono hb.size)
            have HBA := Lib.hid hbU
            obtain ⟨Ab, cb, hbx, _⟩ := (HP.out.1.below hbU).box
            have CX := Lib.hid (HLI.out (wr.alloc (.cells #[.slice xA xn xc, .int .u32 xl] 127)) (HBU.out _ hbU).1 (HBU.out _ hbU).2 Ab xs.length cb hbx ⟨xA, xn, xc, xl⟩ y ⟨hsh2.1.on hba, hsh2.2⟩)
            simp only [qcm_] at CX
            obtain ⟨er, her⟩ : ∃ er, lineP (Nd.mk nm pa pc ps ka kc ks) y.1 y.2 = er := ⟨_, rfl⟩
            replace CX : Hid (Calls Tryz.prog 80 #[.pointer (some ⟨bc, 0, none⟩), .agg #[.slice xA xn xc, .int .u32 xl]] (wr.alloc (.cells #[.slice xA xn xc, .int .u32 xl] 127)) fun e w' => e = .returned (.int .i64 er) /\ Below (wr.alloc (.cells #[.slice xA xn xc, .int .u32 xl] 127)).heap.size (wr.alloc (.cells #[.slice xA xn xc, .int .u32 xl] 127)) w') := by rw [<- her]; exact CX
            have HER := Lib.hid her
            clear hcel8 htwo8 hxl hsh hcc hkm hx hkx hy hkw hsh2 hba hbU hbx hb her
            go_wp2_with fail
            refine CX.out.mono ?_
            rintro e w10 ⟨rfl, hb⟩
            have HB10 := Lib.hid (HBA.out.trans (hb.mono HBA.out.size))
            clear hb CX d0 d1
            by_cases he0 : er = 0
            ·subst he0
             go_wp2
             go_roundw
             case rel => exact ⟨k + 1, by omega, by go_num, fun j hj hjk => by
              rcases Nat.lt_or_ge j k with h | h
              ·exact HPRE.out j hj h
              ·obtain rfl : j = k := by omega
               obtain ⟨h1, h2⟩ := HY.out
               rw [h2]; exact HER.out, HB10.out⟩
             case measure => simp [intOf]; omega
            ·have q : (er != 0) = true := by rw [bne_iff_ne]; exact he0
             have hE : Hid (er ≠ 0 /\ ¬ DevB (Tr.mk boot ra rc rs (Nd.mk nm pa pc ps ka kc ks)) xs ds i xs[i] ds[i]) := Lib.hid ⟨he0, fun h => by
              have h1 := (HDB.out h).2
              rw [HLB2.out] at h1
              have h2 := (Bool.and_eq_true_iff.1 h1).2
              rw [List.all_eq_true] at h2
              obtain ⟨h3, h4⟩ := HY.out
              have h5 := h2 _ (List.getElem_mem h3)
              rw [h4, HER.out] at h5
              exact he0 (by simpa using h5)⟩
             clear he0
             go_wp2
             go_ret
             exact HFIN.out er _ HB10.out ⟨fun h => absurd h hE.out.1, fun h => absurd h hE.out.2⟩
           ·obtain rfl : k = m8 := by omega
            have hE : Hid (DevB (Tr.mk boot ra rc rs (Nd.mk nm pa pc ps ka kc ks)) xs ds i xs[i] ds[i]) := Lib.hid (HDB2.out HWT.out (by
             rw [HLB2.out, HM8L.out, HLE.out, Bool.true_and, List.all_eq_true]
             intro l hl
             obtain ⟨j, hj, rfl⟩ := List.getElem_of_mem hl
             exact decide_eq_true (HPRE.out j hj (by rw [<- HM8L.out]; exact hj))))
            clear hb
            go_wp2
            go_ret
            exact HFIN.out 0 _ HBW.out ⟨fun _ => hE.out, fun _ => rfl⟩
end Go.Proofs.YtcfinbapfhhpgaaGreatDoor
