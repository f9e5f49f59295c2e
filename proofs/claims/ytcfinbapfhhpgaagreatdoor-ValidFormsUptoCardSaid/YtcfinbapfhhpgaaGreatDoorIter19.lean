/-
  Iter, part 19.
-/
import Derived.Test.YtcfinbapfhhpgaaGreatDoorIter18
import Derived.Test.YtcfinbapfhhpgaaGreatDoorBase7
import Derived.Test.YtcfinbapfhhpgaaGreatDoorIter15
import Derived.Test.YtcfinbapfhhpgaaGreatDoorBase5
import Derived.Test.YtcfinbapfhhpgaaGreatDoorIter10
import Derived.Test.YtcfinbapfhhpgaaGreatDoorBase10
import Derived.Test.YtcfinbapfhhpgaaGreatDoorIter4
namespace Go.Proofs.YtcfinbapfhhpgaaGreatDoor
open Go.RowKit
set_option linter.unusedVariables false
set_option linter.unusedSimpArgs false
set_option maxRecDepth 20000
set_option maxHeartbeats 16000000
theorem own_low {w : World} {B B' : Nat} {e : TypeId} {sz n : Nat} {v : Value} {xs : List Value} (h : w.ownsRow B e sz v n xs) (hB : B' <= B) : w.ownsRow B' e sz v n xs := by
 refine ⟨h.1, ?_⟩
 rcases h.2 with hn | ⟨g, cap, cur, e1, hb, r⟩
 ·exact .inl hn
 ·exact .inr ⟨g, cap, cur, e1, Nat.le_trans hB hb, r⟩
theorem qe8_ : ∀ {p : List Nat} {R y kd : Nd} {k : Nat}, qaj_ R p = some y -> y.kids[k]? = some kd -> qaj_ R (p ++ [k]) = some kd
 | [], R, y, kd, k, h, hk => by
  rw [qaj_] at h
  obtain rfl := Option.some.inj h
  simp [qaj_, hk]
 | i :: p, R, y, kd, k, h, hk => by
  rw [qaj_] at h
  rw [List.cons_append, qaj_]
  cases hx : R.kids[i]? with
  | none => rw [hx] at h; cases h
  | some x => rw [hx] at h; exact qe8_ (p := p) h hk
theorem concat15 (pA : Option Addr) (p : List Nat) (pl pc : Nat) (j : Nat) (hpl : p.length = pl) (hz : pl + 1 <= 1073741824) (W : World) (g g1 : Nat) (hp : Cel W W.heap.size pA pl (ints p)) (hg : g < W.heap.size) (hg1 : g1 < W.heap.size) (e1 : W.cell? ⟨g1, 0, none⟩ = some (.int .i64 (j : Int))) (e2 : W.cell? ⟨g, 0, none⟩ = some (.slice pA pl pc)) (e3 : W.cell? ⟨g, 1, none⟩ = some (.slice (some ⟨g1, 0, none⟩) 1 1)) :
  Calls Tryz.prog 72 #[.slice (some ⟨g, 0, none⟩) 2 2] W fun e w' => ∃ A c, e = .returned (.slice A (pl + 1) c) /\ Below W.heap.size W w' /\ w'.ownsRow 0 3 1 (.slice A (pl + 1) c) (pl + 1) (ints (p ++ [j])) /\ pl + 1 <= c /\ c <= 9223372036854775807 := by
 subst hpl
 refine (qmd_ g 2 2 [(pA, p.length, pc, p), (some ⟨g1, 0, none⟩, 1, 1, [j])] W rfl (by omega) (Nat.le_refl _) (by omega) ?_ hg ?_ (by simp only [qbg_]; omega)).mono ?_
 ·intro i q hq
  match i, hq with
  | 0, hq => simp only [List.getElem?_cons_zero, Option.some.injEq] at hq; subst hq; exact e2
  | 1, hq => simp only [List.getElem?_cons_succ, List.getElem?_cons_zero, Option.some.injEq] at hq; subst hq; exact e3
  | i + 2, hq => simp at hq
 ·intro q hq
  simp only [List.mem_cons, List.not_mem_nil, or_false] at hq
  rcases hq with rfl | rfl
  ·exact hp
  ·exact ⟨rfl, fun _ => ⟨g1, 0, rfl, hg1, fun i hi => by
    obtain rfl : i = 0 := Nat.lt_one_iff.1 hi
    exact e1⟩⟩
 ·rintro e w' ⟨v, rfl, h1, h2⟩
  simp only [qbg_, qb4_, List.append_nil, Nat.add_zero] at h1
  obtain ⟨A, c, rfl, hc, h3, h4, h5⟩ := qai_ h1
  exact ⟨A, c, rfl, h2, own_low h1 (Nat.zero_le _), h3, h4⟩
theorem add_any (t : Tr) (B0 bc : Nat) : ∀ (y : Nd) (r : SpR) (d : SpD) (D : List Nat) (A0 : Option Addr) (c0 : Nat) (w : World), r.y = y -> r.ks = [] -> r.kA = none -> r.kc = 0 -> w.heap[bc]? = some (chkO t A0 D.length c0) -> w.heap[r.b]? = some (spO r d) -> w.ownsRow 0 75 1 (.slice A0 D.length c0) D.length (D.map bptr) ->
  (B0 <= bc /\ B0 <= r.b /\ B0 <= w.heap.size /\ ∀ g, (Value.slice A0 D.length c0).ownBlock = some g -> B0 <= g) -> y.In w B0 -> qaj_ t.root r.z = some y -> w.ownsRow 0 3 1 r.row r.z.length (ints r.z) -> D.length + heftN y <= 268435456 -> r.z.length + heftN y <= 268435456 ->
  Calls Tryz.prog 45 #[bptr bc, bptr r.b] w fun e w' => e = .returned (.tuple #[]) /\ ∃ rest kA kc ks A c, AddI t bc w D A0 c0 r d y.kids.length rest kA kc ks A c w' := by
 refine Nd.ind ?_
 intro y ih r d D A0 c0 w hry hks hkA hkc hc hr hs hB hin hnode hrow hz1 hz2
 have IH := Lib.hid ih
 obtain ⟨hkl, hkm⟩ := hin.klen
 have hlb : bc < w.heap.size := (Array.getElem?_eq_some_iff.1 hc).1
 have hlr : r.b < w.heap.size := (Array.getElem?_eq_some_iff.1 hr).1
 have hrb : ¬ r.b = bc := fun e => by
  have h := hr
  rw [e] at h
  exact absurd (qag_ h hc) (by decide)
 have hbr : ¬ bc = r.b := fun e => hrb e.symm
 obtain ⟨A1, c1, w1, r1, o1, b1, n1⟩ := app_ptr hs r.b (by omega)
 have S0 := Lib.hid (AddI.start hc hr hks hkA hkc hs o1 b1 n1)
 have hc1 : w1.heap[bc]? = some (chkO t A0 D.length c0) := (b1.block bc hlb (fun e => by
  obtain ⟨_, arr, h⟩ := qak_ hs bc e
  exact absurd (qag_ h hc) (by decide))).trans hc
 have hr1 : w1.heap[r.b]? = some (spO r d) := (b1.block r.b hlr (fun e => by
  obtain ⟨_, arr, h⟩ := qak_ hs r.b e
  exact absurd (qag_ h hr) (by decide))).trans hr
 have c5 := (qbl_ hc).2.2.2.2.2
 have c5' := (qbl_ hc1).2.2.2.2.2
 have f5 := Lib.frozen_of_heap hc1 5
 have k3 := (qaq_ hr1).2.2.2.1
 rw [hry] at k3
 have HRY := Lib.hid hry
 have HBB := Lib.hid hB
 have HIN := Lib.hid hin
 have HND := Lib.hid hnode
 have HRW := Lib.hid hrow
 have HZ := Lib.hid (And.intro hz1 hz2)
 have HLR := Lib.hid (And.intro hlb hlr)
 have HC0 := Lib.hid hc
 have HS0 := Lib.hid hs
 have HR0 := Lib.hid hr
 have HZL : Hid (heftN y = 16 + y.name.size + (y.props.map heftP).sum + heftL y.kids) := Lib.hid (by cases y; rw [heftN]; rfl)
 clear ih hks hkA hkc hc hr hs hB hin hnode hrow hz1 hz2 o1 b1 n1 hc1 hr1 hry hlb hlr
 show Calls _ _ #[.pointer (some ⟨bc, 0, none⟩), .pointer (some ⟨r.b, 0, none⟩)] _ _
 replace r1 : (Builtin.append_ #[72, 72] 72 #[.slice A0 D.length c0, .slice (some ⟨w.heap.size, 0, none⟩) 1 1]).run Tryz.prog (w.alloc (.cells #[.pointer (some ⟨r.b, 0, none⟩)] 75)) = .ok (.slice A1 (D.length + 1) c1) w1 := r1
 generalize hK : y.kids.length = K at *
 have HK := Lib.hid hK
 go_enter Tryz.func45, Tryz.ntmps45
 go_wp2_with (at_builtin; refine Lib.wpList_append_run_sl _ rfl _ _ _ rfl _ _ rfl rfl r1 ?_)
 go_loopw [23] (fun i wr => ∃ (k : Nat) (rest : List SpR) (kA : Option Addr) (kc : Nat) (ks : List Nat) (A : Option Addr) (c : Nat), k <= K /\ i = .int .i64 k /\ AddI t bc w D A0 c0 r d k rest kA kc ks A c wr) (fun i _ => K - (intOf i).toNat)
 case atStart => exact ⟨0, _, _, _, _, _, _, Nat.zero_le _, rfl, S0.out⟩
 case round =>
  obtain ⟨k, rest, kA, kc, ks, A, c, hk, rfl, hai⟩ := hrel
  have HAI := Lib.hid hai
  by_cases hlt : k < K
  ·have hbel : Below B0 w wr := hai.chg.below0 HBB.out.2.2.1 (fun g e => by
    rcases e with rfl | rfl | e
    ·exact HBB.out.1
    ·exact HBB.out.2.1
    ·exact HBB.out.2.2.2 g e)
   have HSW : Hid (w.heap.size <= wr.heap.size) := Lib.hid hai.chg.size
   obtain ⟨nb, no, enk, _, e0, e1, e2⟩ := (HIN.out.under hbel).kcell (i := k) (by rw [HK.out]; exact hlt)
   obtain ⟨kd, hkd⟩ : ∃ kd, y.kids[k]'(by rw [HK.out]; exact hlt) = kd := ⟨_, rfl⟩
   have HKD := Lib.hid hkd
   rw [hkd] at e0 e1 e2
   have HKI : Hid (kd.In w B0 /\ kd ∈ y.kids) := Lib.hid ⟨HIN.out.kid (by rw [<- hkd]; exact List.getElem_mem _), by rw [<- hkd]; exact List.getElem_mem _⟩
   have hrw : wr.ownsRow 0 3 1 r.row r.z.length (ints r.z) := qb6_ HRW.out (fun g hg => by
    obtain ⟨h1, arr, h2⟩ := qak_ HRW.out g hg
    exact hai.chg.block g h1 (fun e => by
     rcases e with rfl | rfl | e
     ·exact absurd (qag_ h2 HC0.out) (by decide)
     ·exact absurd (qag_ h2 HR0.out) (by decide)
     ·obtain ⟨_, arr2, h3⟩ := qak_ HS0.out g e
      exact absurd (qag_ h2 h3) (by decide)))
   obtain ⟨pA, pc, ep, hcel, hp1, hp2, _⟩ := qai_ hrw
   have d0 := (qaq_ (r := { r with kA := kA, kc := kc, ks := ks }) hai.rbox).1
   replace d0 : wr.cell? ⟨r.b, 0, none⟩ = some (.slice pA r.z.length pc) := by
    have h : some (Value.slice r.A r.z.length r.c) = some (Value.slice pA r.z.length pc) := congrArg some ep
    rw [<- h]; exact d0
   have hlen : rest.length <= heftL (y.kids.take k) := by
    have h1 : rest.length = (qaf_ (y.kids.take k) r.z 0).length := by
     have h2 := congrArg List.length hai.zs
     rw [List.length_map, HRY.out] at h2
     exact h2
    rw [h1]
    exact qcw_ _ _ _
   have hh2 : heftL (y.kids.take k) + heftN kd <= heftL y.kids := by
    have h1 := qbh_ y.kids k (by rw [HK.out]; exact hlt)
    have h2 := qbb_ y.kids (k + 1)
    rw [hkd] at h1
    omega
   have HB1 : Hid (D.length + 1 + rest.length + heftN kd <= 268435456 /\ r.z.length + 1 + heftN kd <= 268435456) := Lib.hid (by
    have h1 := HZ.out
    rw [HZL.out] at h1
    omega)
   obtain ⟨PL, hPL⟩ : ∃ PL, r.z.length = PL := ⟨_, rfl⟩
   have HPL := Lib.hid hPL
   rw [hPL] at d0 hcel hp1
   have hpl2 : PL + 1 <= 268435456 := by have := HB1.out; omega
   have CAT := Lib.hid (fun (W : World) (g g1 : Nat) (hb : Below wr.heap.size wr W) => concat15 pA r.z PL pc k hPL (by omega) W g g1 (hcel.on hb))
   have hrl : r.b < wr.heap.size := hai.lt.2.1
   have hkm2 : K * 64 <= 140737488351232 := by have := (HIN.out.name_le).2.2; rw [HK.out] at this; exact this
   clear hai hbel hrw hcel hlen hh2 hkd hPL ep hp1 hp2
   -- what is made of the next spot
   have NEXT : Hid (∀ (w3 : World) (A3 : Option Addr) (c3 : Nat), Below wr.heap.size wr w3 -> w3.ownsRow 0 3 1 (.slice A3 (PL + 1) c3) (PL + 1) (ints (r.z ++ [k])) -> PL + 1 <= c3 -> c3 <= 9223372036854775807 ->
     ∃ kA' kc' w5, (Builtin.append_ #[72, 72] 72 #[.slice kA k kc, .slice (some ⟨w3.heap.size + 1, 0, none⟩) 1 1]).run Tryz.prog ((w3.alloc (.cells #[.slice A3 (PL + 1) c3, .string kd.name, kd.pv, kd.kv, .pointer (some ⟨r.b, 0, none⟩), .slice none 0 0, .bool false, .int .i64 0, .slice none 0 0] 80)).alloc (.cells #[.pointer (some ⟨w3.heap.size, 0, none⟩)] 75)) = .ok (.slice kA' (k + 1) kc') w5 /\
      w5.cell? ⟨r.b, 5, none⟩ = some (.slice kA k kc) /\ w5.frozen? ⟨r.b, 5, none⟩ = false /\
      Calls Tryz.prog 45 #[.pointer (some ⟨bc, 0, none⟩), .pointer (some ⟨w3.heap.size, 0, none⟩)] (w5.setCell ⟨r.b, 5, none⟩ (.slice kA' (k + 1) kc')) fun e w' => e = .returned (.tuple #[]) /\ ∃ rest2 kA2 kc2 ks2 A2 c2, AddI t bc w D A0 c0 r d (k + 1) rest2 kA2 kc2 ks2 A2 c2 w') := Lib.hid (by
    intro w3 A3 c3 hb3 ho3 h31 h32
    have hz3 : (r.z ++ [k]).length = PL + 1 := by rw [List.length_append, HPL.out]; rfl
    obtain ⟨kA', kc', w5, r5, hrb5, hkk⟩ := (HAI.out.on hb3).kid (Nat.le_trans HSW.out hb3.size) HLR.out.2 ⟨w3.heap.size, r.z ++ [k], A3, c3, kd, some r.b, none, 0, []⟩ rfl (by simp only [SpR.row]; rw [hz3]; exact ho3) (by omega)
    have hw5 := qaq_ (r := { r with kA := kA, kc := kc, ks := ks }) hrb5
    have hkl := HAI.out.kl
    refine ⟨kA', kc', w5, ?_, by have := hw5.2.2.2.2.2.1; rw [<- hkl]; exact this, Lib.frozen_of_heap hrb5 5, ?_⟩
    ·have he : spO ⟨w3.heap.size, r.z ++ [k], A3, c3, kd, some r.b, none, 0, []⟩ SpD.zero = .cells #[.slice A3 (PL + 1) c3, .string kd.name, kd.pv, kd.kv, .pointer (some ⟨r.b, 0, none⟩), .slice none 0 0, .bool false, .int .i64 0, .slice none 0 0] 80 := by
      simp only [spO, hz3]; rfl
     rw [he] at r5
     exact r5
    ·have hD : (D ++ r.b :: rest.map SpR.b).length = D.length + 1 + rest.length := by simp; omega
     have hsz := hkk.chg.size
     refine (IH.out kd HKI.out.2 ⟨w3.heap.size, r.z ++ [k], A3, c3, kd, some r.b, none, 0, []⟩ SpD.zero (D ++ r.b :: rest.map SpR.b) A c _ rfl rfl rfl rfl (by rw [hD]; exact hkk.cbox) hkk.kbox (by rw [hD]; exact hkk.srow) ⟨HBB.out.1, Nat.le_trans HBB.out.2.2.1 hkk.knew.1, Nat.le_trans HBB.out.2.2.1 hsz, fun g hg => ?_⟩ ?_ ?_ hkk.prow (by rw [hD]; exact HB1.out.1) (by rw [hz3, <- HPL.out]; exact HB1.out.2)).mono ?_
     ·rw [hD] at hg
      rcases hkk.sown with e | ⟨g2, e, h2⟩
      ·exact HBB.out.2.2.2 g (e ▸ hg)
      ·rw [hg] at e
       cases e
       exact Nat.le_trans HBB.out.2.2.1 h2
     ·exact HKI.out.1.under (hkk.chg.below0 HBB.out.2.2.1 (fun g e => by
       rcases e with rfl | rfl | e
       ·exact HBB.out.1
       ·exact HBB.out.2.1
       ·exact HBB.out.2.2.2 g e))
     ·exact qe8_ HND.out (by rw [<- HKD.out]; exact List.getElem?_eq_getElem _)
     ·rintro e w7 ⟨rfl, rest2, kA2, kc2, ks2, A2, c2, h7⟩
      refine ⟨rfl, _, _, _, _, _, _, hkk.next hsz HLR.out.2 h7 rfl rfl (qe8_ HND.out (by rw [<- HKD.out]; exact List.getElem?_eq_getElem _)) ⟨by rw [hz3]; exact h31, h32⟩ (by rw [HRY.out, HK.out]; exact hlt) ?_⟩
      show kd = _
      rw [<- HKD.out]
      congr 1
      exact HRY.out ▸ rfl)
   clear IH HIN HND HRW HC0 HS0 HR0 HKD HKI HZ HZL HBB HB1 HRY
   obtain ⟨kn, kpa, kpc, kps, kka, kkc, kks⟩ := kd
   replace e0 : wr.cell? ⟨nb, no + k * 3, none⟩ = some (Value.string kn) := e0
   replace e1 : wr.cell? ⟨nb, no + k * 3 + 1, none⟩ = some (Value.slice kpa kps.length kpc) := e1
   replace e2 : wr.cell? ⟨nb, no + k * 3 + 2, none⟩ = some (Value.slice kka kks.length kkc) := e2
   simp only [Nd.name, Nd.pv, Nd.kv, Nd.pa, Nd.pc, Nd.props, Nd.ka, Nd.kc, Nd.kids] at NEXT
   rw [enk]
   generalize kps.length = kpl at *
   generalize kks.length = kkl at *
   have HS : Hid (∀ W, Below (wr.heap.size + 1) (wr.alloc (.cells #[Value.string kn, .slice kpa kpl kpc, .slice kka kkl kkc] 27)) W -> (W.cell? ⟨wr.heap.size, 0, none⟩ = some (Value.string kn) /\ W.cell? ⟨wr.heap.size, 1, none⟩ = some (Value.slice kpa kpl kpc) /\ W.cell? ⟨wr.heap.size, 2, none⟩ = some (Value.slice kka kkl kkc)) /\ W.cell? ⟨r.b, 0, none⟩ = some (.slice pA PL pc)) := Lib.hid (fun W hW => by
    have h1 : ∀ i, W.cell? ⟨wr.heap.size, i, none⟩ = (wr.alloc (.cells #[Value.string kn, .slice kpa kpl kpc, .slice kka kkl kkc] 27)).cell? ⟨wr.heap.size, i, none⟩ := fun i => hW.cell (p := ⟨wr.heap.size, i, none⟩) (Nat.lt_succ_self _)
    refine ⟨⟨?_, ?_, ?_⟩, ?_⟩
    ·rw [h1]; exact World.cell?_alloc_new _ _ _ _
    ·rw [h1]; exact World.cell?_alloc_new _ _ _ _
    ·rw [h1]; exact World.cell?_alloc_new _ _ _ _
    ·rw [hW.cell (p := ⟨r.b, 0, none⟩) (by show r.b < _; omega), World.cell?_alloc_lt _ _ ⟨r.b, 0, none⟩ hrl]; exact d0)
   have HA := Lib.hid ((Below.refl wr.heap.size wr).alloc (Nat.le_refl _) (.cells #[Value.string kn, .slice kpa kpl kpc, .slice kka kkl kkc] 27))
   have HD := Lib.hid (Below.refl (wr.heap.size + 1) (wr.alloc (.cells #[Value.string kn, .slice kpa kpl kpc, .slice kka kkl kkc] 27))).drew
   have H4 := Lib.hid (HD.out.alloc (by simp) (.cells #[Value.int .i64 (k : Int)] 3))
   have H5 := Lib.hid (H4.out.alloc (by simp) (.cells #[.slice pA PL pc, .slice (some ⟨wr.heap.size + 1, 0, none⟩) 1 1] 56))
   have z0 : ((wr.alloc (.cells #[Value.string kn, .slice kpa kpl kpc, .slice kka kkl kkc] 27)).drew).heap.size = wr.heap.size + 1 := by simp
   have z1 : (((wr.alloc (.cells #[Value.string kn, .slice kpa kpl kpc, .slice kka kkl kkc] 27)).drew.alloc (.cells #[Value.int .i64 (k : Int)] 3))).heap.size = wr.heap.size + 1 + 1 := by simp
   have E1 : (((wr.alloc (.cells #[Value.string kn, .slice kpa kpl kpc, .slice kka kkl kkc] 27)).drew.alloc (.cells #[Value.int .i64 (k : Int)] 3)).alloc (.cells #[.slice pA PL pc, .slice (some ⟨wr.heap.size + 1, 0, none⟩) 1 1] 56)).cell? ⟨wr.heap.size + 1, 0, none⟩ = some (.int .i64 (k : Int)) := Lib.cell?_alloc_some _ (by rw [<- z0]; exact World.cell?_alloc_new _ _ _ _)
   have E2 : (((wr.alloc (.cells #[Value.string kn, .slice kpa kpl kpc, .slice kka kkl kkc] 27)).drew.alloc (.cells #[Value.int .i64 (k : Int)] 3)).alloc (.cells #[.slice pA PL pc, .slice (some ⟨wr.heap.size + 1, 0, none⟩) 1 1] 56)).cell? ⟨wr.heap.size + 1 + 1, 0, none⟩ = some (.slice pA PL pc) := by rw [<- z1]; exact World.cell?_alloc_new _ _ _ _
   have E3 : (((wr.alloc (.cells #[Value.string kn, .slice kpa kpl kpc, .slice kka kkl kkc] 27)).drew.alloc (.cells #[Value.int .i64 (k : Int)] 3)).alloc (.cells #[.slice pA PL pc, .slice (some ⟨wr.heap.size + 1, 0, none⟩) 1 1] 56)).cell? ⟨wr.heap.size + 1 + 1, 1, none⟩ = some (.slice (some ⟨wr.heap.size + 1, 0, none⟩) 1 1) := by rw [<- z1]; exact World.cell?_alloc_new _ _ _ _
   have CC := Lib.hid (CAT.out (((wr.alloc (.cells #[Value.string kn, .slice kpa kpl kpc, .slice kka kkl kkc] 27)).drew.alloc (.cells #[Value.int .i64 (k : Int)] 3)).alloc (.cells #[.slice pA PL pc, .slice (some ⟨wr.heap.size + 1, 0, none⟩) 1 1] 56)) (wr.heap.size + 1 + 1) (wr.heap.size + 1) (HA.out.trans (H5.out.mono (Nat.le_succ _))) (by simp) (by simp) E1 E2 E3)
   clear z0 z1 E1 E2 E3 CAT
   go_wp2_with fail
   refine wp_region_held_drew (S := fun W => (W.cell? ⟨wr.heap.size, 0, none⟩ = some (Value.string kn) /\ W.cell? ⟨wr.heap.size, 1, none⟩ = some (Value.slice kpa kpl kpc) /\ W.cell? ⟨wr.heap.size, 2, none⟩ = some (Value.slice kka kkl kkc)) /\ W.cell? ⟨r.b, 0, none⟩ = some (.slice pA PL pc)) (by kernel_rfl) (HS.out _ HD.out) (fun hHeld => ?_)
   refine tk 0 hHeld fun _ => ?_
   refine tk 1 hHeld fun _ => ?_
   refine tk 2 hHeld fun _ => ?_
   refine tk 3 hHeld fun _ => ?_
   refine tk 4 hHeld fun _ => ?_
   refine tk 8 hHeld fun _ => ?_
   refine tk 9 hHeld fun _ => ?_
   refine qab_ 5 (by kernel_rfl) rfl (by rfl) (fun K hK => ?_)
   go_simp
   refine hK.out _ _ (HS.out _ H4.out) (fun hHeld => ?_)
   clear hK K
   refine qab_ 6 (by kernel_rfl) rfl (by rfl) (fun K hK => ?_)
   go_simp
   refine hK.out _ _ (HS.out _ H5.out) (fun hHeld => ?_)
   clear hK K
   refine qab_ 7 (by kernel_rfl) rfl (by rfl) (fun K hK => ?_)
   go_simp
   refine CC.out.mono ?_
   rintro e w3 ⟨A3, c3, rfl, hb3, ho3, h31, h32⟩
   have B3 := Lib.hid (H5.out.trans (hb3.mono (Nat.le_trans (by simp) H5.out.size)))
   obtain ⟨kA', kc', w5, r5, g5, f6, hcall⟩ := NEXT.out w3 A3 c3 (HA.out.trans (B3.out.mono (Nat.le_succ _))) ho3 h31 h32
   have HCALL := Lib.hid hcall
   clear hb3 ho3 h31 h32 hcall CC
   dsimp only
   refine hK.out _ _ (HS.out _ B3.out) (fun hHeld => ?_)
   clear hK K
   refine tk 10 hHeld fun _ => ?_
   have k5 : w3.cell? ⟨r.b, 5, none⟩ = some (.slice kA k kc) := by
    have h1 := (HAI.out.on (HA.out.trans (B3.out.mono (Nat.le_succ _)))).rbox
    have h2 := (qaq_ (r := { r with kA := kA, kc := kc, ks := ks }) h1).2.2.2.2.2.1
    have h3 := HAI.out.kl
    rw [<- h3]; exact h2
   have h33 : r.b < w3.heap.size := by have := B3.out.size; simp at this; omega
   have h34 : ¬ r.b = w3.heap.size := by omega
   refine qab_ 11 (by kernel_rfl) rfl (by rfl) (fun K hK => ?_)
   go_simp
   refine hK.out _ _ (HS.out _ (B3.out.alloc (by have := B3.out.size; simpa using this) _)) (fun hHeld => ?_)
   clear hK K
   refine tk 12 hHeld fun _ => ?_
   refine wpAnyH_done (by kernel_rfl) ?_ _
   clear hHeld
   clear e0 e1 e2 d0
   go_wp2_with (at_builtin; refine Lib.wpList_append_run_sl _ rfl _ _ _ rfl _ _ rfl rfl r5 ?_)
   refine HCALL.out.mono ?_
   rintro e w7 ⟨rfl, rest2, kA2, kc2, ks2, A2, c2, h7⟩
   have H7 := Lib.hid h7
   clear h7 HCALL k5 h33 h34 r5 g5 f6
   go_wp2
   go_roundw
   case rel => exact ⟨k + 1, rest2, kA2, kc2, ks2, A2, c2, by omega, by go_num, H7.out⟩
   case measure => simp [intOf]; omega
  ·obtain rfl : k = K := by omega
   clear hai
   go_wp2
   go_end0
   exact ⟨rfl, _, _, _, _, _, _, HAI.out⟩
section
def rootR (t : Tr) (g : Nat) : SpR := ⟨g + 2, [], none, 0, t.root, none, none, 0, []⟩
structure NewI (t : Tr) (w : World) (d : SpD) (W : World) : Prop where
 tb : W.heap[w.heap.size]? = some (.cells #[.int .u32 t.boot, .slice t.ra t.rs.length t.rc, .string t.root.name, .slice t.root.pa t.root.props.length t.root.pc, .slice t.root.ka t.root.kids.length t.root.kc] 29 (0, 0))
 cb : W.heap[w.heap.size + 1]? = some (chkO t none 0 0)
 sb : W.heap[w.heap.size + 2]? = some (spO (rootR t w.heap.size) d)
 bel : Below w.heap.size w W
 size : w.heap.size + 3 <= W.heap.size
 ln : LinesP (fun b => w.heap.size + 3 <= b) W d.A d.m d.ws /\ d.m <= d.c /\ d.c <= 9223372036854775807
section
variable {t : Tr} {w W W' : World} {d : SpD}
theorem NewI.on (h : NewI t w d W) (hb : Below W.heap.size W W') : NewI t w d W' := by
 have := h.size
 exact ⟨(hb.block _ (by omega)).trans h.tb, (hb.block _ (by omega)).trans h.cb, (hb.block _ (by omega)).trans h.sb, h.bel.trans (hb.mono h.bel.size), Nat.le_trans h.size hb.size, h.ln.1.keep hb.size (fun k _ hk => hb.block k hk), h.ln.2⟩
theorem NewI.put (h : NewI t w d W) (i : Nat) (v : Value) (d' : SpD) (hs : (W.setCell ⟨w.heap.size + 2, i, none⟩ v).heap[w.heap.size + 2]? = some (spO (rootR t w.heap.size) d')) (hl : LinesP (fun b => w.heap.size + 3 <= b) W d'.A d'.m d'.ws /\ d'.m <= d'.c /\ d'.c <= 9223372036854775807) : NewI t w d' (W.setCell ⟨w.heap.size + 2, i, none⟩ v) := by
 have hz : (W.setCell ⟨w.heap.size + 2, i, none⟩ v).heap.size = W.heap.size := by simp [World.setCell]
 exact ⟨(Below.heap_setCell _ _ _ _ (by simp)).trans h.tb, (Below.heap_setCell _ _ _ _ (by simp)).trans h.cb, hs, h.bel.setCell (p := ⟨w.heap.size + 2, i, none⟩) (by simp) v, by rw [hz]; exact h.size, hl.1.keep (by omega) (fun k hk _ => Below.heap_setCell _ _ _ _ (fun e => by subst e; simp at hk)), hl.2⟩
theorem NewI.set6 (h : NewI t w d W) (b : Bool) : NewI t w { d with en := b } (W.setCell ⟨w.heap.size + 2, 6, none⟩ (.bool b)) :=
 h.put 6 _ { d with en := b } (by simp [World.setCell, Array.getElem?_modify, h.sb, spO, rootR]) h.ln
theorem NewI.set7 (h : NewI t w d W) (k : Int) : NewI t w { d with kd := k } (W.setCell ⟨w.heap.size + 2, 7, none⟩ (.int .i64 k)) :=
 h.put 7 _ { d with kd := k } (by simp [World.setCell, Array.getElem?_modify, h.sb, spO, rootR]) h.ln
theorem NewI.set8 (h : NewI t w d W) (A : Option Addr) (m c : Nat) (ws : List (List Nat × Int)) (hl : LinesP (fun b => w.heap.size + 3 <= b) W A m ws /\ m <= c /\ c <= 9223372036854775807) : NewI t w { d with A := A, m := m, c := c, ws := ws } (W.setCell ⟨w.heap.size + 2, 8, none⟩ (.slice A m c)) :=
 h.put 8 _ { d with A := A, m := m, c := c, ws := ws } (by simp [World.setCell, Array.getElem?_modify, h.sb, spO, rootR]) hl
theorem NewI.cells (h : NewI t w d W) : (W.cell? ⟨w.heap.size, 0, none⟩ = some (.int .u32 t.boot) /\ W.cell? ⟨w.heap.size, 1, none⟩ = some (.slice t.ra t.rs.length t.rc) /\ W.cell? ⟨w.heap.size, 2, none⟩ = some (.string t.root.name) /\ W.cell? ⟨w.heap.size, 3, none⟩ = some (.slice t.root.pa t.root.props.length t.root.pc) /\ W.cell? ⟨w.heap.size, 4, none⟩ = some (.slice t.root.ka t.root.kids.length t.root.kc)) /\
  (W.cell? ⟨w.heap.size + 2, 6, none⟩ = some (.bool d.en) /\ W.cell? ⟨w.heap.size + 2, 7, none⟩ = some (.int .i64 d.kd) /\ W.cell? ⟨w.heap.size + 2, 8, none⟩ = some (.slice d.A d.m d.c)) /\ W.frozen? ⟨w.heap.size + 2, 6, none⟩ = false /\ W.frozen? ⟨w.heap.size + 2, 7, none⟩ = false /\ W.frozen? ⟨w.heap.size + 2, 8, none⟩ = false := by
 have hsb := qaq_ (r := rootR t w.heap.size) h.sb
 refine ⟨⟨?_, ?_, ?_, ?_, ?_⟩, ⟨hsb.2.2.2.2.2.2.1, hsb.2.2.2.2.2.2.2.1, hsb.2.2.2.2.2.2.2.2⟩, Lib.frozen_of_heap h.sb 6, Lib.frozen_of_heap h.sb 7, Lib.frozen_of_heap h.sb 8⟩ <;> (rw [Lib.cell_of_heap h.tb]; rfl)
theorem qot_ (t : Tr) (w : World) : NewI t w SpD.zero (((w.alloc (.cells #[.int .u32 t.boot, .slice t.ra t.rs.length t.rc, .string t.root.name, .slice t.root.pa t.root.props.length t.root.pc, .slice t.root.ka t.root.kids.length t.root.kc] 29)).alloc (chkO t none 0 0)).alloc (spO (rootR t w.heap.size) SpD.zero)) := by
 obtain ⟨V0, hV0⟩ : ∃ V0, w.alloc (.cells #[.int .u32 t.boot, .slice t.ra t.rs.length t.rc, .string t.root.name, .slice t.root.pa t.root.props.length t.root.pc, .slice t.root.ka t.root.kids.length t.root.kc] 29) = V0 := ⟨_, rfl⟩
 have z0 : V0.heap.size = w.heap.size + 1 := by rw [<- hV0]; simp
 have n0 : V0.heap[w.heap.size]? = some (.cells #[.int .u32 t.boot, .slice t.ra t.rs.length t.rc, .string t.root.name, .slice t.root.pa t.root.props.length t.root.pc, .slice t.root.ka t.root.kids.length t.root.kc] 29 (0, 0)) := by rw [<- hV0]; exact heap_alloc_new _ _
 have b0 : Below w.heap.size w V0 := by rw [<- hV0]; exact (Below.refl _ _).alloc (Nat.le_refl _) _
 rw [hV0]
 obtain ⟨V1, hV1⟩ : ∃ V1, V0.alloc (chkO t none 0 0) = V1 := ⟨_, rfl⟩
 have z1 : V1.heap.size = w.heap.size + 2 := by rw [<- hV1]; simp [z0]
 have n1 : V1.heap[w.heap.size + 1]? = some (chkO t none 0 0) := by rw [<- hV1, <- z0]; exact heap_alloc_new _ _
 have b1 : Below V0.heap.size V0 V1 := by rw [<- hV1]; exact (Below.refl _ _).alloc (Nat.le_refl _) _
 rw [hV1]
 obtain ⟨V2, hV2⟩ : ∃ V2, V1.alloc (spO (rootR t w.heap.size) SpD.zero) = V2 := ⟨_, rfl⟩
 have z2 : V2.heap.size = w.heap.size + 3 := by rw [<- hV2]; simp [z1]
 have n2 : V2.heap[w.heap.size + 2]? = some (spO (rootR t w.heap.size) SpD.zero) := by rw [<- hV2, <- z1]; exact heap_alloc_new _ _
 have b2 : Below V1.heap.size V1 V2 := by rw [<- hV2]; exact (Below.refl _ _).alloc (Nat.le_refl _) _
 rw [hV2]
 exact ⟨(b2.block _ (by omega)).trans ((b1.block _ (by omega)).trans n0), (b2.block _ (by omega)).trans n1, n2, (b0.trans (b1.mono (by omega))).trans (b2.mono (by omega)), by omega, LinesP.nil _ _ _, Nat.le_refl _, by decide⟩
end
def RootD (t : Tr) (d : SpD) : Prop := d.en = (onP t.root).1 /\ d.kd = (if (onP t.root).1 = true then (kindP t.root).1 else 0) /\ d.ws = (if (onP t.root).1 = true then (match qce_ t.root [] with | .ok ws => ws | .error _ => []) else [])
theorem chk_of {t : Tr} {w W : World} {d : SpD} {rest : List SpR} {kA : Option Addr} {kc : Nat} {ks : List Nat} {A : Option Addr} {c : Nat} {W' : World} (hn : NewI t w d W) (h : AddI t (w.heap.size + 1) W [] none 0 (rootR t w.heap.size) d t.root.kids.length rest kA kc ks A c W') :
  Chk W' t (w.heap.size + 1) ({ rootR t w.heap.size with kA := kA, kc := kc, ks := ks } :: rest) (d :: rest.map fun _ => SpD.zero) := by
 have hsz := hn.size
 have hl0 : ([] : List Nat).length + 1 + rest.length = ({ rootR t w.heap.size with kA := kA, kc := kc, ks := ks } :: rest).length := by simp; omega
 have h1 := h.cbox
 have h2 := h.srow
 rw [hl0] at h1 h2
 have hnew : ∀ q ∈ rest, W.heap.size <= q.b := h.new
 have hkeep : ∀ k, w.heap.size + 3 <= k -> k < W.heap.size -> W'.heap[k]? = W.heap[k]? := fun k hk hk2 => h.chg.block k hk2 (fun e => by
  rcases e with e | e | e
  ·omega
  ·have : k = w.heap.size + 2 := e
   omega
  ·cases e)
 have e2 : (({ rootR t w.heap.size with kA := kA, kc := kc, ks := ks } :: rest).map fun r => bptr r.b) = List.map bptr ([] ++ (rootR t w.heap.size).b :: List.map SpR.b rest) := by simp [List.map_map, Function.comp_def]
 refine ⟨⟨A, c, h1, by rw [e2]; exact h2⟩, by simp, fun i hi h' => ?_, ?_, fun q hq => ?_, fun x hx => ?_⟩
 ·rcases i with _ | i
  ·exact h.rbox
  ·simp only [List.getElem_cons_succ, List.getElem_map]
   exact h.box _ (List.getElem_mem _)
 ·rw [List.map_cons, List.nodup_cons]
  refine ⟨fun hm => ?_, h.nod⟩
  obtain ⟨q, hq, e⟩ := List.mem_map.1 hm
  have := hnew q hq
  have e2 : q.b = w.heap.size + 2 := e
  omega
 ·have hsub : ∀ x ∈ (rootR t w.heap.size).bz :: rest.map SpR.bz, x ∈ ({ rootR t w.heap.size with kA := kA, kc := kc, ks := ks } :: rest).map SpR.bz := fun x hx => hx
  rcases List.mem_cons.1 hq with rfl | hq
  ·refine ⟨rfl, ⟨Nat.le_refl _, by show (0 : Nat) <= _; omega⟩, World.ownsRow_nil _ _ _ _, ?_, .inl ⟨rfl, rfl⟩, h.kl, fun i hi => List.mem_cons_of_mem _ (h.down i hi)⟩
   have h3 := h.krow
   rw [<- h.kl] at h3
   exact h3
  ·exact (h.stat q hq).sub hsub
 ·rcases List.mem_cons.1 hx with rfl | hx
  ·refine ⟨((hn.ln.1.mono (Q := fun b => w.heap.size + 3 <= b /\ b < W.heap.size) (fun b hb h => ⟨h, hb⟩)).keep h.chg.size (fun k hk hk2 => hkeep k hk.1 hk2)).mono (fun b _ hb hm => ?_), hn.ln.2⟩
   rw [List.map_cons, List.mem_cons] at hm
   rcases hm with e | hm
   ·have : b = w.heap.size + 2 := e
    omega
   ·obtain ⟨q, hq, e⟩ := List.mem_map.1 hm
    have := hnew q hq
    omega
  ·obtain ⟨q, _, rfl⟩ := List.mem_map.1 hx
   exact ⟨LinesP.nil _ _ _, Nat.le_refl _, by show (0 : Nat) <= _; omega⟩
def NewOut (t : Tr) (w : World) (e : Ending) (w' : World) : Prop := ∃ (bc : Nat) (r : SpR) (rest : List SpR) (d : SpD), e = .returned (bptr bc) /\ Chk w' t bc (r :: rest) (d :: rest.map fun _ => SpD.zero) /\ (r :: rest).map SpR.z = qac_ t.root [] /\ r.ab = none /\ RootD t d /\ w.heap.size <= bc /\ (∀ q ∈ r :: rest, w.heap.size <= q.b) /\ Below w.heap.size w w'
theorem new_out {t : Tr} {w W : World} {d : SpD} {W' : World} (hn : NewI t w d W) (hd : RootD t d) (h : ∃ rest kA kc ks A c, AddI t (w.heap.size + 1) W [] none 0 (rootR t w.heap.size) d t.root.kids.length rest kA kc ks A c W') : NewOut t w (.returned (bptr (w.heap.size + 1))) W' := by
 obtain ⟨rest, kA, kc, ks, A, c, h⟩ := h
 refine ⟨w.heap.size + 1, { rootR t w.heap.size with kA := kA, kc := kc, ks := ks }, rest, d, rfl, chk_of hn h, ?_, rfl, hd, by omega, fun q hq => ?_, ?_⟩
 ·have hz := h.zs
  have e : (rootR t w.heap.size).y.kids.take t.root.kids.length = t.root.kids := List.take_length
  rw [e] at hz
  rw [List.map_cons, hz, qa5_]
  rfl
 ·rcases List.mem_cons.1 hq with rfl | hq
  ·show w.heap.size <= w.heap.size + 2
   omega
  ·have := h.new q hq
   have := hn.size
   omega
 ·refine hn.bel.trans (h.chg.below0 hn.bel.size (fun g e => ?_))
  rcases e with rfl | rfl | e
  ·omega
  ·show w.heap.size <= w.heap.size + 2
   omega
  ·cases e
theorem qhw_ (t : Tr) (w : World) (hin : t.In w w.heap.size) (hh : heftN t.root <= 134217728) :
  Calls Tryz.prog 22 #[t.val] w fun e w' => NewOut t w e w' := by
 have C1 := Lib.hid (fun W (hW : Below w.heap.size w W) => qj3_ t.root W (hin.root.on hW) hh)
 have C2 := Lib.hid (fun W (hW : Below w.heap.size w W) => qfq_ t.root W (hin.root.on hW) hh)
 have C3 := Lib.hid (fun W (hW : Below w.heap.size w W) => qhd_ t [] none 0 0 W (hin.on hW) hh (Cel.nil _ _ _) (Nat.le_refl _) (by omega))
 have CA := Lib.hid (fun (d : SpD) (W : World) (hI : NewI t w d W) => add_any t w.heap.size (w.heap.size + 1) t.root (rootR t w.heap.size) d [] none 0 W rfl rfl rfl rfl hI.cb hI.sb (World.ownsRow_nil _ _ _ _) ⟨by omega, by show w.heap.size <= w.heap.size + 2; omega, hI.bel.size, fun g hg => (by cases hg)⟩ (hin.root.under hI.bel) rfl (World.ownsRow_nil _ _ _ _) (by simp only [List.length_nil]; omega) (by show (0 : Nat) + _ <= _; omega))
 have HO := Lib.hid (fun (d : SpD) (W W' : World) (hI : NewI t w d W) (hd : RootD t d) h => new_out (W' := W') hI hd h)
 have HS := Lib.hid (qot_ t w)
 obtain ⟨X, hX⟩ : ∃ X, onP t.root = X := ⟨_, rfl⟩
 obtain ⟨xb, xe⟩ := X
 obtain ⟨Y, hY⟩ : ∃ Y, kindP t.root = Y := ⟨_, rfl⟩
 obtain ⟨yk, yb, ye⟩ := Y
 obtain ⟨Z, hZ⟩ : ∃ Z, qce_ t.root [] = Z := ⟨_, rfl⟩
 have HRD : Hid (∀ d : SpD, d.en = xb -> d.kd = (if xb = true then yk else 0) -> d.ws = (if xb = true then (match Z with | .ok ws => ws | .error _ => []) else []) -> RootD t d) := Lib.hid (fun d h1 h2 h3 => by
  subst hZ
  exact ⟨by rw [hX]; exact h1, by rw [hX, hY]; exact h2, by rw [hX]; exact h3⟩)
 rw [hX] at C1
 rw [hY] at C2
 rw [hZ] at C3
 clear hX hY hZ hin hh
 obtain ⟨boot, ra, rc, rs, ⟨nm, pa, pc, ps, ka, kc, ks⟩⟩ := t
 obtain ⟨T, hT⟩ : ∃ T, Tr.mk boot ra rc rs (Nd.mk nm pa pc ps ka kc ks) = T := ⟨_, rfl⟩
 have HT := Lib.hid hT
 have e0 : (T.boot = boot /\ T.ra = ra /\ T.rs = rs /\ T.rc = rc) /\ T.root = Nd.mk nm pa pc ps ka kc ks := by subst hT; exact ⟨⟨rfl, rfl, rfl, rfl⟩, rfl⟩
 have hval : T.val = .agg #[.int .u32 boot, .slice ra rs.length rc, .string nm, .slice pa ps.length pc, .slice ka ks.length kc] := by subst hT; rfl
 have hrv : T.root.val = .agg #[.string nm, .slice pa ps.length pc, .slice ka ks.length kc] := by rw [e0.2]; rfl
 have hch : chkO T none 0 0 = .cells #[.int .u32 boot, .slice ra rs.length rc, .string nm, .slice pa ps.length pc, .slice ka ks.length kc, .slice none 0 0] 74 := by subst hT; rfl
 have hsp : spO (rootR T w.heap.size) SpD.zero = .cells #[.slice none 0 0, .string nm, .slice pa ps.length pc, .slice ka ks.length kc, .pointer none, .slice none 0 0, .bool false, .int .i64 0, .slice none 0 0] 80 := by subst hT; rfl
 rw [hT] at C1 C2 C3 CA HO HS HRD ⊢
 rw [hch, hsp] at HS
 have hbx : ((.cells #[.int .u32 T.boot, .slice T.ra T.rs.length T.rc, .string T.root.name, .slice T.root.pa T.root.props.length T.root.pc, .slice T.root.ka T.root.kids.length T.root.kc] 29 : Obj)) = .cells #[.int .u32 boot, .slice ra rs.length rc, .string nm, .slice pa ps.length pc, .slice ka ks.length kc] 29 := by subst hT; rfl
 rw [hbx] at HS
 have HCL : Hid (∀ (d : SpD) (W : World), NewI T w d W -> ((W.cell? ⟨w.heap.size, 0, none⟩ = some (.int .u32 boot) /\ W.cell? ⟨w.heap.size, 1, none⟩ = some (.slice ra rs.length rc) /\ W.cell? ⟨w.heap.size, 2, none⟩ = some (.string nm) /\ W.cell? ⟨w.heap.size, 3, none⟩ = some (.slice pa ps.length pc) /\ W.cell? ⟨w.heap.size, 4, none⟩ = some (.slice ka ks.length kc)) /\
  (W.cell? ⟨w.heap.size + 1 + 1, 6, none⟩ = some (.bool d.en) /\ W.cell? ⟨w.heap.size + 1 + 1, 7, none⟩ = some (.int .i64 d.kd) /\ W.cell? ⟨w.heap.size + 1 + 1, 8, none⟩ = some (.slice d.A d.m d.c)) /\ W.frozen? ⟨w.heap.size + 1 + 1, 6, none⟩ = false /\ W.frozen? ⟨w.heap.size + 1 + 1, 7, none⟩ = false /\ W.frozen? ⟨w.heap.size + 1 + 1, 8, none⟩ = false)) := Lib.hid (fun d W h => by
  have := h.cells
  subst hT
  exact this)
 rw [hval] at C3 ⊢
 rw [hrv] at C1 C2
 clear e0 hval hrv hch hsp hbx hT
 obtain ⟨⟨t0, t1, t2, t3, t4⟩, ⟨s6, s7, s8⟩, f6, f7, f8⟩ := HCL.out _ _ HS.out
 obtain ⟨W2, hW2⟩ : ∃ W2, ((w.alloc (.cells #[.int .u32 boot, .slice ra rs.length rc, .string nm, .slice pa ps.length pc, .slice ka ks.length kc] 29)).alloc (.cells #[.int .u32 boot, .slice ra rs.length rc, .string nm, .slice pa ps.length pc, .slice ka ks.length kc, .slice none 0 0] 74)).alloc (.cells #[.slice none 0 0, .string nm, .slice pa ps.length pc, .slice ka ks.length kc, .pointer none, .slice none 0 0, .bool false, .int .i64 0, .slice none 0 0] 80) = W2 := ⟨_, rfl⟩
 rw [hW2] at HS t0 t1 t2 t3 t4 s6 s7 s8 f6 f7 f8
 go_enter Tryz.func22, Tryz.ntmps22
 go_wp2_with fail
 refine (C1.out W2 HS.out.bel).mono ?_
 rintro e w3 ⟨rfl, hb⟩
 have H3 := Lib.hid (HS.out.on hb)
 clear hb t0 t1 t2 t3 t4 s6 s7 s8 f6 f7 f8 C1 HS hW2
 obtain ⟨⟨t0, t1, t2, t3, t4⟩, ⟨s6, s7, s8⟩, f6, f7, f8⟩ := HCL.out _ _ H3.out
 have H4 : Hid (NewI T w { SpD.zero with en := xb } (w3.setCell ⟨w.heap.size + 1 + 1, 6, none⟩ (.bool xb))) := Lib.hid (H3.out.set6 xb)
 cases xb
 ·have CAA := Lib.hid (CA.out _ _ H4.out)
  have HOO := Lib.hid (fun W' h => HO.out _ _ W' H4.out (HRD.out _ rfl rfl rfl) h)
  go_wp2_with fail
  refine CAA.out.mono ?_
  rintro e w5 ⟨rfl, h⟩
  have HF := Lib.hid (HOO.out w5 h)
  clear h CAA HOO t0 t1 t2 t3 t4 s6 s7 s8 f6 f7 f8
  go_wp2
  go_ret
  exact HF.out
 ·go_wp2_with fail
  clear t0 t1 t2 t3 t4 s6 s7 s8 f6 f7 f8
  generalize w3.setCell ⟨w.heap.size + 1 + 1, 6, none⟩ (.bool true) = W4 at *
  refine (C2.out W4 H4.out.bel).mono ?_
  rintro e w5 ⟨rfl, hb⟩
  have H5 := Lib.hid (H4.out.on hb)
  clear hb H4
  obtain ⟨⟨t0, t1, t2, t3, t4⟩, ⟨s6, s7, s8⟩, f6, f7, f8⟩ := HCL.out _ _ H5.out
  have H6 : Hid (NewI T w { SpD.zero with en := true, kd := yk } (w5.setCell ⟨w.heap.size + 1 + 1, 7, none⟩ (.int .i64 yk))) := Lib.hid (H5.out.set7 yk)
  go_wp2_with fail
  clear t0 t1 t2 t3 t4 s6 s7 s8 f6 f7 f8
  generalize w5.setCell ⟨w.heap.size + 1 + 1, 7, none⟩ (.int .i64 yk) = W6 at *
  refine (C3.out W6 H6.out.bel).mono ?_
  rintro e w7 ⟨hl, hb⟩
  have H7 := Lib.hid (H6.out.on hb)
  have hsz : w.heap.size + 3 <= W6.heap.size := H6.out.size
  clear hb H6 H5 C2 C3
  obtain ⟨⟨t0, t1, t2, t3, t4⟩, ⟨s6, s7, s8⟩, f6, f7, f8⟩ := HCL.out _ _ H7.out
  cases Z with
  | error er =>
   obtain rfl : e = .returned (.tuple #[.slice none 0 0, .int .i64 er]) := hl
   have H8 : Hid (NewI T w { SpD.zero with en := true, kd := yk } (w7.setCell ⟨w.heap.size + 1 + 1, 8, none⟩ (.slice none 0 0))) := Lib.hid (H7.out.set8 none 0 0 [] ⟨LinesP.nil _ _ _, Nat.le_refl _, by omega⟩)
   have CAA := Lib.hid (CA.out _ _ H8.out)
   have HOO := Lib.hid (fun W' h => HO.out _ _ W' H8.out (HRD.out _ rfl rfl rfl) h)
   go_wp2_with fail
   refine CAA.out.mono ?_
   rintro e w9 ⟨rfl, h⟩
   have HF := Lib.hid (HOO.out w9 h)
   clear h CAA HOO t0 t1 t2 t3 t4 s6 s7 s8 f6 f7 f8
   go_wp2
   go_ret
   exact HF.out
  | ok ws =>
   obtain ⟨A, m, c, rfl, hlp, hl1, hl2⟩ := hl
   have H8 : Hid (NewI T w { en := true, kd := yk, A := A, m := m, c := c, ws := ws } (w7.setCell ⟨w.heap.size + 1 + 1, 8, none⟩ (.slice A m c))) := Lib.hid (H7.out.set8 A m c ws ⟨hlp.mono (fun b _ hb => by omega), hl1, hl2⟩)
   have CAA := Lib.hid (CA.out _ _ H8.out)
   have HOO := Lib.hid (fun W' h => HO.out _ _ W' H8.out (HRD.out _ rfl rfl rfl) h)
   clear hlp hl1 hl2
   go_wp2_with fail
   refine CAA.out.mono ?_
   rintro e w9 ⟨rfl, h⟩
   have HF := Lib.hid (HOO.out w9 h)
   clear h CAA HOO t0 t1 t2 t3 t4 s6 s7 s8 f6 f7 f8
   go_wp2
   go_ret
   exact HF.out
end
theorem qe0_ : ∀ (l : List Nd) (q p : List Nat) (i : Nat), p ∈ qaf_ l q i -> ∃ j r, i <= j /\ p = q ++ [j] ++ r
 | [], q, p, i, h => by rw [qaf_] at h; cases h
 | k :: l, q, p, i, h => by
  rw [qaf_, List.mem_append] at h
  rcases h with h | h
  ·obtain ⟨r, e, _⟩ := (qcx_ k _ _).1 h
   exact ⟨i, r, Nat.le_refl _, e⟩
  ·obtain ⟨j, r, h1, e⟩ := qe0_ l q p (i + 1) h
   exact ⟨j, r, by omega, e⟩
theorem qkd_ : ∀ (n : Nd) (q : List Nat), (qac_ n q).Nodup := by
 refine Nd.ind ?_
 intro n ih q
 have hl : ∀ (l : List Nd) (i : Nat), (∀ k ∈ l, k ∈ n.kids) -> (qaf_ l q i).Nodup := by
  intro l
  induction l with
  | nil => intro i _; rw [qaf_]; exact List.nodup_nil
  | cons k l ihl =>
   intro i hk
   rw [qaf_, List.nodup_append]
   refine ⟨ih k (hk k (by simp)) _, ihl (i + 1) (fun x hx => hk x (by simp [hx])), fun a ha b hb e => ?_⟩
   subst e
   obtain ⟨r, e1, _⟩ := (qcx_ k _ _).1 ha
   obtain ⟨j, r2, hj, e2⟩ := qe0_ l q a (i + 1) hb
   rw [e1, List.append_assoc, List.append_assoc] at e2
   have e3 := List.append_cancel_left e2
   simp at e3
   omega
 rw [qa5_, List.nodup_cons]
 refine ⟨fun h => ?_, hl n.kids 0 (fun _ h => h)⟩
 obtain ⟨j, r, _, e⟩ := qe0_ n.kids q q 0 h
 have := congrArg List.length e
 simp at this
theorem qm6_ {R : Nd} {r : SpR} {rest : List SpR} (hz : (r :: rest).map SpR.z = qac_ R []) : r.z = [] /\ ((r :: rest).map SpR.z).Nodup /\ ∀ k (h : k < rest.length), rest[k].z ≠ [] := by
 have hn : ((r :: rest).map SpR.z).Nodup := by rw [hz]; exact qkd_ R []
 have h0 : r.z = [] := by
  rw [qa5_, List.map_cons] at hz
  exact (List.cons.inj hz).1
 refine ⟨h0, hn, fun k h e => ?_⟩
 rw [List.map_cons, List.nodup_cons] at hn
 exact hn.1 (List.mem_map.2 ⟨rest[k], List.getElem_mem h, by rw [e, h0]⟩)
def ErrV (e : Ending) : Prop := e = .returned .nilIface \/ (∃ er : Int, e = .returned (.iface 32 (.int .i64 er))) \/ ∃ s er, e = .returned (qjw_ s er)
def WholeOK : Prop := ∀ (t : Tr) (bc : Nat) (r : SpR) (rest : List SpR) (ds : List SpD) (w : World), Chk w t bc (r :: rest) ds -> (r :: rest).map SpR.z = qac_ t.root [] -> r.ab = none -> t.In w w.heap.size -> qb5_ t = 0 -> heftN t.root <= 134217728 -> Calls Tryz.prog 25 #[.pointer (some ⟨bc, 0, none⟩)] w fun e w' => ErrV e /\ Below w.heap.size w w'
theorem qnm_ (hWH : WholeOK) (t : Tr) (w : World) (hin : t.In w w.heap.size) (hck : qb5_ t = 0) (hh : heftN t.root <= 134217728) :
  Calls Tryz.prog 9 #[t.val] w fun e w' => ((qan_ t.root).2 ≠ 0 -> e = .returned (.iface 32 (.int .i64 (qan_ t.root).2))) /\ ErrV e /\ Below w.heap.size w w' := by
 have C1 := Lib.hid (fun W (hW : Below w.heap.size w W) => qli_ t W (hin.on hW) 0 hck)
 have C2 := Lib.hid (fun W (hW : Below w.heap.size w W) => indexOK t W (hin.on hW) hh)
 have C3 := Lib.hid (fun W (hW : Below w.heap.size w W) => qhw_ t W (hin.on hW) hh)
 have HIN := Lib.hid (fun W (hW : Below w.heap.size w W) => hin.on hW)
 have HCK := Lib.hid hck
 have HH := Lib.hid hh
 have HWH := Lib.hid hWH
 obtain ⟨E2, hE2⟩ : ∃ E2, (qan_ t.root).2 = E2 := ⟨_, rfl⟩
 rw [hE2] at C2 ⊢
 clear hin hck hh hWH hE2
 obtain ⟨T, hT⟩ : ∃ T, T = t := ⟨_, rfl⟩
 have HT := Lib.hid hT
 obtain ⟨boot, ra, rc, rs, ⟨nm, pa, pc, ps, ka, kc, ks⟩⟩ := t
 rw [<- hT] at HIN HCK HH
 clear hT
 simp only [Tr.val, Tr.rv, Nd.val, Nd.pv, Nd.kv, Nd.name, Nd.pa, Nd.pc, Nd.props, Nd.ka, Nd.kc, Nd.kids] at C1 C2 C3 ⊢
 rw [<- HT.out] at C3
 have HB0 := Lib.hid ((Below.refl w.heap.size w).alloc (Nat.le_refl _) (.cells #[.int .u32 boot, .slice ra rs.length rc, .string nm, .slice pa ps.length pc, .slice ka ks.length kc] 29))
 have BX := Lib.hid (qa2_ w (.int .u32 boot) (.slice ra rs.length rc) (.string nm) (.slice pa ps.length pc) (.slice ka ks.length kc))
 obtain ⟨b0, b1, b2, b3, b4⟩ := BX.out _ (Below.refl _ _)
 go_enter Tryz.func9, Tryz.ntmps9
 go_wp2_with fail
 refine (C1.out _ HB0.out).mono ?_
 rintro e w1 ⟨rfl, hb⟩
 have HB1 := Lib.hid (HB0.out.trans (hb.mono HB0.out.size))
 have HX1 := Lib.hid (hb.mono (B' := w.heap.size + 1) (by simp))
 clear hb b0 b1 b2 b3 b4 C1
 obtain ⟨b0, b1, b2, b3, b4⟩ := BX.out _ HX1.out
 go_wp2_with fail
 refine (C2.out _ HB1.out).mono ?_
 rintro e w2 ⟨⟨A2, n2, c2, rfl, _⟩, hb⟩
 have HB2 := Lib.hid (HB1.out.trans (hb.mono HB1.out.size))
 have HX2 := Lib.hid (HX1.out.trans (hb.mono (by have := HX1.out.size; simpa using this)))
 clear hb b0 b1 b2 b3 b4 C2
 by_cases h2 : E2 = 0
 rotate_left
 ·have q : (E2 != 0) = true := by rw [bne_iff_ne]; exact h2
  clear h2
  go_wp2
  go_ret
  exact ⟨fun _ => rfl, .inr (.inl ⟨E2, rfl⟩), HB2.out⟩
 subst h2
 obtain ⟨b0, b1, b2, b3, b4⟩ := BX.out _ HX2.out
 go_wp2_with fail
 refine (C3.out _ HB2.out).mono ?_
 rintro e w3 ⟨bc, r, rest, d, rfl, hk, hz, hab, _, _, hbs, hb⟩
 have HB3 := Lib.hid (HB2.out.trans (hb.mono HB2.out.size))
 have HIN3 : Hid (T.In w3 w2.heap.size) := Lib.hid ((HIN.out w2 HB2.out).under hb)
 have HS3 : Hid (w2.heap.size <= w3.heap.size) := Lib.hid hb.size
 have HK := Lib.hid hk
 have HZ := Lib.hid hz
 have HAB := Lib.hid hab
 have HBS := Lib.hid hbs
 clear hb b0 b1 b2 b3 b4 C3 HX1 HX2 BX HIN hbs
 obtain ⟨⟨A3, c3, hbx, hrow⟩, _⟩ := hk
 obtain ⟨pA, pc3, ep, hcel, hp1, hp2, _⟩ := qai_ hrow
 have hep : A3 = pA /\ c3 = pc3 := by simpa using ep
 obtain ⟨rfl, rfl⟩ := hep
 obtain ⟨sb, so, rfl, _, _⟩ := hcel.2 (by simp)
 have q5 := (qbl_ hbx).2.2.2.2.2
 have HBX := Lib.hid hbx
 obtain ⟨n, hn⟩ : ∃ n, rest.length = n := ⟨_, rfl⟩
 have hn1 : (r :: rest).length = n + 1 := by simp [hn]
 rw [hn1] at q5 hp1
 have HN := Lib.hid hn
 clear hbx hrow ep hcel hz hab hn hn1
 unfold bptr
 by_cases hc1 : c3 = 1
 ·go_wp2_with fail
  clear q5
  go_loopw [33] (fun i wr => ∃ (k : Nat) (ds : List SpD), k <= n /\ i = .int .i64 k /\ Chk wr T bc (r :: rest) ds /\ wr.heap[bc]? = w3.heap[bc]? /\ Below w2.heap.size w3 wr) (fun i _ => n - (intOf i).toNat)
  case atStart => exact ⟨0, _, Nat.zero_le _, rfl, HK.out, rfl, Below.refl _ _⟩
  case round =>
   obtain ⟨k, ds, hk, rfl, hck, hbk, hb⟩ := hrel
   have HKR := Lib.hid hck
   have HBK := Lib.hid hbk
   have HB := Lib.hid hb
   have HSR : Hid (w2.heap.size <= wr.heap.size) := Lib.hid (Nat.le_trans HS3.out hb.size)
   have HINR : Hid (T.In wr w2.heap.size) := Lib.hid (HIN3.out.under hb)
   have HBW : Hid (Below w.heap.size w wr) := Lib.hid (HB3.out.trans (hb.mono HB2.out.size))
   obtain rfl : k = n := by omega
   have CW := Lib.hid (HWH.out T bc r rest ds wr HKR.out HZ.out HAB.out (HINR.out.more HSR.out) HCK.out HH.out)
   clear hck hbk hb
   go_wp2_with fail
   refine CW.out.mono ?_
   rintro e w5 ⟨hev, hb⟩
   have HB5 := Lib.hid (HBW.out.trans (hb.mono HBW.out.size))
   clear hb CW
   rcases hev with rfl | ⟨er, rfl⟩ | ⟨s, er, rfl⟩
   ·go_wp2
    go_ret
    exact ⟨fun h => absurd rfl h, .inl rfl, HB5.out⟩
   ·go_wp2
    go_ret
    exact ⟨fun h => absurd rfl h, .inr (.inl ⟨_, rfl⟩), HB5.out⟩
   ·go_wp2
    go_ret
    exact ⟨fun h => absurd rfl h, .inr (.inr ⟨_, _, rfl⟩), HB5.out⟩
 ·go_wp2_with fail
  clear q5
  go_loopw [33] (fun i wr => ∃ (k : Nat) (ds : List SpD), k <= n /\ i = .int .i64 k /\ Chk wr T bc (r :: rest) ds /\ wr.heap[bc]? = w3.heap[bc]? /\ Below w2.heap.size w3 wr) (fun i _ => n - (intOf i).toNat)
  case atStart => exact ⟨0, _, Nat.zero_le _, rfl, HK.out, rfl, Below.refl _ _⟩
  case round =>
   obtain ⟨k, ds, hk, rfl, hck, hbk, hb⟩ := hrel
   have HKR := Lib.hid hck
   have HBK := Lib.hid hbk
   have HB := Lib.hid hb
   have HSR : Hid (w2.heap.size <= wr.heap.size) := Lib.hid (Nat.le_trans HS3.out hb.size)
   have HINR : Hid (T.In wr w2.heap.size) := Lib.hid (HIN3.out.under hb)
   have HBW : Hid (Below w.heap.size w wr) := Lib.hid (HB3.out.trans (hb.mono HB2.out.size))
   by_cases hlt : k < n
   ·have hkr : k < rest.length := by rw [HN.out]; exact hlt
    have hk1 : k + 1 < (r :: rest).length := by simp; omega
    have hk1' : k + 1 < ds.length := by rw [hck.sp.len]; exact hk1
    have hxe : (r :: rest)[k + 1] = rest[k] := rfl
    obtain ⟨hz0, hzn, hzk⟩ := qm6_ HZ.out
    obtain ⟨⟨A', c', hbx', hrow'⟩, _⟩ := hck
    have d0 : wr.cell? ⟨sb, so + 1 + k, none⟩ = some (.pointer (some ⟨(r :: rest)[k + 1].b, 0, none⟩)) := by
     have h1 := hbk.symm.trans hbx'
     rw [HBX.out] at h1
     have h2 : A' = some ⟨sb, so, none⟩ := by
      have h3 := Option.some.inj h1
      unfold chkO at h3
      injection h3 with h4
      simp at h4
      exact h4.1.symm
     subst h2
     obtain ⟨pA, pc4, ep, hcel, _⟩ := qai_ hrow'
     have hep : (some ⟨sb, so, none⟩ : Option Addr) = pA /\ c' = pc4 := by simpa using ep
     obtain ⟨b, o, e, _, hcc⟩ := hcel.2 (by simp)
     rw [<- hep.1] at e
     obtain ⟨rfl, rfl⟩ : sb = b /\ so = o := by simpa using e
     have h5 := hcc (k + 1) hk1
     rw [List.getElem?_map, List.getElem?_eq_getElem hk1] at h5
     rw [show so + 1 + k = so + (k + 1) by omega]
     exact h5
    have habk := HKR.out.sp.above hk1
    obtain ⟨a, kk, ha, hab2, _⟩ : ∃ j2 k2, ∃ hj2 : j2 < (r :: rest).length, (r :: rest)[k + 1].ab = some (r :: rest)[j2].b /\ (r :: rest)[k + 1].z = (r :: rest)[j2].z ++ [k2] := by
     rcases habk with ⟨_, h⟩ | h
     ·exact absurd h (hzk k hkr)
     ·exact h
    have ha' : a < ds.length := by rw [HKR.out.sp.len]; exact ha
    have CN := Lib.hid (vnode_any T w2.heap.size bc (r :: rest) ds (k + 1) a wr hk1 hk1' ha ha' hab2 (hzk k hkr) hzn HKR.out HINR.out HCK.out HH.out HSR.out HBS.out ds[a].en rfl)
    have HVF : Hid (∀ (er : Int) W, Below wr.heap.size wr W -> True) := Lib.hid (fun _ _ _ => trivial)
    clear hbx' hrow' habk hbk hb hab2
    go_wp2_with fail
    refine CN.out.mono ?_
    rintro e w5 ⟨er, d', rfl, hc, hb5, hbc, _⟩
    have HC5 := Lib.hid hc
    have HB5 := Lib.hid (HB.out.trans hb5)
    have HBC5 := Lib.hid (hbc.trans HBK.out)
    clear hc hb5 hbc CN d0
    by_cases he : er = 0
    ·subst he
     clear hzk hzn hz0 hxe
     go_wp2
     go_roundw
     case rel => exact ⟨k + 1, ds.set (k + 1) d', by omega, by go_num, HC5.out, HBC5.out, HB5.out⟩
     case measure => simp [intOf]; omega
    ·have q : (er != 0) = true := by rw [bne_iff_ne]; exact he
     have hst := HC5.out.sp.stat _ (List.getElem_mem hk1)
     obtain ⟨pA, pc5, ep, hcel, hp51, hp52, _⟩ := qai_ hst.row
     have hep : (r :: rest)[k + 1].A = pA /\ (r :: rest)[k + 1].c = pc5 := by simpa using ep
     obtain ⟨rfl, rfl⟩ := hep
     have c0 := (qaq_ (HC5.out.sp.box (k + 1) hk1 (by rw [List.length_set]; exact hk1'))).1
     have hmem : (r :: rest)[k + 1].z ∈ qac_ T.root [] := by rw [<- HZ.out]; exact List.mem_map.2 ⟨_, List.getElem_mem hk1, rfl⟩
     have CF : Hid (Calls Tryz.prog 24 #[.pointer (some ⟨bc, 0, none⟩), .int .i64 er, .slice (r :: rest)[k + 1].A (r :: rest)[k + 1].z.length (r :: rest)[k + 1].c] w5 fun e w' => (∃ s, e = .returned (qjw_ s er)) /\ Below w5.heap.size w5 w') := Lib.hid (by
      obtain ⟨⟨A9, c9, hb9, _⟩, _⟩ := HC5.out
      exact (qej_ T bc _ _ _ er _ _ _ _ w5 hb9 ((HIN3.out.under HB5.out).more (Nat.le_trans HS3.out HB5.out.size)) HCK.out HH.out hmem rfl hcel hp51 hp52).mono (fun e w' h => ⟨⟨_, h.1⟩, h.2⟩))
     have HBF := Lib.hid (HB3.out.trans (HB5.out.mono HB2.out.size))
     obtain ⟨zA, hzA⟩ : ∃ zA, (r :: rest)[k + 1].A = zA := ⟨_, rfl⟩
     obtain ⟨zl, hzl⟩ : ∃ zl, (r :: rest)[k + 1].z.length = zl := ⟨_, rfl⟩
     obtain ⟨zc, hzc⟩ : ∃ zc, (r :: rest)[k + 1].c = zc := ⟨_, rfl⟩
     rw [hzA, hzl, hzc] at c0 CF
     replace c0 : w5.cell? ⟨rest[k].b, 0, none⟩ = some (.slice zA zl zc) := c0
     clear he hst hcel hp51 hp52 ep hmem hzA hzl hzc hzk hzn hz0 hxe
     go_wp2_with fail
     refine CF.out.mono ?_
     rintro e w6 ⟨⟨s, rfl⟩, hb⟩
     have HB6 := Lib.hid (HBF.out.trans (hb.mono HBF.out.size))
     clear hb c0 CF
     go_wp2
     go_ret
     exact ⟨fun h => absurd rfl h, .inr (.inr ⟨_, _, rfl⟩), HB6.out⟩
   ·skip
    obtain rfl : k = n := by omega
    have CW := Lib.hid (HWH.out T bc r rest ds wr HKR.out HZ.out HAB.out (HINR.out.more HSR.out) HCK.out HH.out)
    clear hck hbk hb
    go_wp2_with fail
    refine CW.out.mono ?_
    rintro e w5 ⟨hev, hb⟩
    have HB5 := Lib.hid (HBW.out.trans (hb.mono HBW.out.size))
    clear hb CW
    rcases hev with rfl | ⟨er, rfl⟩ | ⟨s, er, rfl⟩
    ·go_wp2
     go_ret
     exact ⟨fun h => absurd rfl h, .inl rfl, HB5.out⟩
    ·go_wp2
     go_ret
     exact ⟨fun h => absurd rfl h, .inr (.inl ⟨_, rfl⟩), HB5.out⟩
    ·go_wp2
     go_ret
     exact ⟨fun h => absurd rfl h, .inr (.inr ⟨_, _, rfl⟩), HB5.out⟩
end Go.Proofs.YtcfinbapfhhpgaaGreatDoor
