/-
  Base, part 6.
-/
import Derived.Test.YtcfinbapfhhpgaaGreatDoorBase1
import Derived.Test.YtcfinbapfhhpgaaGreatDoorBase5
import Derived.Test.YtcfinbapfhhpgaaGreatDoorBase4
import Derived.OwnWalk
import Derived.Test.YtcfinbapfhhpgaaGreatDoorBase2
namespace Go.Proofs.YtcfinbapfhhpgaaGreatDoor
open Go.RowKit
set_option linter.unusedVariables false
set_option linter.unusedSimpArgs false
set_option maxRecDepth 20000
set_option maxHeartbeats 16000000
section
def Cel2 (w : World) (B : Nat) (A : Option Addr) (n : Nat) (xs : List (Value × Value)) : Prop :=
 xs.length = n /\ (0 < n -> ∃ b o, A = some ⟨b, o, none⟩ /\ b < B /\ ∀ i (h : i < xs.length), w.cell? ⟨b, o + i * 2, none⟩ = some xs[i].1 /\ w.cell? ⟨b, o + i * 2 + 1, none⟩ = some xs[i].2)
section
variable {w w' : World} {B B' n : Nat} {A : Option Addr} {xs : List (Value × Value)}
theorem Cel2.nil (w : World) (B : Nat) (A : Option Addr) : Cel2 w B A 0 [] := ⟨rfl, fun h => absurd h (Nat.lt_irrefl 0)⟩
theorem Cel2.keep (h : Cel2 w B A n xs) (hk : ∀ p : Addr, p.block < B -> w'.cell? p = w.cell? p) : Cel2 w' B A n xs :=
 ⟨h.1, fun hn => by
  obtain ⟨b, o, e, hb, hc⟩ := h.2 hn
  exact ⟨b, o, e, hb, fun i hi => ⟨(hk _ hb).trans (hc i hi).1, (hk _ hb).trans (hc i hi).2⟩⟩⟩
theorem Cel2.below (h : Cel2 w B A n xs) (hb : Below B w w') : Cel2 w' B A n xs := h.keep fun _ hp => hb.cell hp
theorem Cel2.more (h : Cel2 w B A n xs) (hB : B <= B') : Cel2 w B' A n xs :=
 ⟨h.1, fun hn => by
  obtain ⟨b, o, e, hb, hc⟩ := h.2 hn
  exact ⟨b, o, e, by omega, hc⟩⟩
theorem Cel2.on (h : Cel2 w w.heap.size A n xs) (hb : Below w.heap.size w w') : Cel2 w' w'.heap.size A n xs := (h.below hb).more hb.size
end
def flat2 (xs : List (Value × Value)) : List Value := xs.flatMap fun x => [x.1, x.2]
theorem qbn_ (xs : List (Value × Value)) : (flat2 xs).length = xs.length * 2 := by
 induction xs with
 | nil => rfl
 | cons x r ih =>
  have e : flat2 (x :: r) = [x.1, x.2] ++ flat2 r := by simp [flat2]
  rw [e, List.length_append, ih]; simp; omega
theorem qls_ (xs : List (Value × Value)) (x : Value × Value) : flat2 (xs ++ [x]) = flat2 xs ++ [x.1, x.2] := by simp [flat2]
theorem qe5_ : ∀ (xs : List (Value × Value)) (i : Nat) (h : i < xs.length), (flat2 xs)[i * 2]? = some xs[i].1 /\ (flat2 xs)[i * 2 + 1]? = some xs[i].2
 | x :: r, 0, _ => by simp [flat2]
 | x :: r, i + 1, h => by
  have e : flat2 (x :: r) = x.1 :: x.2 :: flat2 r := by simp [flat2]
  have ih := qe5_ r i (by simpa using h)
  rw [e, show (i + 1) * 2 = i * 2 + 1 + 1 by omega]
  simpa using ih
theorem qa0_ {w : World} {base n : Nat} {e : TypeId} {v : Value} {xs : List (Value × Value)} (h : w.ownsRow base e 2 v n (flat2 xs)) : ∃ A c, v = .slice A n c /\ Cel2 w w.heap.size A n xs /\ n <= c /\ c <= 9223372036854775807 /\ (∀ b, v.ownBlock = some b -> base <= b /\ b < w.heap.size) := by
 obtain ⟨hl, ⟨rfl, rfl⟩ | ⟨g, cap, cur, rfl, hb, hg, hnc, hcm, hsz, htk⟩⟩ := h
 ·rw [qbn_] at hl
  obtain rfl : xs = [] := List.eq_nil_of_length_eq_zero (by omega)
  exact ⟨none, 0, rfl, Cel2.nil _ _ _, Nat.le_refl _, by omega, fun b h => by simp [Value.ownBlock] at h⟩
 ·rw [qbn_] at hl
  have hlz : xs.length = n := by omega
  have hlt := (Array.getElem?_eq_some_iff.1 hg).1
  have hcell : ∀ k, k < n * 2 -> w.cell? ⟨g, k, none⟩ = (flat2 xs)[k]? := fun k hk => by
   have h1 : (flat2 xs)[k]? = cur[k]? := by
    rw [<- htk, List.getElem?_take_of_lt hk, Array.getElem?_toList]
   rw [h1]
   simp [World.cell?, hg]
  refine ⟨_, cap, rfl, ⟨hlz, fun hn => ⟨g, 0, rfl, hlt, fun i hi => ?_⟩⟩, hnc, hcm, fun b h => ?_⟩
  ·obtain ⟨a1, a2⟩ := qe5_ xs i hi
   rw [Nat.zero_add, hcell _ (by omega), hcell _ (by omega)]
   exact ⟨a1, a2⟩
  ·simp [Value.ownBlock] at h
   omega
theorem qd6_ {t e : TypeId} {i0 : TypeInfo} {z : Value} {bytes : Nat} (ht : Tryz.prog.underlying t = some (.slice e)) (hi : Tryz.prog.info? e = some i0) (hz : i0.zero = some z) (hs1 : i0.size = 2) (hby : i0.bytes = bytes) (hzs : z.cells.size = 2)
  {w : World} {B n : Nat} {v : Value} {xs : List (Value × Value)} (h : w.ownsRow B e 2 v n (flat2 xs)) (x : Value × Value) (hx : x.1.oneCell' = true) (hx2 : x.2.oneCell' = true) (hbig : (n + 1) * bytes <= 140737488355328) (hlen : n + 1 <= 140737488355328) (hB : B <= w.heap.size) (ty : TypeId) :
  ∃ A' c' w', (Builtin.append_ #[t, t] ty #[v, .slice (some ⟨w.heap.size, 0, none⟩) 1 1]).run Tryz.prog (w.alloc (.cells #[x.1, x.2] e)) = .ok (.slice A' (n + 1) c') w' /\ w'.ownsRow B e 2 (.slice A' (n + 1) c') (n + 1) (flat2 (xs ++ [x])) /\ Below B w w' /\ w.grownBy w' v.ownBlock /\ ((Value.slice A' (n + 1) c').ownBlock = v.ownBlock \/ (Value.slice A' (n + 1) c').ownBlock = some (w.heap.size + 1)) := by
 have h1 : (w.alloc (.cells #[x.1, x.2] e)).ownsRow B e 2 v n (flat2 xs) := h.alloc _
 have hb1 := (Below.refl B w).alloc hB (.cells #[x.1, x.2] e)
 obtain ⟨v', w', r1, r2, r3, _, r5⟩ := run_append_own_at (P := Tryz.prog) (w.alloc (.cells #[x.1, x.2] e)) B t ty e i0 z 2 bytes ht hi hz hs1 hby hzs (by omega) v _ (flat2 xs) h1 ⟨w.heap.size, 0, none⟩ 1 1 [x.1, x.2] rfl
  (fun j u hu => by
   rw [qbc_, Nat.zero_add, World.cell?_alloc_new]
   rcases j with _ | _ | j
   ·simpa using hu
   ·simpa using hu
   ·simp at hu)
  (fun u hu => by
   rcases List.mem_cons.1 hu with rfl | hu
   ·exact hx
   ·rw [List.mem_singleton.1 hu]; exact hx2) (by unfold maxLen; omega) hbig (by simp; omega)
 have r2' : w'.ownsRow B e 2 v' (n + 1) (flat2 (xs ++ [x])) := by rw [qls_]; exact r2
 obtain ⟨A', c', rfl, _⟩ := qa0_ r2'
 refine ⟨A', c', w', r1, r2', hb1.grown r3 (by simp; omega) (fun q hq => (h1.lt q hq).1), ?_, by simpa using r5⟩
 have hg0 := World.grownBy_alloc w (.cells #[x.1, x.2] e) v.ownBlock
 exact ⟨r3.os.trans hg0.os, r3.tape.trans hg0.tape, r3.output.trans hg0.output, Nat.le_trans hg0.size r3.size, fun k hk hne => (r3.block k (Nat.lt_of_lt_of_le hk hg0.size) hne).trans (hg0.block k hk hne)⟩
end
def RefV (w : World) (B : Nat) (x : Value × Value) (r : Int × List Nat) : Prop :=
 x.1 = .int .u32 r.1 /\ ∃ A c, x.2 = .slice A r.2.length c /\ Cel w B A r.2.length (ints r.2) /\ r.2.length <= c /\ c <= 9223372036854775807
theorem RefV.below {w w' : World} {B : Nat} {x : Value × Value} {r : Int × List Nat} (h : RefV w B x r) (hb : Below B w w') : RefV w' B x r := by
 obtain ⟨e, A, c, e2, h1, h2⟩ := h
 exact ⟨e, A, c, e2, h1.below hb, h2⟩
theorem RefV.more {w : World} {B B' : Nat} {x : Value × Value} {r : Int × List Nat} (h : RefV w B x r) (hB : B <= B') : RefV w B' x r := by
 obtain ⟨e, A, c, e2, h1, h2⟩ := h
 exact ⟨e, A, c, e2, h1.more hB, h2⟩
def RefShow (w : World) (B : Nat) (A : Option Addr) (n : Nat) (rs : List (Int × List Nat)) : Prop :=
 ∃ vs, Cel2 w B A n vs /\ Two (RefV w B) vs rs
theorem RefShow.nil (w : World) (B : Nat) (A : Option Addr) : RefShow w B A 0 [] := ⟨[], Cel2.nil _ _ _, .nil⟩
theorem RefShow.at_ {w : World} {B : Nat} {A : Option Addr} {n : Nat} {rs : List (Int × List Nat)} (h : RefShow w B A n rs) {i : Nat} (hi : i < rs.length) : ∃ b o A2 c2, A = some ⟨b, o, none⟩ /\ b < B /\ w.cell? ⟨b, o + i * 2, none⟩ = some (.int .u32 rs[i].1) /\ w.cell? ⟨b, o + i * 2 + 1, none⟩ = some (.slice A2 rs[i].2.length c2) /\ Cel w B A2 rs[i].2.length (ints rs[i].2) /\ rs[i].2.length <= c2 /\ c2 <= 9223372036854775807 := by
 obtain ⟨vs, h1, h2⟩ := h
 have hl := h2.len
 obtain ⟨b, o, e, hb, hc⟩ := h1.2 (by rw [<- h1.1]; omega)
 have hv : i < vs.length := by omega
 obtain ⟨d1, d2⟩ := hc i hv
 obtain ⟨e1, A2, c2, e2, h3, h4, h5⟩ := h2.get i hv hi
 exact ⟨b, o, A2, c2, e, hb, by rw [d1, e1], by rw [d2, e2], h3, h4, h5⟩
theorem qgw_ : ∀ (p : List Nat) {n x : Nd}, qaj_ n p = some x -> heftN x <= heftN n
 | [], n, x, h => by rw [qaj_] at h; rw [Option.some.inj h]; exact Nat.le_refl _
 | i :: p, n, x, h => by
  obtain ⟨hi, e⟩ := qa7_ h
  have h1 := qgw_ p e
  have h2 := qbh_ n.kids i hi
  have h3 := qbb_ n.kids (i + 1)
  have h4 : heftN n = 16 + n.name.size + (n.props.map heftP).sum + heftL n.kids := by cases n; rw [heftN]; rfl
  omega
theorem qn4_ : (Tryz.prog.info? 60).map (fun i => (i.zero, i.size, i.bytes)) = some (some (.agg #[.int .u32 0, .slice none 0 0]), 2, 32) := by kernel_rfl
theorem qcd_ {w : World} {B : Nat} {n : Nd} (hin : n.In w B) (s : ByteArray) : 0 <= (oneV n s).1 /\ (oneV n s).1 <= 4294967295 := by
 unfold oneV
 split
 ·exact ⟨by decide, by decide⟩
 ·rename_i p hp
  split
  ·exact qcy_ (hin.prop (List.mem_of_find?_eq_some hp)).2.1 0
  ·exact ⟨by decide, by decide⟩
theorem qei_ {w : World} {B : Nat} {root : Nd} (hin : root.In w B) : ∀ (l : List (List Nat)) (acc : List (Int × List Nat)), (∀ x ∈ acc, 0 <= x.1 /\ x.1 <= 4294967295) -> ∀ x ∈ (qah_ root acc l).1, 0 <= x.1 /\ x.1 <= 4294967295
 | [], acc, h => h
 | p :: r, acc, h => by
  rw [qah_]
  by_cases h1 : (qau_ root acc p).2 = 0
  ·rw [if_pos h1]
   refine qei_ hin r _ ?_
   unfold qau_ at h1 ⊢
   split at h1
   ·exact h
   ·rename_i n hn
    have hr := qcd_ (qci_ p hin hn) qas_
    by_cases g1 : (oneV n qas_).2.2 ≠ 0
    ·rw [if_pos g1] at h1; exact absurd h1 g1
    rw [if_neg g1] at h1 ⊢
    by_cases g2 : (oneV n qas_).2.1 = false
    ·rw [if_pos g2]; exact h
    rw [if_neg g2] at h1 ⊢
    by_cases g3 : (oneV n qas_).1 = 0 \/ (oneV n qas_).1 = 4294967295
    ·rw [if_pos g3] at h1; exact absurd h1 (by decide)
    rw [if_neg g3] at h1 ⊢
    by_cases g4 : acc.any (fun x => decide (x.1 = (oneV n qas_).1)) = true
    ·rw [if_pos g4] at h1; exact absurd h1 (by decide)
    rw [if_neg g4]
    intro x hx
    rcases List.mem_append.1 hx with hx | hx
    ·exact h x hx
    ·rw [List.mem_singleton.1 hx]; exact hr
  ·rw [if_neg h1]; intro x hx; cases hx
theorem qjy_ {w : World} {B : Nat} {root : Nd} (hin : root.In w B) : ∀ x ∈ (qan_ root).1, 0 <= x.1 /\ x.1 <= 4294967295 := qei_ hin _ _ (fun x hx => by cases hx)
theorem qkx_ (t : Tr) (w : World) (hin : t.In w w.heap.size) (hh : heftN t.root <= 134217728) :
  Calls Tryz.prog 7 #[t.val] w fun e w' => (∃ A n c, e = .returned (.tuple #[.slice A n c, .int .i64 (qan_ t.root).2]) /\ RefShow w' w'.heap.size A n (qan_ t.root).1 /\ n <= c /\ c <= 9223372036854775807) /\ Below w.heap.size w w' := by
 have CG := Lib.hid (fun (p : List Nat) A n c W (hW : Below w.heap.size w W) (hp : Cel W W.heap.size A n (ints p)) h1 h2 => qor_ t (p.map Int.ofNat) A n c W (hin.on hW) (by rw [<- qf3_]; exact hp) h1 h2)
 have CA := Lib.hid (fun W (hW : Below w.heap.size w W) => qn1_ t.root [] none 0 0 W (hin.on hW).root rfl (Cel.nil _ _ _) (Nat.le_refl _) (by omega) (by omega))
 have HI := Lib.hid hin.root
 have HH := Lib.hid hh
 have HSUM : Hid (qah_ t.root [] (qac_ t.root []) = qan_ t.root) := Lib.hid rfl
 have HIN : Hid (∀ p ∈ qac_ t.root [], ∃ x, qaj_ t.root p = some x) := Lib.hid fun p hp => qet_ hp
 have HPN : Hid ((qac_ t.root []).length <= 134217728) := Lib.hid (Nat.le_trans (qbr_ t.root []).1 hh)
 obtain ⟨PS, hPS⟩ : ∃ PS, qac_ t.root [] = PS := ⟨_, rfl⟩
 obtain ⟨RS, hRS⟩ : ∃ RS, qan_ t.root = RS := ⟨_, rfl⟩
 rw [hPS] at CA HSUM HIN HPN
 rw [hRS] at HSUM ⊢
 clear hin hh hPS hRS
 obtain ⟨boot, ra, rc, rs, ⟨nm, pa, pc, ps, ka, kc, ks⟩⟩ := t
 replace HI : Hid ((Nd.mk nm pa pc ps ka kc ks).In w w.heap.size) := HI
 replace HH : Hid (heftN (Nd.mk nm pa pc ps ka kc ks) <= 134217728) := HH
 replace HSUM : Hid (qah_ (Nd.mk nm pa pc ps ka kc ks) [] PS = RS) := HSUM
 replace HIN : Hid (∀ p ∈ PS, ∃ x, qaj_ (Nd.mk nm pa pc ps ka kc ks) p = some x) := HIN
 replace CA : Hid (∀ W (hW : Below w.heap.size w W), Calls Tryz.prog 14 #[.agg #[.string nm, .slice pa ps.length pc, .slice ka ks.length kc], .slice none 0 0] W fun e w' => (∃ v, e = .returned v /\ PlRow w' W.heap.size v PS) /\ Below W.heap.size W w') := CA
 replace CG : Hid (∀ (p : List Nat) A n c W (hW : Below w.heap.size w W) (hp : Cel W W.heap.size A n (ints p)) (h1 : n <= c) (h2 : c <= 9223372036854775807), Calls Tryz.prog 15 #[.agg #[.int .u32 boot, .slice ra rs.length rc, .string nm, .slice pa ps.length pc, .slice ka ks.length kc], .slice A n c] W fun e w' => e = .returned (qhg_ (nodeZ (Nd.mk nm pa pc ps ka kc ks) (p.map Int.ofNat))) /\ Below W.heap.size W w') := CG
 show Calls _ _ #[.agg #[.int .u32 boot, .slice ra rs.length rc, .string nm, .slice pa ps.length pc, .slice ka ks.length kc]] _ _
 obtain ⟨R, hR⟩ : ∃ R, Nd.mk nm pa pc ps ka kc ks = R := ⟨_, rfl⟩
 rw [hR] at HI HH HSUM HIN CG
 clear hR
 have HB := Lib.hid ((Below.refl w.heap.size w).alloc (Nat.le_refl _) (.cells #[.int .u32 boot, .slice ra rs.length rc, .string nm, .slice pa ps.length pc, .slice ka ks.length kc] 29))
 obtain ⟨b0, b1, b2, b3, b4⟩ := qa2_ w (.int .u32 boot) (.slice ra rs.length rc) (.string nm) (.slice pa ps.length pc) (.slice ka ks.length kc) _ (Below.refl _ _)
 have BX := Lib.hid (qa2_ w (.int .u32 boot) (.slice ra rs.length rc) (.string nm) (.slice pa ps.length pc) (.slice ka ks.length kc))
 go_enter Tryz.func7, Tryz.ntmps7
 go_wp2_with fail
 refine (CA.out _ HB.out).mono ?_
 rintro e w1 ⟨⟨v1, rfl, hr1⟩, hb⟩
 obtain ⟨A1, c1, rfl, s1, l1, m1⟩ := hr1.show
 have HB1 := Lib.hid (HB.out.trans (hb.mono HB.out.size))
 have HX1 := Lib.hid (hb.mono (B' := w.heap.size + 1) (by simp))
 have HS1 := Lib.hid s1
 obtain ⟨N, hN⟩ : ∃ N, PS.length = N := ⟨_, rfl⟩
 have HN := Lib.hid hN
 rw [hN] at l1 HS1
 rw [hN]
 have hN2 : N <= 134217728 := by rw [<- hN]; exact HPN.out
 clear hb hr1 s1 b0 b1 b2 b3 b4 hN CA
 go_wp2_with fail
 go_loopw [4, 18] (fun out i wr => ∃ (k : Nat) (acc : List (Int × List Nat)) (vs : List (Value × Value)), k <= N /\ i = .int .i64 k /\ wr.ownsRow w1.heap.size 60 2 out acc.length (flat2 vs) /\ Two (RefV wr w1.heap.size) vs acc /\ qah_ R acc (PS.drop k) = RS /\ acc.length <= k /\ Below w1.heap.size w1 wr) (fun _ i _ => N - (intOf i).toNat)
 case atStart => exact ⟨0, [], [], Nat.zero_le _, rfl, World.ownsRow_nil _ _ _ _, .nil, HSUM.out, Nat.le_refl _, Below.refl _ _⟩
 case round =>
  obtain ⟨k, acc, vs, hk, rfl, hown, htwo, hsum, hal, hb⟩ := hrel
  have HO := Lib.hid hown
  have HT := Lib.hid htwo
  have HQ := Lib.hid hsum
  have HBX := Lib.hid hb
  have HBS := Lib.hid hb.size
  have hvl := htwo.len
  obtain ⟨Ao, co, rfl, hcel, hco1, hco2, hob⟩ := qa0_ hown
  by_cases hlt : k < N
  ·obtain ⟨ws, hw1, hw2⟩ := HS1.out
   have hkp : k < PS.length := by rw [HN.out]; exact hlt
   have hkw : k < ws.length := by rw [hw2.len]; exact hkp
   obtain ⟨b, o, e, hblt, hc⟩ := hw1.2 (by omega)
   obtain rfl : A1 = _ := e
   have ck := hc k hlt
   rw [List.getElem?_eq_getElem hkw] at ck
   obtain ⟨Bk, m, e1, hp1, hm1, hm1', hq7⟩ := hw2.get k hkw hkp
   clear hq7
   rw [e1] at ck
   have hdrop : PS.drop k = PS[k] :: PS.drop (k + 1) := (List.getElem_cons_drop (h := hkp)).symm
   have hmem := List.getElem_mem hkp
   obtain ⟨P, hPk⟩ : ∃ P, PS[k] = P := ⟨_, rfl⟩
   rw [hPk] at ck hp1 hm1 hmem hdrop
   obtain ⟨x, hx⟩ := HIN.out P hmem
   obtain ⟨pl, hpl⟩ : ∃ pl, P.length = pl := ⟨_, rfl⟩
   have HP1 := Lib.hid (show Cel wr w1.heap.size Bk pl (ints P) from by rw [<- hpl]; exact hp1.below hb)
   have HPL := Lib.hid hpl
   rw [hpl] at ck hm1
   have HPM := Lib.hid (And.intro hm1 hm1')
   have HXI := Lib.hid (qci_ _ HI.out hx)
   have HXH := Lib.hid (Nat.le_trans (qgw_ _ hx) HH.out)
   have HDR := Lib.hid hdrop
   have HXR := Lib.hid (qcd_ HXI.out qas_)
   have HST : Hid (qau_ R acc P = if (oneV x qas_).2.2 ≠ 0 then ([], (oneV x qas_).2.2) else if (oneV x qas_).2.1 = false then (acc, 0) else if (oneV x qas_).1 = 0 \/ (oneV x qas_).1 = 4294967295 then ([], 11) else if acc.any (fun y => decide (y.1 = (oneV x qas_).1)) = true then ([], 9) else (acc ++ [((oneV x qas_).1, P)], 0)) := Lib.hid (by unfold qau_; rw [hx])
   have HSR : Hid (if (qau_ R acc P).2 = 0 then qah_ R (qau_ R acc P).1 (PS.drop (k + 1)) = RS else RS = ([], (qau_ R acc P).2)) := Lib.hid (by
    have h1 := hsum
    rw [hdrop, qah_] at h1
    by_cases h0 : (qau_ R acc P).2 = 0
    ·rw [if_pos h0] at h1 ⊢; exact h1
    ·rw [if_neg h0] at h1 ⊢; exact h1.symm)
   have HBW := Lib.hid (HB1.out.trans (hb.mono HB1.out.size))
   have HS : Hid (∀ W, Below wr.heap.size wr W -> (W.cell? ⟨w.heap.size, 0, none⟩ = some (.int .u32 boot) /\ W.cell? ⟨w.heap.size, 1, none⟩ = some (.slice ra rs.length rc) /\ W.cell? ⟨w.heap.size, 2, none⟩ = some (.string nm) /\ W.cell? ⟨w.heap.size, 3, none⟩ = some (.slice pa ps.length pc) /\ W.cell? ⟨w.heap.size, 4, none⟩ = some (.slice ka ks.length kc) /\ W.cell? ⟨b, o + k, none⟩ = some (Value.slice Bk pl m))) := Lib.hid (fun W hW => by
    have hW1 := hb.trans (hW.mono hb.size)
    obtain ⟨b0, b1, b2, b3, b4⟩ := BX.out W (HX1.out.trans (hW1.mono (by have := HX1.out.size; simpa using this)))
    exact ⟨b0, b1, b2, b3, b4, (hW1.cell (p := ⟨b, o + k, none⟩) hblt).trans ck⟩)
   have CG1 := Lib.hid (fun W (hW : Below wr.heap.size wr W) => CG.out P Bk pl m W (HBW.out.trans (hW.mono HBW.out.size)) ((HP1.out.more HBS.out).on hW) HPM.out.1 HPM.out.2)
   rw [qa4_, hx] at CG1
   have HONE := Lib.hid (fun W (hW : Below w.heap.size w W) => qnv_ x qas_ W ((HXI.out.under hW).more hW.size) (Nat.le_trans HXH.out (by omega)))
   obtain ⟨hv, fl, er, hov⟩ : ∃ hv fl er, oneV x qas_ = (hv, fl, er) := ⟨_, _, _, rfl⟩
   rw [hov] at HONE HST HXR
   simp only [qfz_] at HONE HST HXR
   clear hw1 hw2 hkw hc hp1 hpl hmem hPk hkp e1 hdrop hown htwo hsum hb hx hov HXH CG
   obtain ⟨xn, xpa, xpc, xps, xka, xkc, xks⟩ := x
   replace CG1 : Hid (∀ W (hW : Below wr.heap.size wr W), Calls Tryz.prog 15 #[.agg #[.int .u32 boot, .slice ra rs.length rc, .string nm, .slice pa ps.length pc, .slice ka ks.length kc], .slice Bk pl m] W fun e w' => e = .returned (.tuple #[.agg #[.string xn, .slice xpa xps.length xpc, .slice xka xks.length xkc], .bool true]) /\ Below W.heap.size W w') := CG1
   replace HONE : Hid (∀ W (hW : Below w.heap.size w W), Calls Tryz.prog 16 #[.agg #[.string xn, .slice xpa xps.length xpc, .slice xka xks.length xkc], .string ⟨#[112, 104, 97, 110, 100, 108, 101]⟩] W fun e w' => e = .returned (.tuple #[.int .u32 hv, .bool fl, .int .i64 er]) /\ Below W.heap.size W w') := HONE
   generalize xks.length = xkl at *
   generalize xps.length = xpl at *
   have HD := Lib.hid (Below.refl wr.heap.size wr).drew
   go_wp2_with fail
   refine wp_region_held_drew (S := fun W => W.cell? ⟨w.heap.size, 0, none⟩ = some (.int .u32 boot) /\ W.cell? ⟨w.heap.size, 1, none⟩ = some (.slice ra rs.length rc) /\ W.cell? ⟨w.heap.size, 2, none⟩ = some (.string nm) /\ W.cell? ⟨w.heap.size, 3, none⟩ = some (.slice pa ps.length pc) /\ W.cell? ⟨w.heap.size, 4, none⟩ = some (.slice ka ks.length kc) /\ W.cell? ⟨b, o + k, none⟩ = some (Value.slice Bk pl m)) (by kernel_rfl) (HS.out _ HD.out) (fun hHeld => ?_)
   refine tk 0 hHeld fun _ => ?_
   refine tk 1 hHeld fun _ => ?_
   refine tk 2 hHeld fun _ => ?_
   refine tk 3 hHeld fun _ => ?_
   refine tk 4 hHeld fun _ => ?_
   refine qfs_ 5 9 (by kernel_rfl) rfl rfl (by rfl) (by rfl) (fun K hK => ?_) (fun K hK => ?_)
   ·go_simp
    refine (CG1.out _ HD.out).mono ?_
    rintro e w2 ⟨rfl, hb2⟩
    have HD2 := Lib.hid (HD.out.trans hb2)
    clear hb2
    dsimp only
    refine hK.out _ _ (HS.out _ HD2.out) (fun hHeld => ?_)
    clear hK K
    refine tk 6 hHeld fun _ => ?_
    refine tk 7 hHeld fun _ => ?_
    refine tk 8 hHeld fun _ => ?_
    refine qab_ 9 (by kernel_rfl) rfl (by rfl) (fun K hK => ?_)
    go_simp
    refine hK.out _ _ (HS.out _ (HD2.out.alloc HD2.out.size _)) (fun hHeld => ?_)
    clear hK K
    refine qab_ 10 (by kernel_rfl) rfl (by rfl) (fun K hK => ?_)
    go_simp
    have H10 := Lib.hid (HD2.out.alloc HD2.out.size (.cells #[.string xn, .slice xpa xpl xpc, .slice xka xkl xkc] 27))
    refine hK.out _ _ (HS.out _ H10.out) (fun hHeld => ?_)
    clear hK K
    refine tk 11 hHeld fun _ => ?_
    refine wpAnyH_done (by kernel_rfl) ?_ _
    clear hHeld
    obtain ⟨W, hWe⟩ : ∃ W, W = w2.alloc (.cells #[.string xn, .slice xpa xpl xpc, .slice xka xkl xkc] 27) := ⟨_, rfl⟩
    obtain ⟨gb, hgb⟩ : ∃ gb, gb = w2.heap.size := ⟨_, rfl⟩
    have hkW : W.heap[gb]? = some (.cells #[.string xn, .slice xpa xpl xpc, .slice xka xkl xkc] 27 (0, 0)) := by rw [hWe, hgb]; exact heap_alloc_new w2 _
    have hbW : Below wr.heap.size wr W := by rw [hWe]; exact H10.out
    rw [<- hWe, <- hgb]
    clear hWe hgb H10 HD2
    have c0 : W.cell? ⟨gb, 0, none⟩ = some (.string xn) := by rw [Lib.cell_of_heap hkW]; rfl
    have c1 : W.cell? ⟨gb, 1, none⟩ = some (.slice xpa xpl xpc) := by rw [Lib.cell_of_heap hkW]; rfl
    have c2 : W.cell? ⟨gb, 2, none⟩ = some (.slice xka xkl xkc) := by rw [Lib.cell_of_heap hkW]; rfl
    have HC3 := Lib.hid (HONE.out W (HBW.out.trans (hbW.mono HBW.out.size)))
    have HBW2 := Lib.hid hbW
    clear hkW hbW
    go_wp2_with fail
    refine HC3.out.mono ?_
    rintro e w3 ⟨rfl, hb3⟩
    have HB3 := Lib.hid (HBW2.out.trans (hb3.mono HBW2.out.size))
    have HB4 := Lib.hid (HBX.out.trans (HB3.out.mono HBS.out))
    have HBZ := Lib.hid (HBW.out.trans (HB3.out.mono HBW.out.size))
    obtain ⟨d0, d1, d2, d3, d4, dk⟩ := HS.out _ HB3.out
    have HO3 := Lib.hid (qez_ HO.out HB3.out)
    have HT3 := Lib.hid (HT.out.mono fun v r hv => hv.below (HB3.out.mono HBS.out))
    clear hb3 c0 c1 c2
    by_cases her : er = 0
    ·subst her
     cases fl
     ·have HN3 : Hid (qah_ R acc (PS.drop (k + 1)) = RS) := Lib.hid (by
       have h1 := HSR.out
       rw [HST.out] at h1
       simpa using h1)
      clear d0 d1 d2 d3 d4 dk
      go_wp2
      go_roundw
      case rel => exact ⟨k + 1, acc, vs, by omega, by go_num, HO3.out, HT3.out, HN3.out, by omega, HB4.out⟩
      case measure => simp [intOf]; omega
     ·by_cases h00 : hv = 0
      ·have HN3 : Hid (RS = ([], 11)) := Lib.hid (by
        have h1 := HSR.out
        rw [HST.out] at h1
        simpa [h00] using h1)
       have k1 : (hv == 0) = true := by rw [beq_iff_eq]; exact h00
       clear d0 d1 d2 d3 d4 dk h00
       go_wp2
       go_ret2
       exact ⟨⟨none, 0, 0, by (rw [HN3.out] <;> rfl), by rw [HN3.out]; exact RefShow.nil _ _ _, Nat.le_refl _, by omega⟩, HBZ.out⟩
      ·have k1 : (hv == 0) = false := by rw [beq_eq_false_iff_ne]; exact h00
       by_cases h01 : hv = 4294967295
       ·have HN3 : Hid (RS = ([], 11)) := Lib.hid (by
         have h1 := HSR.out
         rw [HST.out] at h1
         simpa [h01] using h1)
        have k2 : (hv == 4294967295) = true := by rw [beq_iff_eq]; exact h01
        clear d0 d1 d2 d3 d4 dk h00 h01
        go_wp2
        go_ret2
        exact ⟨⟨none, 0, 0, by (rw [HN3.out] <;> rfl), by rw [HN3.out]; exact RefShow.nil _ _ _, Nat.le_refl _, by omega⟩, HBZ.out⟩
       ·have k2 : (hv == 4294967295) = false := by rw [beq_eq_false_iff_ne]; exact h01
        have HSH : Hid (RefShow w3 w3.heap.size Ao acc.length acc) := Lib.hid (by
         obtain ⟨A', c', e, h2, _⟩ := qa0_ HO3.out
         simp only [Value.slice.injEq, true_and] at e
         obtain ⟨rfl, rfl⟩ := e
         exact ⟨vs, h2, HT3.out.mono fun v r hv => hv.more HB4.out.size⟩)
        have HST2 : Hid (qau_ R acc P = if acc.any (fun y => decide (y.1 = hv)) = true then ([], 9) else (acc ++ [(hv, P)], 0)) := Lib.hid (by
         rw [HST.out]
         simp [h00, h01])
        obtain ⟨M, hM⟩ : ∃ M, acc.length = M := ⟨_, rfl⟩
        have HM := Lib.hid hM
        rw [hM] at HO3 HSH hco1 hal
        rw [hM]
        clear h00 h01 hM hcel hob hvl
        go_wp2_with fail
        go_loop [49] (fun i => ∃ j : Nat, j <= M /\ i = .int .i64 j /\ ∀ y ∈ acc.take j, y.1 ≠ hv) (fun i => M - (intOf i).toNat)
        case atStart => exact ⟨0, Nat.zero_le _, rfl, by simp⟩
        case round =>
         obtain ⟨j, hj, rfl, hall⟩ := hrel
         have HALL := Lib.hid hall
         clear hall
         by_cases hjl : j < M
         ·have hja : j < acc.length := by rw [HM.out]; exact hjl
          obtain ⟨b', o', A2, c2, e, _, q1, q2⟩ := HSH.out.at_ hja
          clear q2
          obtain rfl : Ao = _ := e
          obtain ⟨hy, hhy⟩ : ∃ hy, acc[j].1 = hy := ⟨_, rfl⟩
          rw [hhy] at q1
          by_cases heq : hy = hv
          ·have HN3 : Hid (RS = ([], 9)) := Lib.hid (by
            have h1 := HSR.out
            rw [HST2.out, if_pos (List.any_eq_true.2 ⟨acc[j], List.getElem_mem hja, decide_eq_true (hhy.trans heq)⟩)] at h1
            simpa using h1)
           have k3 : (hy == hv) = true := by rw [beq_iff_eq]; exact heq
           clear d0 d1 d2 d3 d4 dk heq hhy hja
           go_wp2
           go_ret2
           exact ⟨⟨none, 0, 0, by (rw [HN3.out] <;> rfl), by rw [HN3.out]; exact RefShow.nil _ _ _, Nat.le_refl _, by omega⟩, HBZ.out⟩
          ·have k3 : (hy == hv) = false := by rw [beq_eq_false_iff_ne]; exact heq
           have HAL2 : Hid (∀ y ∈ acc.take (j + 1), y.1 ≠ hv) := Lib.hid (fun y hy2 => by
            rw [List.take_add_one, List.getElem?_eq_getElem hja] at hy2
            rcases List.mem_append.1 hy2 with h | h
            ·exact HALL.out y h
            ·simp only [Option.toList_some, List.mem_singleton] at h
             rw [h, hhy]; exact heq)
           clear heq hhy hja
           go_wp2
           go_round
           case rel => exact ⟨j + 1, by omega, by go_num, HAL2.out⟩
           case measure => simp [intOf]; omega
         ·obtain rfl : j = M := by omega
          have HN3 : Hid (qah_ R (acc ++ [(hv, P)]) (PS.drop (k + 1)) = RS) := Lib.hid (by
           have h1 := HSR.out
           have hany : acc.any (fun y => decide (y.1 = hv)) = false := by
            rw [List.any_eq_false]
            intro y hy
            have h2 := HALL.out y (by rw [List.take_of_length_le (by rw [HM.out]; exact Nat.le_refl _)]; exact hy)
            simpa using h2
           rw [HST2.out, hany] at h1
           simpa using h1)
          obtain ⟨i0, hi, hz, hs1, hby⟩ := qaw_ qn4_
          obtain ⟨A', c', w5, r5, o5, b5, _, _⟩ := qd6_ Tryz.underlying34 hi hz hs1 hby rfl HO3.out (.int .u32 hv, .slice Bk pl m) rfl rfl (by omega) (by omega) HB4.out.size 34
          have HO5 : Hid (w5.ownsRow w1.heap.size 60 2 (.slice A' (j + 1) c') (acc ++ [(hv, P)]).length (flat2 (vs ++ [(Value.int .u32 hv, Value.slice Bk pl m)]))) := Lib.hid (by rw [List.length_append, HM.out]; exact o5)
          have HT5 : Hid (Two (RefV w5 w1.heap.size) (vs ++ [(Value.int .u32 hv, Value.slice Bk pl m)]) (acc ++ [(hv, P)])) := Lib.hid ((HT3.out.mono fun v r hv => hv.below b5).app (.cons ⟨rfl, Bk, m, by rw [HPL.out], by rw [HPL.out]; exact (HP1.out.below (HB3.out.mono HBS.out)).below b5, by rw [HPL.out]; exact HPM.out.1, HPM.out.2⟩ .nil))
          have HB5 := Lib.hid (HB4.out.trans b5)
          clear o5 b5 hi hz hs1 hby
          go_wp2_with (at_builtin; refine Lib.wpList_append_run_sl _ rfl _ _ _ rfl _ _ rfl rfl r5 ?_)
          go_roundw
          case rel => exact ⟨k + 1, acc ++ [(hv, P)], vs ++ [(Value.int .u32 hv, Value.slice Bk pl m)], by omega, by go_num, HO5.out, HT5.out, HN3.out, by rw [List.length_append, HM.out]; simp; omega, HB5.out⟩
          case measure => simp [intOf]; omega
    ·have k1 : (er != 0) = true := by rw [bne_iff_ne]; exact her
     have HN3 : Hid (RS = ([], er)) := Lib.hid (by
      have h1 := HSR.out
      rw [HST.out] at h1
      simpa [her] using h1)
     clear d0 d1 d2 d3 d4 dk her
     go_wp2
     go_ret2
     exact ⟨⟨none, 0, 0, by (rw [HN3.out] <;> rfl), by rw [HN3.out]; exact RefShow.nil _ _ _, Nat.le_refl _, by omega⟩, HBZ.out⟩
   ·go_simp
    have HZ1 := Lib.hid ((Below.refl wr.heap.size wr).alloc (Nat.le_refl _) (.cells #[.string ⟨#[]⟩, .slice none 0 0, .slice none 0 0] 27)).drew
    refine hK.out _ _ (HS.out _ HZ1.out) (fun hHeld => ?_)
    clear hK K
    refine qab_ 5 (by kernel_rfl) rfl (by rfl) (fun K hK => ?_)
    go_simp
    refine (CG1.out _ HZ1.out).mono ?_
    rintro e w2 ⟨rfl, hb2⟩
    have HD2 := Lib.hid (HZ1.out.trans (hb2.mono (by simp)))
    have hz2 : w2.heap[wr.heap.size]? = some (.cells #[.string ⟨#[]⟩, .slice none 0 0, .slice none 0 0] 27 (0, 0)) := (hb2.block wr.heap.size (by simp)).trans (heap_alloc_new wr _)
    clear hb2
    dsimp only
    refine hK.out _ _ (HS.out _ HD2.out) (fun hHeld => ?_)
    clear hK K
    refine tk 6 hHeld fun _ => ?_
    refine tk 7 hHeld fun _ => ?_
    refine tk 8 hHeld fun _ => ?_
    have y0 : w2.cell? ⟨wr.heap.size, 0, none⟩ = some (.string ⟨#[]⟩) := by rw [Lib.cell_of_heap hz2]; rfl
    have y1 : w2.cell? ⟨wr.heap.size, 1, none⟩ = some (.slice none 0 0) := by rw [Lib.cell_of_heap hz2]; rfl
    have y2 : w2.cell? ⟨wr.heap.size, 2, none⟩ = some (.slice none 0 0) := by rw [Lib.cell_of_heap hz2]; rfl
    have e0 := Lib.frozen_of_heap hz2 0
    have e1 := Lib.frozen_of_heap hz2 1
    have e2 := Lib.frozen_of_heap hz2 2
    refine qab_ 10 (by kernel_rfl) rfl (by rfl) (fun K hK => ?_)
    go_simp
    have H10 : Hid (Below wr.heap.size wr (((w2.setCell ⟨wr.heap.size, 0, none⟩ (.string xn)).setCell ⟨wr.heap.size, 1, none⟩ (.slice xpa xpl xpc)).setCell ⟨wr.heap.size, 2, none⟩ (.slice xka xkl xkc))) := Lib.hid (qdc_ HD2.out 0 _ (Nat.le_refl _) _ _ _)
    refine hK.out _ _ (HS.out _ H10.out) (fun hHeld => ?_)
    clear hK K
    refine tk 11 hHeld fun _ => ?_
    refine wpAnyH_done (by kernel_rfl) ?_ _
    clear hHeld
    obtain ⟨W, hWe⟩ : ∃ W, W = (((w2.setCell ⟨wr.heap.size, 0, none⟩ (.string xn)).setCell ⟨wr.heap.size, 1, none⟩ (.slice xpa xpl xpc)).setCell ⟨wr.heap.size, 2, none⟩ (.slice xka xkl xkc)) := ⟨_, rfl⟩
    obtain ⟨gb, hgb⟩ : ∃ gb, gb = wr.heap.size := ⟨_, rfl⟩
    have hkW : W.heap[gb]? = some (.cells #[.string xn, .slice xpa xpl xpc, .slice xka xkl xkc] 27 (0, 0)) := by rw [hWe, hgb]; exact qln_ 0 _ hz2 _ _ _
    have hbW : Below wr.heap.size wr W := by rw [hWe]; exact H10.out
    rw [<- hWe, <- hgb]
    clear hWe hgb H10 HD2 hz2 y0 y1 y2 e0 e1 e2
    have c0 : W.cell? ⟨gb, 0, none⟩ = some (.string xn) := by rw [Lib.cell_of_heap hkW]; rfl
    have c1 : W.cell? ⟨gb, 1, none⟩ = some (.slice xpa xpl xpc) := by rw [Lib.cell_of_heap hkW]; rfl
    have c2 : W.cell? ⟨gb, 2, none⟩ = some (.slice xka xkl xkc) := by rw [Lib.cell_of_heap hkW]; rfl
    have HC3 := Lib.hid (HONE.out W (HBW.out.trans (hbW.mono HBW.out.size)))
    have HBW2 := Lib.hid hbW
    clear hkW hbW
    go_wp2_with fail
    refine HC3.out.mono ?_
    rintro e w3 ⟨rfl, hb3⟩
    have HB3 := Lib.hid (HBW2.out.trans (hb3.mono HBW2.out.size))
    have HB4 := Lib.hid (HBX.out.trans (HB3.out.mono HBS.out))
    have HBZ := Lib.hid (HBW.out.trans (HB3.out.mono HBW.out.size))
    obtain ⟨d0, d1, d2, d3, d4, dk⟩ := HS.out _ HB3.out
    have HO3 := Lib.hid (qez_ HO.out HB3.out)
    have HT3 := Lib.hid (HT.out.mono fun v r hv => hv.below (HB3.out.mono HBS.out))
    clear hb3 c0 c1 c2
    by_cases her : er = 0
    ·subst her
     cases fl
     ·have HN3 : Hid (qah_ R acc (PS.drop (k + 1)) = RS) := Lib.hid (by
       have h1 := HSR.out
       rw [HST.out] at h1
       simpa using h1)
      clear d0 d1 d2 d3 d4 dk
      go_wp2
      go_roundw
      case rel => exact ⟨k + 1, acc, vs, by omega, by go_num, HO3.out, HT3.out, HN3.out, by omega, HB4.out⟩
      case measure => simp [intOf]; omega
     ·by_cases h00 : hv = 0
      ·have HN3 : Hid (RS = ([], 11)) := Lib.hid (by
        have h1 := HSR.out
        rw [HST.out] at h1
        simpa [h00] using h1)
       have k1 : (hv == 0) = true := by rw [beq_iff_eq]; exact h00
       clear d0 d1 d2 d3 d4 dk h00
       go_wp2
       go_ret2
       exact ⟨⟨none, 0, 0, by (rw [HN3.out] <;> rfl), by rw [HN3.out]; exact RefShow.nil _ _ _, Nat.le_refl _, by omega⟩, HBZ.out⟩
      ·have k1 : (hv == 0) = false := by rw [beq_eq_false_iff_ne]; exact h00
       by_cases h01 : hv = 4294967295
       ·have HN3 : Hid (RS = ([], 11)) := Lib.hid (by
         have h1 := HSR.out
         rw [HST.out] at h1
         simpa [h01] using h1)
        have k2 : (hv == 4294967295) = true := by rw [beq_iff_eq]; exact h01
        clear d0 d1 d2 d3 d4 dk h00 h01
        go_wp2
        go_ret2
        exact ⟨⟨none, 0, 0, by (rw [HN3.out] <;> rfl), by rw [HN3.out]; exact RefShow.nil _ _ _, Nat.le_refl _, by omega⟩, HBZ.out⟩
       ·have k2 : (hv == 4294967295) = false := by rw [beq_eq_false_iff_ne]; exact h01
        have HSH : Hid (RefShow w3 w3.heap.size Ao acc.length acc) := Lib.hid (by
         obtain ⟨A', c', e, h2, _⟩ := qa0_ HO3.out
         simp only [Value.slice.injEq, true_and] at e
         obtain ⟨rfl, rfl⟩ := e
         exact ⟨vs, h2, HT3.out.mono fun v r hv => hv.more HB4.out.size⟩)
        have HST2 : Hid (qau_ R acc P = if acc.any (fun y => decide (y.1 = hv)) = true then ([], 9) else (acc ++ [(hv, P)], 0)) := Lib.hid (by
         rw [HST.out]
         simp [h00, h01])
        obtain ⟨M, hM⟩ : ∃ M, acc.length = M := ⟨_, rfl⟩
        have HM := Lib.hid hM
        rw [hM] at HO3 HSH hco1 hal
        rw [hM]
        clear h00 h01 hM hcel hob hvl
        go_wp2_with fail
        go_loop [49] (fun i => ∃ j : Nat, j <= M /\ i = .int .i64 j /\ ∀ y ∈ acc.take j, y.1 ≠ hv) (fun i => M - (intOf i).toNat)
        case atStart => exact ⟨0, Nat.zero_le _, rfl, by simp⟩
        case round =>
         obtain ⟨j, hj, rfl, hall⟩ := hrel
         have HALL := Lib.hid hall
         clear hall
         by_cases hjl : j < M
         ·have hja : j < acc.length := by rw [HM.out]; exact hjl
          obtain ⟨b', o', A2, c2, e, _, q1, q2⟩ := HSH.out.at_ hja
          clear q2
          obtain rfl : Ao = _ := e
          obtain ⟨hy, hhy⟩ : ∃ hy, acc[j].1 = hy := ⟨_, rfl⟩
          rw [hhy] at q1
          by_cases heq : hy = hv
          ·have HN3 : Hid (RS = ([], 9)) := Lib.hid (by
            have h1 := HSR.out
            rw [HST2.out, if_pos (List.any_eq_true.2 ⟨acc[j], List.getElem_mem hja, decide_eq_true (hhy.trans heq)⟩)] at h1
            simpa using h1)
           have k3 : (hy == hv) = true := by rw [beq_iff_eq]; exact heq
           clear d0 d1 d2 d3 d4 dk heq hhy hja
           go_wp2
           go_ret2
           exact ⟨⟨none, 0, 0, by (rw [HN3.out] <;> rfl), by rw [HN3.out]; exact RefShow.nil _ _ _, Nat.le_refl _, by omega⟩, HBZ.out⟩
          ·have k3 : (hy == hv) = false := by rw [beq_eq_false_iff_ne]; exact heq
           have HAL2 : Hid (∀ y ∈ acc.take (j + 1), y.1 ≠ hv) := Lib.hid (fun y hy2 => by
            rw [List.take_add_one, List.getElem?_eq_getElem hja] at hy2
            rcases List.mem_append.1 hy2 with h | h
            ·exact HALL.out y h
            ·simp only [Option.toList_some, List.mem_singleton] at h
             rw [h, hhy]; exact heq)
           clear heq hhy hja
           go_wp2
           go_round
           case rel => exact ⟨j + 1, by omega, by go_num, HAL2.out⟩
           case measure => simp [intOf]; omega
         ·obtain rfl : j = M := by omega
          have HN3 : Hid (qah_ R (acc ++ [(hv, P)]) (PS.drop (k + 1)) = RS) := Lib.hid (by
           have h1 := HSR.out
           have hany : acc.any (fun y => decide (y.1 = hv)) = false := by
            rw [List.any_eq_false]
            intro y hy
            have h2 := HALL.out y (by rw [List.take_of_length_le (by rw [HM.out]; exact Nat.le_refl _)]; exact hy)
            simpa using h2
           rw [HST2.out, hany] at h1
           simpa using h1)
          obtain ⟨i0, hi, hz, hs1, hby⟩ := qaw_ qn4_
          obtain ⟨A', c', w5, r5, o5, b5, _, _⟩ := qd6_ Tryz.underlying34 hi hz hs1 hby rfl HO3.out (.int .u32 hv, .slice Bk pl m) rfl rfl (by omega) (by omega) HB4.out.size 34
          have HO5 : Hid (w5.ownsRow w1.heap.size 60 2 (.slice A' (j + 1) c') (acc ++ [(hv, P)]).length (flat2 (vs ++ [(Value.int .u32 hv, Value.slice Bk pl m)]))) := Lib.hid (by rw [List.length_append, HM.out]; exact o5)
          have HT5 : Hid (Two (RefV w5 w1.heap.size) (vs ++ [(Value.int .u32 hv, Value.slice Bk pl m)]) (acc ++ [(hv, P)])) := Lib.hid ((HT3.out.mono fun v r hv => hv.below b5).app (.cons ⟨rfl, Bk, m, by rw [HPL.out], by rw [HPL.out]; exact (HP1.out.below (HB3.out.mono HBS.out)).below b5, by rw [HPL.out]; exact HPM.out.1, HPM.out.2⟩ .nil))
          have HB5 := Lib.hid (HB4.out.trans b5)
          clear o5 b5 hi hz hs1 hby
          go_wp2_with (at_builtin; refine Lib.wpList_append_run_sl _ rfl _ _ _ rfl _ _ rfl rfl r5 ?_)
          go_roundw
          case rel => exact ⟨k + 1, acc ++ [(hv, P)], vs ++ [(Value.int .u32 hv, Value.slice Bk pl m)], by omega, by go_num, HO5.out, HT5.out, HN3.out, by rw [List.length_append, HM.out]; simp; omega, HB5.out⟩
          case measure => simp [intOf]; omega
    ·have k1 : (er != 0) = true := by rw [bne_iff_ne]; exact her
     have HN3 : Hid (RS = ([], er)) := Lib.hid (by
      have h1 := HSR.out
      rw [HST.out] at h1
      simpa [her] using h1)
     clear d0 d1 d2 d3 d4 dk her
     go_wp2
     go_ret2
     exact ⟨⟨none, 0, 0, by (rw [HN3.out] <;> rfl), by rw [HN3.out]; exact RefShow.nil _ _ _, Nat.le_refl _, by omega⟩, HBZ.out⟩
  ·obtain rfl : k = N := by omega
   have HE : Hid (RS = (acc, 0)) := Lib.hid (by
    rw [List.drop_of_length_le (by rw [HN.out]; exact Nat.le_refl _), qah_] at hsum
    exact hsum.symm)
   have HF : Hid (RefShow wr wr.heap.size Ao acc.length acc) := Lib.hid (by
    exact ⟨vs, hcel, htwo.mono fun v r hv => hv.more HBS.out⟩)
   have HBZ := Lib.hid (HB1.out.trans (hb.mono HB1.out.size))
   clear hown htwo hsum hb hcel hob hvl
   go_wp2
   go_ret2
   exact ⟨⟨Ao, acc.length, co, by (rw [HE.out] <;> rfl), by rw [HE.out]; exact HF.out, by omega, hco2⟩, HBZ.out⟩
def Awake15 : Prop := ∀ w : World, Calls Tryz.prog 4 #[] w fun e w' => e = .returned (.bool true) /\ Below w.heap.size w w'
noncomputable def wantV (t : Tr) : Int := if qb5_ t ≠ 0 then qb5_ t else (qan_ t.root).2
def CauseOf (want : Int) (e2 : Ending) : Prop := ∃ (er : Int) (A : Option Addr) (m c : Nat), e2 = .returned (.tuple #[.int .i64 er, .slice A m c]) /\ (want ≠ 0 -> er = want /\ m = 0)
def sizeV (k : Int) : Int := if k = 3 \/ k = 4 \/ k = 6 \/ k = 7 then 16 else if k = 5 then 32 else 0
def qph_ (L : World -> Prop) : Prop := ∀ (t : Tr) (w : World), L w -> t.In w w.heap.size -> heftN t.root <= 134217728 -> Calls Tryz.prog 9 #[t.val] w fun e w' => (∃ v, e = .returned v /\ ∀ W, Below w'.heap.size w' W -> Calls Tryz.prog 8 #[v] W fun e2 W' => CauseOf (wantV t) e2 /\ Below W.heap.size W W') /\ Below w.heap.size w w'
theorem qgc_ (hK : Awake15) {L : World -> Prop} (hon : ∀ w w', L w -> Below w.heap.size w w' -> L w') (hC : qph_ L) (t : Tr) (w : World) (hl : L w) (hin : t.In w w.heap.size) (hh : heftN t.root <= 134217728) : Calls Tryz.prog 3 #[t.val] w fun e w' => e = .returned (.bool true) /\ Below w.heap.size w w' := by
 have HK := Lib.hid hK
 have C0 := Lib.hid (fun W (hW : Below w.heap.size w W) => few_any t W (hin.on hW))
 obtain ⟨E, hE⟩ : ∃ E, qb5_ t = E := ⟨_, rfl⟩
 have CK := Lib.hid (fun W (hW : Below w.heap.size w W) => qkg_ t W (hin.on hW) E hE)
 have CI := Lib.hid (fun W (hW : Below w.heap.size w W) => qkx_ t W (hin.on hW) hh)
 have CV := Lib.hid (fun W (hW : Below w.heap.size w W) => hC t W (hon _ _ hl hW) (hin.on hW) hh)
 obtain ⟨WT, hWT⟩ : ∃ WT, wantV t = WT := ⟨_, rfl⟩
 obtain ⟨RS, hRS⟩ : ∃ RS, qan_ t.root = RS := ⟨_, rfl⟩
 have HWT : Hid (WT = if E ≠ 0 then E else RS.2) := Lib.hid (by rw [<- hWT, wantV, hE, hRS])
 rw [hWT] at CV
 rw [hRS] at CI
 clear hK hC hin hh hE hWT hRS hon hl
 obtain ⟨boot, ra, rc, rs, ⟨nm, pa, pc, ps, ka, kc, ks⟩⟩ := t
 simp only [Tr.val, Tr.rv, Nd.val, Nd.pv, Nd.kv, Nd.name, Nd.pa, Nd.pc, Nd.props, Nd.ka, Nd.kc, Nd.kids] at C0 CK CI CV ⊢
 have HB := Lib.hid ((Below.refl w.heap.size w).alloc (Nat.le_refl _) (.cells #[.int .u32 boot, .slice ra rs.length rc, .string nm, .slice pa ps.length pc, .slice ka ks.length kc] 29))
 have BX := Lib.hid (qa2_ w (.int .u32 boot) (.slice ra rs.length rc) (.string nm) (.slice pa ps.length pc) (.slice ka ks.length kc))
 go_enter Tryz.func3, Tryz.ntmps3
 go_wp2_with fail
 refine (HK.out _).mono ?_
 rintro e w1 ⟨rfl, hb⟩
 have HB1 := Lib.hid (HB.out.trans (hb.mono HB.out.size))
 have HX1 := Lib.hid (hb.mono (B' := w.heap.size + 1) (by simp))
 obtain ⟨b0, b1, b2, b3, b4⟩ := BX.out _ HX1.out
 clear hb
 go_wp2_with fail
 refine (C0.out _ HB1.out).mono ?_
 rintro e w2 ⟨⟨r, rfl⟩, hb⟩
 have HB2 := Lib.hid (HB1.out.trans (hb.mono HB1.out.size))
 have HX2 := Lib.hid (HX1.out.trans (hb.mono (by have := HX1.out.size; simpa using this)))
 clear hb b0 b1 b2 b3 b4
 obtain ⟨b0, b1, b2, b3, b4⟩ := BX.out _ HX2.out
 cases r
 ·clear b0 b1 b2 b3 b4
  go_wp2_with fail
  refine (HK.out _).mono ?_
  rintro e w3 ⟨rfl, hb⟩
  have HB3 := Lib.hid (HB2.out.trans (hb.mono HB2.out.size))
  clear hb
  go_wp2
  go_ret
  exact ⟨rfl, HB3.out⟩
 go_wp2_with fail
 refine (CK.out _ HB2.out).mono ?_
 rintro e w3 ⟨rfl, hb⟩
 have HB3 := Lib.hid (HB2.out.trans (hb.mono HB2.out.size))
 have HX3 := Lib.hid (HX2.out.trans (hb.mono (by have := HX2.out.size; simpa using this)))
 clear hb b0 b1 b2 b3 b4
 obtain ⟨b0, b1, b2, b3, b4⟩ := BX.out _ HX3.out
 by_cases hE0 : E = 0
 ·obtain rfl : WT = RS.2 := by rw [HWT.out, if_neg (by simp [hE0])]
  subst hE0
  obtain ⟨rl, WT⟩ := RS
  simp only at CI CV HWT ⊢
  go_wp2_with fail
  refine (CI.out _ HB3.out).mono ?_
  rintro e w4 ⟨⟨Ai, ni, ci, rfl, _, _, _⟩, hb⟩
  have HB4 := Lib.hid (HB3.out.trans (hb.mono HB3.out.size))
  have HX4 := Lib.hid (HX3.out.trans (hb.mono (by have := HX3.out.size; simpa using this)))
  clear hb b0 b1 b2 b3 b4
  obtain ⟨b0, b1, b2, b3, b4⟩ := BX.out _ HX4.out
  go_wp2_with fail
  refine (CV.out _ HB4.out).mono ?_
  rintro e w5 ⟨⟨v, rfl, hv⟩, hb⟩
  have HB5 := Lib.hid (HB4.out.trans (hb.mono HB4.out.size))
  have HVV := Lib.hid (hv w5 (Below.refl _ _))
  clear hb hv b0 b1 b2 b3 b4
  go_wp2_with fail
  refine HVV.out.mono ?_
  rintro e w6 ⟨⟨er, A, m, c, rfl, h0⟩, hb⟩
  have HB6 := Lib.hid (HB5.out.trans (hb.mono HB5.out.size))
  clear hb HVV
  by_cases hw : WT = 0
  ·have q : (WT == 0) = true := by rw [hw]; rfl
   first
   | exact absurd (k0.symm.trans q) (by decide)
   | (
     clear h0 hw
     go_wp2
     go_ret
     exact ⟨rfl, HB6.out⟩)
  ·have q : (WT == 0) = false := by rw [beq_eq_false_iff_ne]; exact hw
   obtain ⟨rfl, rfl⟩ := h0 hw
   have q2 : (er == er) = true := by simp
   clear h0 hw
   go_wp2
   go_ret
   exact ⟨rfl, HB6.out⟩
 ·obtain rfl : WT = E := by rw [HWT.out, if_pos hE0]
  have k0 : (WT == 0) = false := by rw [beq_eq_false_iff_ne]; exact hE0
  clear hE0
  go_wp2_with fail
  refine (CV.out _ HB3.out).mono ?_
  rintro e w5 ⟨⟨v, rfl, hv⟩, hb⟩
  have HB5 := Lib.hid (HB3.out.trans (hb.mono HB3.out.size))
  have HVV := Lib.hid (hv w5 (Below.refl _ _))
  clear hb hv b0 b1 b2 b3 b4
  go_wp2_with fail
  refine HVV.out.mono ?_
  rintro e w6 ⟨⟨er, A, m, c, rfl, h0⟩, hb⟩
  have HB6 := Lib.hid (HB5.out.trans (hb.mono HB5.out.size))
  clear hb HVV
  by_cases hw : WT = 0
  ·have q : (WT == 0) = true := by rw [hw]; rfl
   first
   | exact absurd (k0.symm.trans q) (by decide)
   | (
     clear h0 hw
     go_wp2
     go_ret
     exact ⟨rfl, HB6.out⟩)
  ·have q : (WT == 0) = false := by rw [beq_eq_false_iff_ne]; exact hw
   obtain ⟨rfl, rfl⟩ := h0 hw
   have q2 : (er == er) = true := by simp
   clear h0 hw
   go_wp2
   go_ret
   exact ⟨rfl, HB6.out⟩
def cntV (n : Nd) (s : ByteArray) (d : Int) : Int := if (oneV n s).2.2 ≠ 0 \/ 2 < (oneV n s).1 then -1 else if (oneV n s).2.1 = false then d else (oneV n s).1
def qav_ : ByteArray := ⟨#[35, 97, 100, 100, 114, 101, 115, 115, 45, 99, 101, 108, 108, 115]⟩
def qbe_ : ByteArray := ⟨#[35, 115, 105, 122, 101, 45, 99, 101, 108, 108, 115]⟩
theorem qin_ {w : World} {B : Nat} {n : Nd} (h : n.In w B) (s : ByteArray) : 0 <= (oneV n s).1 /\ (oneV n s).1 <= 4294967295 := by
 unfold oneV
 split
 ·exact ⟨by decide, by decide⟩
 ·rename_i p hp
  split
  ·exact qcy_ (h.prop (List.mem_of_find?_eq_some hp)).2.1 0
  ·exact ⟨by decide, by decide⟩
def cutN (zs : List Int) (a k : Nat) : Int := numTo ((zs.drop a).take k) 0 k
def wins (zs : List Int) (p q m : Nat) : List (Int × Int) := (List.range m).map fun j => (cutN zs (j * (p + q)) p, cutN zs (j * (p + q) + p) q)
theorem qmo_ (zs : List Int) (p q m : Nat) : (wins zs p q m).length = m := by simp [wins]
def winV (x : Int × Int) : Value × Value := (.int .u64 x.1, .int .u64 x.2)
def qf1_ : ByteArray := ⟨#[114, 101, 103]⟩
def regV (parent n : Nd) : Bool × List (Int × Int) :=
 match n.props.find? fun x => decide (x.name = qf1_) with
 | none => (true, [])
 | some x => if cntV parent qav_ 2 <= 0 \/ cntV parent qbe_ 1 < 0 \/ x.zs.length % (4 * (cntV parent qav_ 2).toNat + 4 * (cntV parent qbe_ 1).toNat) ≠ 0 then (false, [])
  else (true, wins x.zs (4 * (cntV parent qav_ 2).toNat) (4 * (cntV parent qbe_ 1).toNat) (x.zs.length / (4 * (cntV parent qav_ 2).toNat + 4 * (cntV parent qbe_ 1).toNat)))
theorem qdw_ {w : World} {B : Nat} {n : Nd} (h : n.In w B) (s : ByteArray) (d : Int) (hd : d <= 2) : cntV n s d <= 2 := by
 have := qin_ h s
 unfold cntV
 split
 ·omega
 ·split
  ·exact hd
  ·rename_i h1 h2
   have h3 : ¬ (2 < (oneV n s).1) := fun h => h1 (.inr h)
   omega
section
def Cel3 (w : World) (B : Nat) (A : Option Addr) (n : Nat) (xs : List (Value × Value × Value)) : Prop :=
 xs.length = n /\ (0 < n -> ∃ b o, A = some ⟨b, o, none⟩ /\ b < B /\ ∀ i (h : i < xs.length), w.cell? ⟨b, o + i * 3, none⟩ = some xs[i].1 /\ w.cell? ⟨b, o + i * 3 + 1, none⟩ = some xs[i].2.1 /\ w.cell? ⟨b, o + i * 3 + 2, none⟩ = some xs[i].2.2)
section
variable {w w' : World} {B B' n : Nat} {A : Option Addr} {xs : List (Value × Value × Value)}
theorem Cel3.nil (w : World) (B : Nat) (A : Option Addr) : Cel3 w B A 0 [] := ⟨rfl, fun h => absurd h (Nat.lt_irrefl 0)⟩
theorem Cel3.keep (h : Cel3 w B A n xs) (hk : ∀ p : Addr, p.block < B -> w'.cell? p = w.cell? p) : Cel3 w' B A n xs :=
 ⟨h.1, fun hn => by
  obtain ⟨b, o, e, hb, hc⟩ := h.2 hn
  exact ⟨b, o, e, hb, fun i hi => ⟨(hk _ hb).trans (hc i hi).1, (hk _ hb).trans (hc i hi).2.1, (hk _ hb).trans (hc i hi).2.2⟩⟩⟩
theorem Cel3.below (h : Cel3 w B A n xs) (hb : Below B w w') : Cel3 w' B A n xs := h.keep fun _ hp => hb.cell hp
theorem Cel3.more (h : Cel3 w B A n xs) (hB : B <= B') : Cel3 w B' A n xs :=
 ⟨h.1, fun hn => by
  obtain ⟨b, o, e, hb, hc⟩ := h.2 hn
  exact ⟨b, o, e, by omega, hc⟩⟩
end
def flatT (xs : List (Value × Value × Value)) : List Value := xs.flatMap fun x => [x.1, x.2.1, x.2.2]
theorem qf4_ (xs : List (Value × Value × Value)) : (flatT xs).length = xs.length * 3 := by
 induction xs with
 | nil => rfl
 | cons x r ih =>
  have e : flatT (x :: r) = [x.1, x.2.1, x.2.2] ++ flatT r := by simp [flatT]
  rw [e, List.length_append, ih]; simp; omega
theorem flatT_app (xs : List (Value × Value × Value)) (x : Value × Value × Value) : flatT (xs ++ [x]) = flatT xs ++ [x.1, x.2.1, x.2.2] := by simp [flatT]
theorem qop_ : ∀ (xs : List (Value × Value × Value)) (i : Nat) (h : i < xs.length), (flatT xs)[i * 3]? = some xs[i].1 /\ (flatT xs)[i * 3 + 1]? = some xs[i].2.1 /\ (flatT xs)[i * 3 + 2]? = some xs[i].2.2
 | x :: r, 0, _ => by simp [flatT]
 | x :: r, i + 1, h => by
  have e : flatT (x :: r) = x.1 :: x.2.1 :: x.2.2 :: flatT r := by simp [flatT]
  have ih := qop_ r i (by simpa using h)
  rw [e, show (i + 1) * 3 = i * 3 + 1 + 1 + 1 by omega]
  simpa using ih
theorem qcu_ {w : World} {base n : Nat} {e : TypeId} {v : Value} {xs : List (Value × Value × Value)} (h : w.ownsRow base e 3 v n (flatT xs)) : ∃ A c, v = .slice A n c /\ Cel3 w w.heap.size A n xs /\ n <= c /\ c <= 9223372036854775807 /\ (∀ b, v.ownBlock = some b -> base <= b /\ b < w.heap.size) := by
 obtain ⟨hl, ⟨rfl, rfl⟩ | ⟨g, cap, cur, rfl, hb, hg, hnc, hcm, hsz, htk⟩⟩ := h
 ·rw [qf4_] at hl
  obtain rfl : xs = [] := List.eq_nil_of_length_eq_zero (by omega)
  exact ⟨none, 0, rfl, Cel3.nil _ _ _, Nat.le_refl _, by omega, fun b h => by simp [Value.ownBlock] at h⟩
 ·rw [qf4_] at hl
  have hlz : xs.length = n := by omega
  have hlt := (Array.getElem?_eq_some_iff.1 hg).1
  have hcell : ∀ k, k < n * 3 -> w.cell? ⟨g, k, none⟩ = (flatT xs)[k]? := fun k hk => by
   have h1 : (flatT xs)[k]? = cur[k]? := by
    rw [<- htk, List.getElem?_take_of_lt hk, Array.getElem?_toList]
   rw [h1]
   simp [World.cell?, hg]
  refine ⟨_, cap, rfl, ⟨hlz, fun hn => ⟨g, 0, rfl, hlt, fun i hi => ?_⟩⟩, hnc, hcm, fun b h => ?_⟩
  ·obtain ⟨a1, a2, a3⟩ := qop_ xs i hi
   rw [Nat.zero_add, hcell _ (by omega), hcell _ (by omega), hcell _ (by omega)]
   exact ⟨a1, a2, a3⟩
  ·simp [Value.ownBlock] at h
   omega
theorem qiu_ (W : World) (B : Nat) (hB : B <= W.heap.size) (e : TypeId) (x : Value × Value × Value) : (W.alloc (.cells #[x.1, x.2.1, x.2.2] e)).ownsRow B e 3 (.slice (some ⟨W.heap.size, 0, none⟩) 1 1) 1 (flatT [x]) :=
 ⟨by simp [flatT], .inr ⟨W.heap.size, 1, _, rfl, hB, heap_alloc_new W _, Nat.le_refl _, by unfold maxLen; omega, rfl, by simp [flatT]⟩⟩
theorem qf7_ {t e : TypeId} {i0 : TypeInfo} {z : Value} {bytes : Nat} (ht : Tryz.prog.underlying t = some (.slice e)) (hi : Tryz.prog.info? e = some i0) (hz : i0.zero = some z) (hs1 : i0.size = 3) (hby : i0.bytes = bytes) (hzs : z.cells.size = 3)
  {w : World} {B n : Nat} {v : Value} {xs : List (Value × Value × Value)} (h : w.ownsRow B e 3 v n (flatT xs)) (x : Value × Value × Value) (hx : x.1.oneCell' = true) (hx2 : x.2.1.oneCell' = true) (hx3 : x.2.2.oneCell' = true) (hbig : (n + 1) * bytes <= 140737488355328) (hlen : n + 1 <= 140737488355328) (hB : B <= w.heap.size) (ty : TypeId) :
  ∃ A' c' w', (Builtin.append_ #[t, t] ty #[v, .slice (some ⟨w.heap.size, 0, none⟩) 1 1]).run Tryz.prog (w.alloc (.cells #[x.1, x.2.1, x.2.2] e)) = .ok (.slice A' (n + 1) c') w' /\ w'.ownsRow B e 3 (.slice A' (n + 1) c') (n + 1) (flatT (xs ++ [x])) /\ Below B w w' /\ w.grownBy w' v.ownBlock /\ ((Value.slice A' (n + 1) c').ownBlock = v.ownBlock \/ (Value.slice A' (n + 1) c').ownBlock = some (w.heap.size + 1)) := by
 have h1 : (w.alloc (.cells #[x.1, x.2.1, x.2.2] e)).ownsRow B e 3 v n (flatT xs) := h.alloc _
 have hb1 := (Below.refl B w).alloc hB (.cells #[x.1, x.2.1, x.2.2] e)
 obtain ⟨v', w', r1, r2, r3, _, r5⟩ := run_append_own_at (P := Tryz.prog) (w.alloc (.cells #[x.1, x.2.1, x.2.2] e)) B t ty e i0 z 3 bytes ht hi hz hs1 hby hzs (by omega) v _ (flatT xs) h1 ⟨w.heap.size, 0, none⟩ 1 1 [x.1, x.2.1, x.2.2] rfl
  (fun j u hu => by
   rw [qbc_, Nat.zero_add, World.cell?_alloc_new]
   rcases j with _ | _ | _ | j
   ·simpa using hu
   ·simpa using hu
   ·simpa using hu
   ·simp at hu)
  (fun u hu => by
   simp only [List.mem_cons, List.not_mem_nil, or_false] at hu
   rcases hu with rfl | rfl | rfl
   ·exact hx
   ·exact hx2
   ·exact hx3) (by unfold maxLen; omega) hbig (by simp; omega)
 have r2' : w'.ownsRow B e 3 v' (n + 1) (flatT (xs ++ [x])) := by rw [flatT_app]; exact r2
 obtain ⟨A', c', rfl, _⟩ := qcu_ r2'
 refine ⟨A', c', w', r1, r2', hb1.grown r3 (by simp; omega) (fun q hq => (h1.lt q hq).1), ?_, by simpa using r5⟩
 have hg0 := World.grownBy_alloc w (.cells #[x.1, x.2.1, x.2.2] e) v.ownBlock
 exact ⟨r3.os.trans hg0.os, r3.tape.trans hg0.tape, r3.output.trans hg0.output, Nat.le_trans hg0.size r3.size, fun k hk hne => (r3.block k (Nat.lt_of_lt_of_le hk hg0.size) hne).trans (hg0.block k hk hne)⟩
end
end Go.Proofs.YtcfinbapfhhpgaaGreatDoor
