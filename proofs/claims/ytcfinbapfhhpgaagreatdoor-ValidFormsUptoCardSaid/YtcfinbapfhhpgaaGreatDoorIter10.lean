/-
  Iter, part 10.
-/
import Derived.Test.YtcfinbapfhhpgaaGreatDoorIter9
import Derived.Test.YtcfinbapfhhpgaaGreatDoorBase9
import Derived.Test.YtcfinbapfhhpgaaGreatDoorBase5
import Derived.Test.YtcfinbapfhhpgaaGreatDoorBase7
import Derived.Test.YtcfinbapfhhpgaaGreatDoorBase8
import Derived.Laws.Pointers
namespace Go.Proofs.YtcfinbapfhhpgaaGreatDoor
open Go.RowKit
set_option linter.unusedVariables false
set_option linter.unusedSimpArgs false
set_option maxRecDepth 20000
set_option maxHeartbeats 16000000
def busN : ByteArray := ⟨#[115, 105, 109, 112, 108, 101, 45, 98, 117, 115]⟩
def ramN : ByteArray := ⟨#[97, 114, 98, 111, 114, 44, 114, 97, 109]⟩
def uartN : ByteArray := ⟨#[97, 114, 98, 111, 114, 44, 117, 97, 114, 116]⟩
def clockN : ByteArray := ⟨#[97, 114, 98, 111, 114, 44, 99, 108, 111, 99, 107]⟩
def gpioN : ByteArray := ⟨#[97, 114, 98, 111, 114, 44, 103, 112, 105, 111]⟩
def rtcN : ByteArray := ⟨#[97, 114, 98, 111, 114, 44, 114, 116, 99]⟩
def ctrlN : ByteArray := ⟨#[97, 114, 98, 111, 114, 44, 99, 116, 114, 108]⟩
def qe4_ : ByteArray := ⟨#[115, 116, 97, 116, 117, 115]⟩
def qew_ : ByteArray := ⟨#[99, 111, 109, 112, 97, 116, 105, 98, 108, 101]⟩
def okayN : ByteArray := ⟨#[111, 107, 97, 121]⟩
def okN : ByteArray := ⟨#[111, 107]⟩
def qe7_ (s : ByteArray) : Int := if s = busN then 1 else if s = ramN then 2 else if s = uartN then 3 else if s = clockN then 4 else if s = gpioN then 5 else if s = rtcN then 6 else if s = ctrlN then 7 else 0
def hasP (n : Nd) (s : ByteArray) : Bool := decide (0 <= idxOf (n.props.map PV.name) s)
noncomputable def onP (n : Nd) : Bool × Int := if hasP n qe4_ = true then (decide (textS (valV n qe4_) = okayN) || decide (textS (valV n qe4_) = okN), textE (valV n qe4_)) else (true, 0)
def qep_ : List ByteArray -> Int
 | [] => 0
 | s :: l => if qe7_ s ≠ 0 then qe7_ s else qep_ l
noncomputable def kindP (n : Nd) : Int × Bool × Int := if txtsE (valV n qew_) ≠ 0 then (0, false, txtsE (valV n qew_)) else (qep_ (txtsL (valV n qew_)), hasP n qew_, 0)
theorem qlq_ (n : Nd) (s : ByteArray) (w : World) (hin : n.In w w.heap.size) :
  Calls Tryz.prog 67 #[n.val, .string s] w fun e w' => (∃ A c, e = .returned (.tuple #[.slice A (valV n s).length c, .bool (hasP n s)]) /\ Shows w' w'.heap.size A (valV n s).length (valV n s) /\ (valV n s).length <= c /\ c <= 9223372036854775807) /\ Below w.heap.size w w' :=
 (qcz_ n s w hin _ rfl).mono fun e w' ⟨A, c, zs, he, hs, hw, hb⟩ => by
  have hz : zs = valV n s := by
   rcases hw with ⟨h0, rfl⟩ | ⟨k, hk, h0, rfl⟩
   ·exact (qkz_ h0).symm
   ·exact (qk4_ hk h0).symm
  subst hz
  exact ⟨⟨A, c, he, hs⟩, hb⟩
theorem qhr_ {s x : ByteArray} {l : List UInt8} (hx : x.toList = l) (h : s ≠ x) : (s.toList == l) = false := by
 subst hx
 rw [str_eqb, decide_eq_false h]
theorem known_any (s : ByteArray) (w : World) : Calls Tryz.prog 10 #[.string s] w fun e w' => e = .returned (.int .i64 (qe7_ s)) /\ w' = w := by
 obtain ⟨K, hK⟩ : ∃ K, qe7_ s = K := ⟨_, rfl⟩
 rw [hK]
 unfold qe7_ at hK
 go_enter Tryz.func10, Tryz.ntmps10
 by_cases h0 : s = busN
 ·subst h0
  obtain rfl : K = 1 := by rw [<- hK]; decide
  clear hK
  unfold busN
  go_wp2
  go_ret
  exact ⟨rfl, rfl⟩
 have q0 : (s.toList == [115, 105, 109, 112, 108, 101, 45, 98, 117, 115]) = false := qhr_ (by kernel_rfl) h0
 by_cases h1 : s = ramN
 ·subst h1
  obtain rfl : K = 2 := by rw [<- hK]; decide
  clear hK
  unfold ramN
  go_wp2
  go_ret
  exact ⟨rfl, rfl⟩
 have q1 : (s.toList == [97, 114, 98, 111, 114, 44, 114, 97, 109]) = false := qhr_ (by kernel_rfl) h1
 by_cases h2 : s = uartN
 ·subst h2
  obtain rfl : K = 3 := by rw [<- hK]; decide
  clear hK
  unfold uartN
  go_wp2
  go_ret
  exact ⟨rfl, rfl⟩
 have q2 : (s.toList == [97, 114, 98, 111, 114, 44, 117, 97, 114, 116]) = false := qhr_ (by kernel_rfl) h2
 by_cases h3 : s = clockN
 ·subst h3
  obtain rfl : K = 4 := by rw [<- hK]; decide
  clear hK
  unfold clockN
  go_wp2
  go_ret
  exact ⟨rfl, rfl⟩
 have q3 : (s.toList == [97, 114, 98, 111, 114, 44, 99, 108, 111, 99, 107]) = false := qhr_ (by kernel_rfl) h3
 by_cases h4 : s = gpioN
 ·subst h4
  obtain rfl : K = 5 := by rw [<- hK]; decide
  clear hK
  unfold gpioN
  go_wp2
  go_ret
  exact ⟨rfl, rfl⟩
 have q4 : (s.toList == [97, 114, 98, 111, 114, 44, 103, 112, 105, 111]) = false := qhr_ (by kernel_rfl) h4
 by_cases h5 : s = rtcN
 ·subst h5
  obtain rfl : K = 6 := by rw [<- hK]; decide
  clear hK
  unfold rtcN
  go_wp2
  go_ret
  exact ⟨rfl, rfl⟩
 have q5 : (s.toList == [97, 114, 98, 111, 114, 44, 114, 116, 99]) = false := qhr_ (by kernel_rfl) h5
 by_cases h6 : s = ctrlN
 ·subst h6
  obtain rfl : K = 7 := by rw [<- hK]; decide
  clear hK
  unfold ctrlN
  go_wp2
  go_ret
  exact ⟨rfl, rfl⟩
 have q6 : (s.toList == [97, 114, 98, 111, 114, 44, 99, 116, 114, 108]) = false := qhr_ (by kernel_rfl) h6
 obtain rfl : K = 0 := by rw [if_neg h0, if_neg h1, if_neg h2, if_neg h3, if_neg h4, if_neg h5, if_neg h6] at hK; exact hK.symm
 clear hK h0 h1 h2 h3 h4 h5 h6
 go_wp2
 go_ret
 exact ⟨rfl, rfl⟩
theorem qj3_ (n : Nd) (w : World) (hin : n.In w w.heap.size) (hh : heftN n <= 134217728) : Calls Tryz.prog 42 #[n.val] w fun e w' => e = .returned (.tuple #[.bool (onP n).1, .int .i64 (onP n).2]) /\ Below w.heap.size w w' := by
 have CF := Lib.hid (fun W (hW : Below w.heap.size w W) => qlq_ n qe4_ W (hin.on hW))
 have HL : Hid ((valV n qe4_).length <= 134217728) := Lib.hid (Nat.le_trans qho_ hh)
 have CT := Lib.hid (fun (A : Option Addr) (m c : Nat) (zs : List Int) W h1 h2 h3 h4 => qku_ A m c zs W h1 h2 h3 h4)
 obtain ⟨X, hX⟩ : ∃ X, onP n = X := ⟨_, rfl⟩
 have HX : Hid (X = if hasP n qe4_ = true then (decide (textS (valV n qe4_) = okayN) || decide (textS (valV n qe4_) = okN), textE (valV n qe4_)) else (true, 0)) := Lib.hid hX.symm
 rw [hX]
 obtain ⟨X1, X2⟩ := X
 generalize valV n qe4_ = V at *
 generalize hasP n qe4_ = H at *
 clear hin hh hX
 obtain ⟨nm, pa, pc, ps, ka, kc, ks⟩ := n
 simp only [Nd.val, Nd.pv, Nd.kv, Nd.name, Nd.pa, Nd.pc, Nd.props, Nd.ka, Nd.kc, Nd.kids] at CF ⊢
 have HB := Lib.hid ((Below.refl w.heap.size w).alloc (Nat.le_refl _) (.cells #[.string nm, .slice pa ps.length pc, .slice ka ks.length kc] 27))
 unfold qe4_ at CF
 go_enter Tryz.func42, Tryz.ntmps42
 go_wp2_with fail
 refine (CF.out _ HB.out).mono ?_
 rintro e w1 ⟨⟨A, c, rfl, hs, hc1, hc2⟩, hb⟩
 have HB1 := Lib.hid (HB.out.trans (hb.mono HB.out.size))
 clear hb CF
 cases H
 ·obtain ⟨rfl, rfl⟩ : X1 = true /\ X2 = 0 := by have := HX.out; simpa using this
  go_wp2
  go_ret2
  exact ⟨rfl, HB1.out⟩
 ·have CTT := Lib.hid (CT.out A V.length c V w1 hs HL.out hc1 hc2)
  obtain ⟨hx, hx2⟩ : X1 = (decide (textS V = okayN) || decide (textS V = okN)) /\ X2 = textE V := by
   have := HX.out
   rw [if_pos rfl] at this
   exact ⟨congrArg Prod.fst this, congrArg Prod.snd this⟩
  have hBB := Lib.hid hx
  have hB2 := Lib.hid hx2
  clear hx hx2
  clear HX hs hc1 hc2 HL CT
  generalize V.length = m at *
  generalize textS V = T at *
  generalize textE V = E at *
  go_wp2_with fail
  refine CTT.out.mono ?_
  rintro e w2 ⟨rfl, hb⟩
  have HB2 := Lib.hid (HB1.out.trans (hb.mono HB1.out.size))
  clear hb CTT
  obtain rfl : X2 = E := hB2.out
  clear hB2
  by_cases h1 : T = okayN
  ·obtain rfl : X1 = true := by rw [hBB.out, decide_eq_true h1]; rfl
   clear hBB
   subst h1
   unfold okayN
   go_wp2
   go_ret2
   exact ⟨rfl, HB2.out⟩
  ·by_cases h2 : T = okN
   ·obtain rfl : X1 = true := by rw [hBB.out, decide_eq_true h2]; simp
    clear hBB h1
    subst h2
    unfold okN
    go_wp2
    go_ret2
    exact ⟨rfl, HB2.out⟩
   ·obtain rfl : X1 = false := by rw [hBB.out, decide_eq_false h1, decide_eq_false h2]; rfl
    have q1 : (T.toList == [111, 107, 97, 121]) = false := qhr_ (by kernel_rfl) h1
    have q2 : (T.toList == [111, 107]) = false := qhr_ (by kernel_rfl) h2
    clear hBB h1 h2
    go_wp2
    go_ret2
    exact ⟨rfl, HB2.out⟩
theorem qjc_ : ∀ {l : List ByteArray} {k : Nat} (hk : k < l.length), (∀ j (h : j < l.length), j < k -> qe7_ l[j] = 0) -> qe7_ l[k] ≠ 0 -> qep_ l = qe7_ l[k]
 | s :: l, 0, _, _, h => by rw [qep_, if_pos (by simpa using h)]; rfl
 | s :: l, k + 1, hk, ha, h => by
  have h0 : qe7_ s = 0 := ha 0 (by simp) (by omega)
  rw [qep_, if_neg (by simp [h0])]
  exact qjc_ (l := l) (k := k) (by simpa using hk) (fun j hj hjk => ha (j + 1) (by simpa using hj) (by omega)) h
theorem qfx_ : ∀ {l : List ByteArray}, (∀ j (h : j < l.length), qe7_ l[j] = 0) -> qep_ l = 0
 | [], _ => rfl
 | s :: l, h => by
  have h0 : qe7_ s = 0 := h 0 (by simp)
  rw [qep_, if_neg (by simp [h0])]
  exact qfx_ (fun j hj => h (j + 1) (by simpa using hj))
theorem qfq_ (n : Nd) (w : World) (hin : n.In w w.heap.size) (hh : heftN n <= 134217728) : Calls Tryz.prog 43 #[n.val] w fun e w' => e = .returned (.tuple #[.int .i64 (kindP n).1, .bool (kindP n).2.1, .int .i64 (kindP n).2.2]) /\ Below w.heap.size w w' := by
 have CF := Lib.hid (fun W (hW : Below w.heap.size w W) => qlq_ n qew_ W (hin.on hW))
 have HL : Hid ((valV n qew_).length <= 134217728) := Lib.hid (Nat.le_trans qho_ hh)
 have CT := Lib.hid (fun (A : Option Addr) (m c : Nat) (zs : List Int) W h1 h2 h3 h4 => qh7_ A m c zs W h1 h2 h3 h4)
 have CK := Lib.hid (fun s W => known_any s W)
 obtain ⟨X, hX⟩ : ∃ X, kindP n = X := ⟨_, rfl⟩
 have HX : Hid (X = if txtsE (valV n qew_) ≠ 0 then (0, false, txtsE (valV n qew_)) else (qep_ (txtsL (valV n qew_)), hasP n qew_, 0)) := Lib.hid hX.symm
 rw [hX]
 obtain ⟨X1, X2, X3⟩ := X
 generalize valV n qew_ = V at *
 generalize hasP n qew_ = H at *
 clear hin hh hX
 obtain ⟨nm, pa, pc, ps, ka, kc, ks⟩ := n
 simp only [Nd.val, Nd.pv, Nd.kv, Nd.name, Nd.pa, Nd.pc, Nd.props, Nd.ka, Nd.kc, Nd.kids] at CF ⊢
 have HB := Lib.hid ((Below.refl w.heap.size w).alloc (Nat.le_refl _) (.cells #[.string nm, .slice pa ps.length pc, .slice ka ks.length kc] 27))
 unfold qew_ at CF
 go_enter Tryz.func43, Tryz.ntmps43
 go_wp2_with fail
 refine (CF.out _ HB.out).mono ?_
 rintro e w1 ⟨⟨A, c, rfl, hs, hc1, hc2⟩, hb⟩
 have HB1 := Lib.hid (HB.out.trans (hb.mono HB.out.size))
 have CTT := Lib.hid (CT.out A V.length c V w1 hs HL.out hc1 hc2)
 clear hb CF hs hc1 hc2 HL CT
 generalize V.length = m at *
 obtain ⟨L, hL⟩ : ∃ L, txtsL V = L := ⟨_, rfl⟩
 obtain ⟨E, hE⟩ : ∃ E, txtsE V = E := ⟨_, rfl⟩
 rw [hL, hE] at CTT HX
 clear hL hE
 go_wp2_with fail
 refine CTT.out.mono ?_
 rintro e w2 ⟨⟨A2, c2, rfl, hcel, hc1, hc2⟩, hb⟩
 have HB2 := Lib.hid (HB1.out.trans (hb.mono HB1.out.size))
 clear hb CTT
 by_cases hE0 : E = 0
 ·subst hE0
  obtain ⟨hx, rfl, rfl⟩ : X1 = qep_ L /\ X2 = H /\ X3 = 0 := by
   have := HX.out
   rw [if_neg (by simp)] at this
   simpa using this
  have HX1 := Lib.hid hx
  clear hx
  have HC := Lib.hid hcel
  have hl : (strs6 L).length = L.length := List.length_map _
  rw [hl] at hc1 HC ⊢
  have HLE := Lib.hid (And.intro hc1 hc2)
  clear HX hcel hl hc1 hc2
  go_wp2_with fail
  go_loopw [27] (fun i wr => ∃ k : Nat, k <= L.length /\ i = .int .i64 k /\ (∀ j (h : j < L.length), j < k -> qe7_ L[j] = 0) /\ Below w.heap.size w wr /\ Below w2.heap.size w2 wr) (fun i _ => L.length - (intOf i).toNat)
  case atStart => exact ⟨0, Nat.zero_le _, rfl, fun j h h0 => absurd h0 (Nat.not_lt_zero _), HB2.out, Below.refl _ _⟩
  case round =>
   obtain ⟨k, hk, rfl, hpre, hb, hb2⟩ := hrel
   have hl12 : L.length <= 9223372036854775807 := by have := HLE.out; omega
   have HPRE := Lib.hid hpre
   have HB3 := Lib.hid hb
   have HB4 := Lib.hid hb2
   clear hpre
   by_cases hlt : k < L.length
   ·obtain ⟨b, o, rfl, _, hc⟩ := (HC.out.below hb2).2 (by omega)
    have c0 := hc k hlt
    rw [List.getElem?_map, List.getElem?_eq_getElem hlt] at c0
    obtain ⟨s, hs⟩ : ∃ s, L[k] = s := ⟨_, rfl⟩
    replace c0 : wr.cell? ⟨b, o + k, none⟩ = some (.string s) := by rw [<- hs]; exact c0
    have HS := Lib.hid hs
    obtain ⟨K, hK⟩ : ∃ K, qe7_ s = K := ⟨_, rfl⟩
    have HKK := Lib.hid hK
    have CKS := Lib.hid (fun W => CK.out s W)
    rw [hK] at CKS
    have HLT := Lib.hid hlt
    clear hs hc hb hb2 hK
    go_wp2_with fail
    refine (CKS.out _).mono ?_
    rintro e w4 ⟨rfl, rfl⟩
    by_cases hK0 : K = 0
    ·subst hK0
     go_wp2
     go_roundw
     case rel => exact ⟨k + 1, by omega, by go_num, fun j hj hjk => by
      rcases Nat.lt_or_ge j k with h | h
      ·exact HPRE.out j hj h
      ·obtain rfl : j = k := by omega
       rw [HS.out]; exact HKK.out, HB3.out, HB4.out⟩
     case measure => simp [intOf]; omega
    ·have q : (K != 0) = true := by rw [bne_iff_ne]; exact hK0
     have HK0 := Lib.hid hK0
     clear hK0
     obtain rfl : X1 = K := by rw [HX1.out, qjc_ HLT.out (fun j hj hjk => HPRE.out j hj hjk) (by rw [HS.out, HKK.out]; exact HK0.out), HS.out, HKK.out]
     go_wp2
     refine bodyPost_ret (v := .tuple #[.int .i64 X1, .bool X2, .int .i64 0]) (by simp [results, Tryz.results43, go_sem]; try rfl) rfl ?_
     exact ⟨rfl, HB3.out⟩
   ·obtain rfl : k = L.length := by omega
    clear hlt hb hb2
    obtain rfl : X1 = 0 := by rw [HX1.out, qfx_ (fun j hj => HPRE.out j hj hj)]
    go_wp2
    refine bodyPost_ret (v := .tuple #[.int .i64 0, .bool X2, .int .i64 0]) (by simp [results, Tryz.results43, go_sem]; try rfl) rfl ?_
    exact ⟨rfl, HB3.out⟩
 ·have q : (E != 0) = true := by rw [bne_iff_ne]; exact hE0
  obtain ⟨rfl, rfl, rfl⟩ : X1 = 0 /\ X2 = false /\ X3 = E := by
   have := HX.out
   rw [if_pos hE0] at this
   simpa using this
  clear hE0 HX hcel hc1 hc2
  go_wp2
  refine bodyPost_ret (v := .tuple #[.int .i64 0, .bool false, .int .i64 X3]) (by simp [results, Tryz.results43, go_sem]; try rfl) rfl ?_
  exact ⟨rfl, HB2.out⟩
theorem qno_ (t : Tr) (p : List Nat) (A : Option Addr) (n c : Nat) (w : World) (hin : t.In w w.heap.size) (hck : qb5_ t = 0) (hh : heftN t.root <= 134217728) (hpl : p ∈ qac_ t.root []) (hp : Cel w w.heap.size A n (ints p)) (hnc : n <= c) (hc : c <= 9223372036854775807) :
  Calls Tryz.prog 180 #[t.val, .slice A n c] w fun e w' => (∃ A' c', e = .returned (.tuple #[.slice A' (n + 1) c', .int .i64 0]) /\ Cel3 w' w'.heap.size A' (n + 1) ((wayL t.root (p.map Int.ofNat) n).map Nd.tri) /\ n + 1 <= c' /\ c' <= 9223372036854775807) /\ Below w.heap.size w w' := by
 have hlen : p.length = n := by have := hp.1; rwa [List.length_map] at this
 have CP := Lib.hid (fun W (hW : Below w.heap.size w W) => pathOK t p A n c W (hin.on hW) hck hh hpl hlen (hp.on hW) hnc hc)
 obtain ⟨yy, hyy⟩ := qet_ hpl
 have hn40 : n <= 40 := by
  have := qcq_ (qdd_ hck) hyy
  omega
 obtain ⟨z, hz⟩ : ∃ z, p.map Int.ofNat = z := ⟨_, rfl⟩
 have hzn : nodeZ t.root z = some yy := by rw [<- hz]; exact (qa4_ _ _).trans hyy
 rw [qf3_, hz] at hp
 obtain ⟨PS, hPS⟩ : ∃ PS, qgo_ t.root p = PS := ⟨_, rfl⟩
 simp only [hPS] at CP
 rw [hz]
 have HI := Lib.hid hin.root
 have HP := Lib.hid hp
 have HPL : Hid (z.length = n) := Lib.hid (by rw [<- hz, List.length_map]; exact hlen)
 have HZZ : Hid (nodeZ t.root z = some yy) := Lib.hid hzn
 clear hin hp hz hzn hPS hpl hck hh hlen hyy
 obtain ⟨boot, ra, rc, rs, ⟨nm, pa, pc, ps, ka, kc, ks⟩⟩ := t
 replace HI : Hid ((Nd.mk nm pa pc ps ka kc ks).In w w.heap.size) := HI
 replace HZZ : Hid (nodeZ (Nd.mk nm pa pc ps ka kc ks) z = some yy) := HZZ
 replace CP : Hid (∀ W, Below w.heap.size w W -> Calls Tryz.prog 48 #[.agg #[.int .u32 boot, .slice ra rs.length rc, .string nm, .slice pa ps.length pc, .slice ka ks.length kc], .slice A n c] W fun e w' => e = .returned (.tuple #[.string PS, .int .i64 0]) /\ Below W.heap.size W w') := CP
 show Calls _ _ #[.agg #[.int .u32 boot, .slice ra rs.length rc, .string nm, .slice pa ps.length pc, .slice ka ks.length kc], .slice A n c] w (fun e w' => (∃ A' c', e = .returned (.tuple #[.slice A' (n + 1) c', .int .i64 0]) /\ Cel3 w' w'.heap.size A' (n + 1) ((wayL (Nd.mk nm pa pc ps ka kc ks) z n).map Nd.tri) /\ n + 1 <= c' /\ c' <= 9223372036854775807) /\ Below w.heap.size w w')
 obtain ⟨R, hR⟩ : ∃ R, Nd.mk nm pa pc ps ka kc ks = R := ⟨_, rfl⟩
 have HRE := Lib.hid hR
 rw [hR] at HI HZZ ⊢
 clear hR
 obtain ⟨g, hg⟩ : ∃ g, w.heap.size = g := ⟨_, rfl⟩
 have HG := Lib.hid hg
 have BX := Lib.hid (qa2_ w (.int .u32 boot) (.slice ra rs.length rc) (.string nm) (.slice pa ps.length pc) (.slice ka ks.length kc))
 have HB0 := Lib.hid ((Below.refl w.heap.size w).alloc (Nat.le_refl _) (.cells #[.int .u32 boot, .slice ra rs.length rc, .string nm, .slice pa ps.length pc, .slice ka ks.length kc] 29))
 obtain ⟨b0, b1, b2, b3, b4⟩ := BX.out _ (Below.refl _ _)
 go_enter Tryz.func180, Tryz.ntmps180
 go_wp2_with fail
 refine (CP.out _ HB0.out).mono ?_
 rintro e w1 ⟨rfl, hb⟩
 have HB1 := Lib.hid (HB0.out.trans (hb.mono HB0.out.size))
 have HX1 := Lib.hid (hb.mono (B' := w.heap.size + 1) (by simp))
 clear hb b0 b1 b2 b3 b4 CP
 obtain ⟨b0, b1, b2, b3, b4⟩ := BX.out _ HX1.out
 rw [hg] at b0 b1 b2 b3 b4
 obtain ⟨gn, hh⟩ : ∃ gn, w1.heap.size = gn := ⟨_, rfl⟩
 have HGH : Hid (g + 1 <= gn) := Lib.hid (by rw [<- hg, <- hh]; have := HX1.out.size; simpa using this)
 obtain ⟨V1, hV1⟩ : ∃ V1, w1.alloc (.cells #[.string nm, .slice pa ps.length pc, .slice ka ks.length kc] 27) = V1 := ⟨_, rfl⟩
 have zV1 : V1.heap.size = gn + 1 := by rw [<- hV1]; simp [hh]
 have bV1 : Below gn w1 V1 := by rw [<- hV1]; exact (Below.refl _ _).alloc (by rw [hh]; exact Nat.le_refl _) _
 have nV1 : V1.heap[gn]? = some (.cells #[.string nm, .slice pa ps.length pc, .slice ka ks.length kc] 27 (0, 0)) := by rw [<- hV1, <- hh]; exact heap_alloc_new _ _
 have v0 : V1.cell? ⟨gn, 0, none⟩ = some (.string nm) := by rw [Lib.cell_of_heap nV1]; rfl
 have v1 : V1.cell? ⟨gn, 1, none⟩ = some (.slice pa ps.length pc) := by rw [Lib.cell_of_heap nV1]; rfl
 have v2 : V1.cell? ⟨gn, 2, none⟩ = some (.slice ka ks.length kc) := by rw [Lib.cell_of_heap nV1]; rfl
 obtain ⟨V2, hV2⟩ : ∃ V2, V1.alloc (.cells #[.string nm, .slice pa ps.length pc, .slice ka ks.length kc] 27) = V2 := ⟨_, rfl⟩
 have bV2 : Below (gn + 1) V1 V2 := by rw [<- hV2]; exact (Below.refl _ _).alloc (by rw [zV1]; exact Nat.le_refl _) _
 have nV2 : V2.ownsRow (gn + 1) 27 3 (.slice (some ⟨gn + 1, 0, none⟩) 1 1) 1 (flatT ((wayL R z 0).map Nd.tri)) := by
  have h5 : (V1.alloc (.cells #[.string nm, .slice pa ps.length pc, .slice ka ks.length kc] 27)).ownsRow (gn + 1) 27 3 (.slice (some ⟨V1.heap.size, 0, none⟩) 1 1) 1 (flatT [Nd.tri (Nd.mk nm pa pc ps ka kc ks)]) := qiu_ V1 (gn + 1) (by rw [zV1]; exact Nat.le_refl _) 27 (Nd.tri (Nd.mk nm pa pc ps ka kc ks))
  rw [hV2, zV1, HRE.out] at h5
  have e : (wayL R z 0).map Nd.tri = [Nd.tri R] := by simp [wayL, nodeZ]
  rw [e]
  exact h5
 have HST : Hid (V2.heap[gn]? = some (.cells #[.string R.name, R.pv, R.kv] 27 (0, 0)) /\ V2.ownsRow (gn + 1) 27 3 (.slice (some ⟨gn + 1, 0, none⟩) 1 1) 1 (flatT ((wayL R z 0).map Nd.tri)) /\ Below g w V2) := Lib.hid ⟨by rw [<- HRE.out]; exact (bV2.block _ (by omega)).trans nV1, nV2, ((by rw [<- hg]; exact HB1.out : Below g w w1).trans (bV1.mono (by have := HGH.out; omega))).trans (bV2.mono (by have := HGH.out; omega))⟩
 clear bV1 bV2 nV1 nV2
 go_wp2_with fail
 clear b0 b1 b2 b3 b4 v0 v1 v2 hV1 hV2 zV1 hh
 go_loopw [9, 27] (fun l i wr => ∃ (k : Nat) (x : Nd) (Av : Option Addr) (cv : Nat), k <= n /\ i = .int .i64 k /\ l = .slice Av (k + 1) cv /\ nodeZ R (z.take k) = some x /\ wr.heap[gn]? = some (.cells #[.string x.name, x.pv, x.kv] 27 (0, 0)) /\ wr.ownsRow (gn + 1) 27 3 (.slice Av (k + 1) cv) (k + 1) (flatT ((wayL R z k).map Nd.tri)) /\ Below g w wr) (fun _ i _ => n - (intOf i).toNat)
 case atStart =>
  obtain ⟨a1, a2, a3⟩ := HST.out
  exact ⟨0, R, _, _, Nat.zero_le _, rfl, rfl, rfl, a1, a2, a3⟩
 case round =>
  obtain ⟨k, x, Av, cv, hk, rfl, rfl, hx, hbk, hown, hb⟩ := hrel
  have HX := Lib.hid hx
  have hgh := HGH.out
  have HBK := Lib.hid hbk
  have HB := Lib.hid hb
  have HOWN := Lib.hid hown
  have hxin := (qa9_ _ HI.out hx).under (by rw [HG.out]; exact hb)
  by_cases hlt : k < n
  ·obtain ⟨pb, po, rfl, _, hcell⟩ := (HP.out.below (by rw [HG.out]; exact hb)).2 (by omega)
   have ck := hcell k hlt
   have hkp : k < z.length := by rw [HPL.out]; exact hlt
   rw [List.getElem?_map, List.getElem?_eq_getElem hkp] at ck
   have hzt : z.take (k + 1) = z.take k ++ [z[k]] := by rw [List.take_add_one, List.getElem?_eq_getElem hkp]; rfl
   have hzs : nodeZ R z = nodeZ x (z[k] :: z.drop (k + 1)) := by
    have e : z = z.take k ++ (z[k] :: z.drop (k + 1)) := by rw [List.getElem_cons_drop, List.take_append_drop]
    conv => lhs; rw [e, qar_, hx]
   have hzn : nodeZ R (z.take (k + 1)) = nodeZ x [z[k]] := by rw [hzt, qar_, hx]
   replace ck : wr.cell? ⟨pb, po + k, none⟩ = some (.int .i64 z[k]) := ck
   generalize z[k] = q at *
   generalize z.drop (k + 1) = zr at *
   have HZS := Lib.hid hzs
   have HZN := Lib.hid hzn
   have hkm := hxin.klen
   have hkl := hxin.name_le.2.2
   have HKC := Lib.hid (fun i (hi : i < x.kids.length) => hxin.kcell hi)
   clear hzt hzs hzn hcell hkp hb hx hxin hown
   obtain ⟨xn, xpa, xpc, xps, xka, xkc, xks⟩ := x
   replace hkm : xks.length <= xkc /\ xkc <= 9223372036854775807 := hkm
   replace hkl : xks.length * 64 <= 140737488351232 := hkl
   replace hbk : wr.heap[gn]? = some (.cells #[.string xn, .slice xpa xps.length xpc, .slice xka xks.length xkc] 27 (0, 0)) := hbk
   have c0 : wr.cell? ⟨gn, 0, none⟩ = some (.string xn) := by rw [Lib.cell_of_heap hbk]; rfl
   have c1 : wr.cell? ⟨gn, 1, none⟩ = some (.slice xpa xps.length xpc) := by rw [Lib.cell_of_heap hbk]; rfl
   have c2 : wr.cell? ⟨gn, 2, none⟩ = some (.slice xka xks.length xkc) := by rw [Lib.cell_of_heap hbk]; rfl
   have f0 := Lib.frozen_of_heap hbk 0
   have f1 := Lib.frozen_of_heap hbk 1
   have f2 := Lib.frozen_of_heap hbk 2
   clear hbk
   have hq0 : ¬ q < 0 := fun h => by
    have := HZS.out
    rw [HZZ.out, nodeZ, if_pos h] at this
    cases this
   have hqk : q.toNat < xks.length := Nat.lt_of_not_le fun h => by
    have := HZS.out
    rw [HZZ.out, nodeZ, if_neg hq0] at this
    simp only [Nd.kids, List.getElem?_eq_none h] at this
    cases this
   obtain ⟨kb, ko, ek, _, d0, d1, d2⟩ := HKC.out _ hqk
   obtain ⟨q, rfl⟩ : ∃ m : Nat, q = (m : Int) := ⟨q.toNat, by omega⟩
   simp only [Int.toNat_natCast] at hqk d0 d1 d2
   obtain rfl : xka = _ := ek
   have q2 : decide ((q : Int) >= (xks.length : Int)) = false := decide_eq_false (by omega)
   have q3 : decide ((xks.length : Int) <= (q : Int)) = false := decide_eq_false (by omega)
   have HNX : Hid (nodeZ R (z.take (k + 1)) = some xks[q]) := Lib.hid (by
    rw [HZN.out, nodeZ, if_neg (by omega)]
    simp only [Int.toNat_natCast, Nd.kids, List.getElem?_eq_getElem hqk]
    rfl)
   replace d0 : wr.cell? ⟨kb, ko + q * 3, none⟩ = some (.string xks[q].name) := d0
   replace d1 : wr.cell? ⟨kb, ko + q * 3 + 1, none⟩ = some xks[q].pv := d1
   replace d2 : wr.cell? ⟨kb, ko + q * 3 + 2, none⟩ = some xks[q].kv := d2
   obtain ⟨y, hy⟩ : ∃ y, xks[q] = y := ⟨_, rfl⟩
   rw [hy] at HNX d0 d1 d2
   clear hy HKC HZS HZN HX
   obtain ⟨yn, ypa, ypc, yps, yka, ykc, yks⟩ := y
   replace d0 : wr.cell? ⟨kb, ko + q * 3, none⟩ = some (.string yn) := d0
   replace d1 : wr.cell? ⟨kb, ko + q * 3 + 1, none⟩ = some (.slice ypa yps.length ypc) := d1
   replace d2 : wr.cell? ⟨kb, ko + q * 3 + 2, none⟩ = some (.slice yka yks.length ykc) := d2
   obtain ⟨Ws, hWs⟩ : ∃ Ws, ((wr.setCell ⟨gn, 0, none⟩ (.string yn)).setCell ⟨gn, 1, none⟩ (.slice ypa yps.length ypc)).setCell ⟨gn, 2, none⟩ (.slice yka yks.length ykc) = Ws := ⟨_, rfl⟩
   obtain ⟨t1, t2, t3, t4⟩ := qk8_ HBK.out (.string yn) (.slice ypa yps.length ypc) (.slice yka yks.length ykc)
   rw [hWs] at t1 t2 t3 t4
   have e0 : Ws.cell? ⟨gn, 0, none⟩ = some (.string yn) := by rw [Lib.cell_of_heap t1]; rfl
   have e1 : Ws.cell? ⟨gn, 1, none⟩ = some (.slice ypa yps.length ypc) := by rw [Lib.cell_of_heap t1]; rfl
   have e2 : Ws.cell? ⟨gn, 2, none⟩ = some (.slice yka yks.length ykc) := by rw [Lib.cell_of_heap t1]; rfl
   have hso : Ws.ownsRow (gn + 1) 27 3 (.slice Av (k + 1) cv) (k + 1) (flatT ((wayL R z k).map Nd.tri)) := HOWN.out.kept (row := some (gn)) ⟨(t4 g (by omega)).os, (t4 g (by omega)).tape, (t4 g (by omega)).output, by rw [t2]; exact Nat.le_refl _, fun j hj hne => t3 j (fun h => hne (by rw [h]))⟩ (by
    rcases h : (Value.slice Av (k + 1) cv).ownBlock with _ | j
    ·exact .inl rfl
    ·refine .inr (fun e => ?_)
     have := (HOWN.out.lt j h).1
     have := Option.some.inj e
     omega)
   have hsz : gn + 1 <= Ws.heap.size := by
    rw [t2]
    have h := Array.getElem?_eq_some_iff.1 HBK.out
    have := h.1
    omega
   obtain ⟨i0, hi, hz, hs1, hby⟩ := qaw_ qji_
   obtain ⟨A', c', w5, r5, o5, b5, _, _⟩ := qf7_ Tryz.underlying25 hi hz hs1 hby rfl (w := Ws) hso (Nd.tri (Nd.mk yn ypa ypc yps yka ykc yks)) rfl rfl rfl (by omega) (by omega) hsz 25
   replace r5 : (Builtin.append_ #[25, 25] 25 #[.slice Av (k + 1) cv, .slice (some ⟨Ws.heap.size, 0, none⟩) 1 1]).run Tryz.prog (Ws.alloc (.cells #[.string yn, .slice ypa yps.length ypc, .slice yka yks.length ykc] 27)) = .ok (.slice A' (k + 1 + 1) c') w5 := r5
   have HR5 := Lib.hid r5
   have HN5 : Hid (w5.heap[gn]? = some (.cells #[.string (Nd.mk yn ypa ypc yps yka ykc yks).name, (Nd.mk yn ypa ypc yps yka ykc yks).pv, (Nd.mk yn ypa ypc yps yka ykc yks).kv] 27 (0, 0))) := Lib.hid ((b5.block (gn) (by omega)).trans t1)
   have HO5 : Hid (w5.ownsRow (gn + 1) 27 3 (.slice A' (k + 1 + 1) c') (k + 1 + 1) (flatT ((wayL R z (k + 1)).map Nd.tri))) := Lib.hid (by
    rw [qhx_, HNX.out, List.map_append]
    exact o5)
   have HB5 : Hid (Below g w w5) := Lib.hid (HB.out.trans ((t4 g (by omega)).trans (b5.mono (by omega))))
   generalize xks.length = xkl at *
   generalize yks.length = ykl at *
   generalize yps.length = ypl at *
   clear t1 t2 t3 t4 hso o5 b5 hi hz hs1 hby r5
   go_wp2_with (at_builtin; refine Lib.wpList_append_run_sl _ rfl _ _ _ rfl _ _ rfl rfl HR5.out ?_)
   go_roundw
   case rel => exact ⟨k + 1, Nd.mk yn ypa ypc yps yka ykc yks, A', c', by omega, by go_num, rfl, HNX.out, HN5.out, HO5.out, HB5.out⟩
   case measure => simp [intOf]; omega
  ·obtain rfl : k = n := by omega
   have HT : Hid (nodeZ R z = some x) := Lib.hid (by
    have e : z.take k = z := List.take_of_length_le (by rw [HPL.out]; exact Nat.le_refl _)
    rw [<- hx, e])
   obtain ⟨Av', cv', e', hcel, hc1, hc2, _⟩ := qcu_ hown
   simp only [Value.slice.injEq, true_and] at e'
   obtain ⟨rfl, rfl⟩ := e'
   have HCEL := Lib.hid hcel
   have HCC := Lib.hid (And.intro hc1 hc2)
   clear hxin hx hb hbk hown hcel hc1 hc2
   go_wp2
   go_ret2
   exact ⟨⟨Av, cv, rfl, HCEL.out, HCC.out.1, HCC.out.2⟩, by rw [HG.out]; exact HB.out⟩
structure SpR where
 b : Nat
 z : List Nat
 A : Option Addr
 c : Nat
 y : Nd
 ab : Option Nat
 kA : Option Addr
 kc : Nat
 ks : List Nat
structure SpD where
 en : Bool
 kd : Int
 A : Option Addr
 m : Nat
 c : Nat
 ws : List (List Nat × Int)
def bptr (b : Nat) : Value := .pointer (some ⟨b, 0, none⟩)
def abV (o : Option Nat) : Value := .pointer (o.map fun b => ⟨b, 0, none⟩)
def SpD.zero : SpD := ⟨false, 0, none, 0, 0, []⟩
def spO (r : SpR) (d : SpD) : Obj := .cells #[.slice r.A r.z.length r.c, .string r.y.name, .slice r.y.pa r.y.props.length r.y.pc, .slice r.y.ka r.y.kids.length r.y.kc, abV r.ab, .slice r.kA r.ks.length r.kc, .bool d.en, .int .i64 d.kd, .slice d.A d.m d.c] 80 (0, 0)
def chkO (t : Tr) (A : Option Addr) (n c : Nat) : Obj := .cells #[.int .u32 t.boot, .slice t.ra t.rs.length t.rc, .string t.root.name, .slice t.root.pa t.root.props.length t.root.pc, .slice t.root.ka t.root.kids.length t.root.kc, .slice A n c] 74 (0, 0)
def LinesP0 (P : Nat -> Prop) (w : World) (A : Option Addr) (m : Nat) (ws : List (List Nat × Int)) : Prop := (0 < m -> ∀ b o, A = some ⟨b, o, none⟩ -> P b) /\ ∃ xs : List LnR, Cel2 w w.heap.size A m (xs.map LnR.two) /\ Two (fun x y => qcf_ w w.heap.size x y /\ (0 < x.n -> ∀ b o, x.A = some ⟨b, o, none⟩ -> P b)) xs ws
theorem LinesL.p {lo : Nat} {w : World} {A : Option Addr} {m : Nat} {ws : List (List Nat × Int)} (h : LinesL lo w w.heap.size A m ws) : LinesP0 (fun b => lo <= b) w A m ws := by
 obtain ⟨h0, xs, h1, h2⟩ := h
 exact ⟨fun _ => h0, xs, h1, Two.mono (fun a b q => ⟨q.1, fun _ => q.2⟩) h2⟩
theorem LinesP0.nil (P : Nat -> Prop) (w : World) (A : Option Addr) : LinesP0 P w A 0 [] := ⟨fun h => absurd h (Nat.lt_irrefl 0), [], ⟨rfl, fun h => absurd h (Nat.lt_irrefl 0)⟩, .nil⟩
theorem LinesP0.mono {P Q : Nat -> Prop} {w : World} {A : Option Addr} {m : Nat} {ws : List (List Nat × Int)} (h : LinesP0 P w A m ws) (hq : ∀ b, b < w.heap.size -> P b -> Q b) : LinesP0 Q w A m ws := by
 obtain ⟨h0, xs, h1, h2⟩ := h
 refine ⟨fun hm b o e => ?_, xs, h1, Two.mono (fun a c q => ⟨q.1, fun hn b o e => ?_⟩) h2⟩
 ·obtain ⟨b', o', e', hb, _⟩ := h1.2 hm
  rw [e] at e'
  cases e'
  exact hq b hb (h0 hm b o e)
 ·obtain ⟨b', o', e', hb, _⟩ := q.1.1.2 hn
  rw [e] at e'
  cases e'
  exact hq b hb (q.2 hn b o e)
theorem LinesP0.v {P : Nat -> Prop} {w : World} {A : Option Addr} {m : Nat} {ws : List (List Nat × Int)} (h : LinesP0 P w A m ws) : LinesV w w.heap.size A m ws := by
 obtain ⟨_, xs, h1, h2⟩ := h
 exact ⟨xs, h1, Two.mono (fun a b q => q.1) h2⟩
theorem celP_keep {P : Nat -> Prop} {w w' : World} {A : Option Addr} {n : Nat} {l : List Value} (h : Cel w w.heap.size A n l) (hl : 0 < n -> ∀ b o, A = some ⟨b, o, none⟩ -> P b) (hs : w.heap.size <= w'.heap.size) (ho : ∀ k, P k -> k < w.heap.size -> w'.heap[k]? = w.heap[k]?) : Cel w' w'.heap.size A n l :=
 ⟨h.1, fun h0 => by
  obtain ⟨b, o, e, hb, hc⟩ := h.2 h0
  exact ⟨b, o, e, Nat.lt_of_lt_of_le hb hs, fun i hi => (World.cell?_of_block (a := ⟨b, o + i, none⟩) (ho b (hl h0 b o e) hb)).trans (hc i hi)⟩⟩
theorem LinesP0.keep {P : Nat -> Prop} {w w' : World} {A : Option Addr} {m : Nat} {ws : List (List Nat × Int)} (h : LinesP0 P w A m ws) (hs : w.heap.size <= w'.heap.size) (ho : ∀ k, P k -> k < w.heap.size -> w'.heap[k]? = w.heap[k]?) : LinesP0 P w' A m ws := by
 obtain ⟨h0, xs, h1, h2⟩ := h
 refine ⟨h0, xs, ⟨h1.1, fun hn => ?_⟩, Two.mono (fun a b ⟨⟨q1, q2⟩, q3⟩ => ⟨⟨celP_keep q1 q3 hs ho, q2⟩, q3⟩) h2⟩
 obtain ⟨b, o, e, hb, hc⟩ := h1.2 hn
 have hk := ho b (h0 hn b o e) hb
 exact ⟨b, o, e, Nat.lt_of_lt_of_le hb hs, fun i hi => ⟨(World.cell?_of_block (a := ⟨b, o + i * 2, none⟩) hk).trans (hc i hi).1, (World.cell?_of_block (a := ⟨b, o + i * 2 + 1, none⟩) hk).trans (hc i hi).2⟩⟩
def U32R (ws : List (List Nat × Int)) : Prop := ∀ y ∈ ws, 0 <= y.2 /\ y.2 <= 4294967295
def U32L (ws : List (List Nat × Int)) : Prop := U32R ws /\ ws.length <= 134217728
def LinesP (P : Nat -> Prop) (w : World) (A : Option Addr) (m : Nat) (ws : List (List Nat × Int)) : Prop := LinesP0 P w A m ws /\ U32L ws
theorem LinesP.nil (P : Nat -> Prop) (w : World) (A : Option Addr) : LinesP P w A 0 [] := ⟨LinesP0.nil P w A, (fun y hy => by cases hy), Nat.zero_le _⟩
theorem LinesP.mono {P Q : Nat -> Prop} {w : World} {A : Option Addr} {m : Nat} {ws : List (List Nat × Int)} (h : LinesP P w A m ws) (hq : ∀ b, b < w.heap.size -> P b -> Q b) : LinesP Q w A m ws := ⟨h.1.mono hq, h.2⟩
theorem LinesP.v {P : Nat -> Prop} {w : World} {A : Option Addr} {m : Nat} {ws : List (List Nat × Int)} (h : LinesP P w A m ws) : LinesV w w.heap.size A m ws := h.1.v
theorem LinesP.keep {P : Nat -> Prop} {w w' : World} {A : Option Addr} {m : Nat} {ws : List (List Nat × Int)} (h : LinesP P w A m ws) (hs : w.heap.size <= w'.heap.size) (ho : ∀ k, P k -> k < w.heap.size -> w'.heap[k]? = w.heap[k]?) : LinesP P w' A m ws := ⟨h.1.keep hs ho, h.2⟩
theorem qak_ {w : World} {e : TypeId} {sz n : Nat} {v : Value} {xs : List Value} {B : Nat} (h : w.ownsRow B e sz v n xs) : ∀ g, v.ownBlock = some g -> g < w.heap.size /\ ∃ arr, w.heap[g]? = some (.cells arr e (0, 0)) := fun g h1 => by
 rcases h.2 with ⟨rfl, _⟩ | ⟨g1, cap, cur, rfl, _, hg, _⟩
 ·cases h1
 have e1 : g1 = g := by simpa [Value.ownBlock] using h1
 subst e1
 exact ⟨(Array.getElem?_eq_some_iff.1 hg).1, _, hg⟩
structure SpStat (w : World) (R : Nd) (S : List (Nat × List Nat)) (r : SpR) : Prop where
 node : qaj_ R r.z = some r.y
 cap : r.z.length <= r.c /\ r.c <= 9223372036854775807
 row : w.ownsRow 0 3 1 (.slice r.A r.z.length r.c) r.z.length (ints r.z)
 kids : w.ownsRow 0 75 1 (.slice r.kA r.ks.length r.kc) r.ks.length (r.ks.map bptr)
 up : (r.ab = none /\ r.z = []) \/ ∃ q ∈ S, r.ab = some q.1 /\ ∃ i, r.z = q.2 ++ [i]
 down : r.ks.length = r.y.kids.length /\ ∀ i (h : i < r.ks.length), (r.ks[i], r.z ++ [i]) ∈ S
def SpR.bz (r : SpR) : Nat × List Nat := (r.b, r.z)
def SpR.row (r : SpR) : Value := .slice r.A r.z.length r.c
def SpR.kv (r : SpR) : Value := .slice r.kA r.ks.length r.kc
structure Spots (w : World) (R : Nd) (xs : List SpR) (ds : List SpD) : Prop where
 len : ds.length = xs.length
 box : ∀ i (h : i < xs.length) (h' : i < ds.length), w.heap[xs[i].b]? = some (spO xs[i] ds[i])
 nod : (xs.map SpR.b).Nodup
 stat : ∀ r ∈ xs, SpStat w R (xs.map SpR.bz) r
 lines : ∀ d ∈ ds, LinesP (fun b => b ∉ xs.map SpR.b) w d.A d.m d.ws /\ d.m <= d.c /\ d.c <= 9223372036854775807
theorem spot_type {r : SpR} {d : SpD} {arr : Array Value} {e : TypeId} {w : World} (h : w.heap[r.b]? = some (spO r d)) (h' : w.heap[r.b]? = some (.cells arr e (0, 0))) : e = 80 := by
 rw [h] at h'
 injection h' with h'
 injection h' with _ ht _
 exact ht.symm
theorem SpStat.keep' {w w' : World} {R : Nd} {S : List (Nat × List Nat)} {r : SpR} (h : SpStat w R S r) (h1 : ∀ g, r.row.ownBlock = some g -> w'.heap[g]? = w.heap[g]?) (h2 : ∀ g, r.kv.ownBlock = some g -> w'.heap[g]? = w.heap[g]?) : SpStat w' R S r :=
 ⟨h.node, h.cap, qb6_ h.row h1, qb6_ h.kids h2, h.up, h.down⟩
theorem SpStat.sub {w : World} {R : Nd} {S S' : List (Nat × List Nat)} {r : SpR} (h : SpStat w R S r) (hs : ∀ q ∈ S, q ∈ S') : SpStat w R S' r :=
 ⟨h.node, h.cap, h.row, h.kids, h.up.imp id (fun ⟨q, h1, h2⟩ => ⟨q, hs q h1, h2⟩), h.down.1, fun i hi => hs _ (h.down.2 i hi)⟩
theorem SpStat.rtyp {w : World} {R : Nd} {S : List (Nat × List Nat)} {r : SpR} (h : SpStat w R S r) : ∀ g, r.row.ownBlock = some g -> g < w.heap.size /\ ∃ arr, w.heap[g]? = some (.cells arr 3 (0, 0)) := qak_ h.row
theorem SpStat.ktyp {w : World} {R : Nd} {S : List (Nat × List Nat)} {r : SpR} (h : SpStat w R S r) : ∀ g, r.kv.ownBlock = some g -> g < w.heap.size /\ ∃ arr, w.heap[g]? = some (.cells arr 75 (0, 0)) := qak_ h.kids
theorem qag_ {w : World} {b : Nat} {arr arr' : Array Value} {e e' : TypeId} {f f' : Nat × Nat} (h : w.heap[b]? = some (.cells arr e f)) (h' : w.heap[b]? = some (.cells arr' e' f')) : e = e' := by
 rw [h] at h'
 injection h' with h'
 injection h' with _ ht _
theorem SpStat.keep {w w' : World} {R : Nd} {S : List (Nat × List Nat)} {r : SpR} (h : SpStat w R S r) (hk : ∀ g, g < w.heap.size -> (∀ arr, w.heap[g]? ≠ some (.cells arr 80 (0, 0))) -> w'.heap[g]? = w.heap[g]?) : SpStat w' R S r :=
 h.keep' (fun g hg => by
  obtain ⟨h1, arr, h2⟩ := h.rtyp g hg
  exact hk g h1 (fun a e => absurd (qag_ h2 e) (by decide))) (fun g hg => by
  obtain ⟨h1, arr, h2⟩ := h.ktyp g hg
  exact hk g h1 (fun a e => absurd (qag_ h2 e) (by decide)))
theorem Spots.lt {w : World} {R : Nd} {xs : List SpR} {ds : List SpD} (h : Spots w R xs ds) {i : Nat} (hi : i < xs.length) : xs[i].b < w.heap.size := (Array.getElem?_eq_some_iff.1 (h.box i hi (by rw [h.len]; exact hi))).1
theorem Spots.below {w w' : World} {R : Nd} {xs : List SpR} {ds : List SpD} (h : Spots w R xs ds) (hb : Below w.heap.size w w') : Spots w' R xs ds :=
 ⟨h.len, fun i hi h' => (hb.block _ (h.lt hi)).trans (h.box i hi h'), h.nod, fun r hr => (h.stat r hr).keep (fun g hg _ => hb.block g hg), fun d hd => ⟨(h.lines d hd).1.keep hb.size (fun k _ hk => hb.block k hk), (h.lines d hd).2⟩⟩
theorem qkp_ {l : List Nat} (h : l.Nodup) {i j : Nat} (hi : i < l.length) (hj : j < l.length) (e : l[i] = l[j]) : i = j := by
 rcases Nat.lt_trichotomy i j with h1 | h1 | h1
 ·exact absurd e (List.pairwise_iff_getElem.1 h i j hi hj h1)
 ·exact h1
 ·exact absurd e.symm (List.pairwise_iff_getElem.1 h j i hj hi h1)
theorem Spots.put {w w' : World} {R : Nd} {xs : List SpR} {ds : List SpD} (h : Spots w R xs ds) {i : Nat} (hi : i < xs.length) (d' : SpD) (hs : w'.heap.size = w.heap.size) (hb : w'.heap[xs[i].b]? = some (spO xs[i] d')) (ho : ∀ k, k ≠ xs[i].b -> w'.heap[k]? = w.heap[k]?)
  (hd : LinesP (fun b => b ∉ xs.map SpR.b) w d'.A d'.m d'.ws /\ d'.m <= d'.c /\ d'.c <= 9223372036854775807) : Spots w' R xs (ds.set i d') := by
 have hmem : xs[i].b ∈ xs.map SpR.b := List.mem_map.2 ⟨_, List.getElem_mem hi, rfl⟩
 have hkp : ∀ {A m ws}, LinesP (fun b => b ∉ xs.map SpR.b) w A m ws -> LinesP (fun b => b ∉ xs.map SpR.b) w' A m ws := fun q => q.keep (by omega) (fun k hk _ => ho k (fun e => hk (e ▸ hmem)))
 refine ⟨by rw [List.length_set]; exact h.len, fun j hj h' => ?_, h.nod, fun r hr => (h.stat r hr).keep (fun g hg hn => ho g (fun e => ?_)), fun d hd' => ?_⟩
 ·rw [List.length_set] at h'
  rw [List.getElem_set]
  by_cases e : i = j
  ·subst e
   rw [if_pos rfl]; exact hb
  ·rw [if_neg e, ho _ (fun q => e ?_)]
   ·exact h.box j hj h'
   ·have h1 := qkp_ h.nod (i := j) (j := i) (by rw [List.length_map]; exact hj) (by rw [List.length_map]; exact hi) (by simpa using q)
    exact h1.symm
 ·subst e
  exact hn _ (h.box i hi (by rw [h.len]; exact hi))
 ·rcases List.mem_or_eq_of_mem_set hd' with h1 | rfl
  ·exact ⟨hkp (h.lines d h1).1, (h.lines d h1).2⟩
  ·exact ⟨hkp hd.1, hd.2⟩
structure Chk (w : World) (t : Tr) (bc : Nat) (xs : List SpR) (ds : List SpD) : Prop where
 box : ∃ A c, w.heap[bc]? = some (chkO t A xs.length c) /\ w.ownsRow 0 75 1 (.slice A xs.length c) xs.length (xs.map fun r => bptr r.b)
 sp : Spots w t.root xs ds
theorem qn7_ {t : Tr} {A : Option Addr} {n c : Nat} {arr : Array Value} {f : Nat × Nat} : chkO t A n c ≠ .cells arr 80 f := fun e => by
 injection e with _ e
 exact absurd e (by decide)
theorem Chk.below {w w' : World} {t : Tr} {bc : Nat} {xs : List SpR} {ds : List SpD} (h : Chk w t bc xs ds) (hb : Below w.heap.size w w') : Chk w' t bc xs ds := by
 obtain ⟨⟨A, c, h1, h2⟩, hs⟩ := h
 exact ⟨⟨A, c, (hb.block _ (Array.getElem?_eq_some_iff.1 h1).1).trans h1, qb6_ h2 (fun g hg => hb.block g (qak_ h2 g hg).1)⟩, hs.below hb⟩
theorem Chk.put {w w' : World} {t : Tr} {bc : Nat} {xs : List SpR} {ds : List SpD} (h : Chk w t bc xs ds) {i : Nat} (hi : i < xs.length) (d' : SpD) (hs : w'.heap.size = w.heap.size) (hb : w'.heap[xs[i].b]? = some (spO xs[i] d')) (ho : ∀ k, k ≠ xs[i].b -> w'.heap[k]? = w.heap[k]?)
  (hd : LinesP (fun b => b ∉ xs.map SpR.b) w d'.A d'.m d'.ws /\ d'.m <= d'.c /\ d'.c <= 9223372036854775807) : Chk w' t bc xs (ds.set i d') := by
 have hsp := h.sp
 obtain ⟨⟨A, c, h1, h2⟩, _⟩ := h
 have hx := hsp.box i hi (by rw [hsp.len]; exact hi)
 refine ⟨⟨A, c, (ho _ (fun e => ?_)).trans h1, qb6_ h2 (fun g hg => ho g (fun e => ?_))⟩, hsp.put hi d' hs hb ho hd⟩
 ·rw [<- e, h1] at hx
  exact qn7_ (Option.some.inj hx)
 ·subst e
  obtain ⟨_, arr, h3⟩ := qak_ h2 _ hg
  exact absurd (spot_type hx h3) (by decide)
theorem qbl_ {w : World} {bc : Nat} {t : Tr} {A : Option Addr} {n c : Nat} (h : w.heap[bc]? = some (chkO t A n c)) : w.cell? ⟨bc, 0, none⟩ = some (.int .u32 t.boot) /\ w.cell? ⟨bc, 1, none⟩ = some (.slice t.ra t.rs.length t.rc) /\ w.cell? ⟨bc, 2, none⟩ = some (.string t.root.name) /\ w.cell? ⟨bc, 3, none⟩ = some (.slice t.root.pa t.root.props.length t.root.pc) /\ w.cell? ⟨bc, 4, none⟩ = some (.slice t.root.ka t.root.kids.length t.root.kc) /\ w.cell? ⟨bc, 5, none⟩ = some (.slice A n c) := by
 unfold chkO at h
 refine ⟨?_, ?_, ?_, ?_, ?_, ?_⟩ <;> (rw [Lib.cell_of_heap h]; rfl)
theorem qaq_ {w : World} {r : SpR} {d : SpD} (h : w.heap[r.b]? = some (spO r d)) : w.cell? ⟨r.b, 0, none⟩ = some (.slice r.A r.z.length r.c) /\ w.cell? ⟨r.b, 1, none⟩ = some (.string r.y.name) /\ w.cell? ⟨r.b, 2, none⟩ = some (.slice r.y.pa r.y.props.length r.y.pc) /\ w.cell? ⟨r.b, 3, none⟩ = some (.slice r.y.ka r.y.kids.length r.y.kc) /\
  w.cell? ⟨r.b, 4, none⟩ = some (abV r.ab) /\ w.cell? ⟨r.b, 5, none⟩ = some (.slice r.kA r.ks.length r.kc) /\ w.cell? ⟨r.b, 6, none⟩ = some (.bool d.en) /\ w.cell? ⟨r.b, 7, none⟩ = some (.int .i64 d.kd) /\ w.cell? ⟨r.b, 8, none⟩ = some (.slice d.A d.m d.c) := by
 unfold spO at h
 refine ⟨?_, ?_, ?_, ?_, ?_, ?_, ?_, ?_, ?_⟩ <;> (rw [Lib.cell_of_heap h]; rfl)
def devB (k : Int) : Bool := !decide (k = 0) && !decide (k = 1)
theorem qh8_ (r : SpR) (d : SpD) (w : World) (h : w.heap[r.b]? = some (spO r d)) : Calls Tryz.prog 49 #[bptr r.b] w fun e w' => e = .returned (.bool r.ab.isNone) /\ w' = w := by
 have c4 := (qaq_ h).2.2.2.2.1
 generalize r.b = b at *
 unfold bptr
 clear h
 rcases hb : r.ab with _ | q
 ·rw [hb] at c4
  replace c4 : w.cell? ⟨b, 4, none⟩ = some (.pointer none) := c4
  clear hb
  go_enter Tryz.func49, Tryz.ntmps49
  go_wp2
  go_ret
  exact ⟨rfl, rfl⟩
 ·rw [hb] at c4
  replace c4 : w.cell? ⟨b, 4, none⟩ = some (.pointer (some ⟨q, 0, none⟩)) := c4
  clear hb
  go_enter Tryz.func49, Tryz.ntmps49
  go_wp2
  go_ret
  exact ⟨rfl, rfl⟩
theorem qk3_ (r : SpR) (d : SpD) (w : World) (h : w.heap[r.b]? = some (spO r d)) : Calls Tryz.prog 90 #[bptr r.b] w fun e w' => e = .returned (.bool (devB d.kd)) /\ w' = w := by
 have c7 := (qaq_ h).2.2.2.2.2.2.2.1
 generalize r.b = b at *
 generalize d.kd = k at *
 unfold bptr
 clear h
 go_enter Tryz.func90, Tryz.ntmps90
 by_cases h0 : k = 0
 ·subst h0
  go_wp2
  go_ret
  exact ⟨rfl, rfl⟩
 ·have q0 : (k != 0) = true := by rw [bne_iff_ne]; exact h0
  by_cases h1 : k = 1
  ·subst h1
   clear h0 q0
   go_wp2
   go_ret
   exact ⟨rfl, rfl⟩
  ·have q1 : (k != 1) = true := by rw [bne_iff_ne]; exact h1
   have HD : Hid (devB k = true) := Lib.hid (by unfold devB; rw [decide_eq_false h0, decide_eq_false h1]; rfl)
   clear h0 h1
   rw [HD.out]
   clear HD
   go_wp2
   go_ret
   exact ⟨rfl, rfl⟩
def qjw_ (s : ByteArray) (er : Int) : Value := .iface 64 (.agg #[.string s, .iface 32 (.int .i64 er)])
theorem qej_ (t : Tr) (bc : Nat) (A0 : Option Addr) (n0 c0 : Nat) (er : Int) (p : List Nat) (A : Option Addr) (n c : Nat) (w : World) (hbox : w.heap[bc]? = some (chkO t A0 n0 c0)) (hin : t.In w w.heap.size) (hck : qb5_ t = 0) (hh : heftN t.root <= 134217728) (hp : p ∈ qac_ t.root []) (hpl : p.length = n)
  (hcel : Cel w w.heap.size A n (ints p)) (hnc : n <= c) (hc : c <= 9223372036854775807) :
  Calls Tryz.prog 24 #[bptr bc, .int .i64 er, .slice A n c] w fun e w' => e = .returned (qjw_ (qgo_ t.root p) er) /\ Below w.heap.size w w' := by
 have CP := Lib.hid (pathOK t p A n c w hin hck hh hp hpl hcel hnc hc)
 obtain ⟨PS, hPS⟩ : ∃ PS, qgo_ t.root p = PS := ⟨_, rfl⟩
 simp only [hPS] at CP ⊢
 obtain ⟨b0, b1, b2, b3, b4, b5⟩ := qbl_ hbox
 clear hbox hin hck hh hp hpl hcel hnc hc hPS
 obtain ⟨boot, ra, rc, rs, ⟨nm, pa, pc, ps, ka, kc, ks⟩⟩ := t
 simp only [Tr.val, Tr.rv, Nd.val, Nd.pv, Nd.kv, Nd.name, Nd.pa, Nd.pc, Nd.props, Nd.ka, Nd.kc, Nd.kids] at CP b0 b1 b2 b3 b4 ⊢
 unfold bptr qjw_
 go_enter Tryz.func24, Tryz.ntmps24
 go_wp2_with fail
 refine CP.out.mono ?_
 rintro e w1 ⟨rfl, hb⟩
 have HB := Lib.hid hb
 clear hb CP b0 b1 b2 b3 b4 b5
 go_wp2
 go_ret
 exact ⟨rfl, HB.out⟩
end Go.Proofs.YtcfinbapfhhpgaaGreatDoor
