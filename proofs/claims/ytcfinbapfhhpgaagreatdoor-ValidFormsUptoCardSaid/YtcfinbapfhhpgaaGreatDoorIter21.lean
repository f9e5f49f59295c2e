/-
  Iter, part 21.
-/
import Derived.Test.YtcfinbapfhhpgaaGreatDoorBase10
import Derived.Test.YtcfinbapfhhpgaaGreatDoorIter15
import Derived.Test.YtcfinbapfhhpgaaGreatDoorIter14
import Derived.Test.YtcfinbapfhhpgaaGreatDoorBase8
import Derived.Test.YtcfinbapfhhpgaaGreatDoorBase2
import Derived.Test.YtcfinbapfhhpgaaGreatDoorIter19
import Derived.Test.YtcfinbapfhhpgaaGreatDoorIter20
namespace Go.Proofs.YtcfinbapfhhpgaaGreatDoor
open Go.RowKit
set_option linter.unusedVariables false
set_option linter.unusedSimpArgs false
set_option maxRecDepth 20000
set_option maxHeartbeats 16000000
section
open Go.RowKit Go.Maps Go.WideMaps
structure TwI (w : World) (n : Nat) (D : DataW Unit) (W : World) : Prop where
 bel : Below w.heap.size w W
 sz : w.heap.size + 2 <= W.heap.size
 box : W.heap[w.heap.size]? = some (.cells #[.slice none 0 0, .int .u32 0] 127 (0, 0))
 map : W.ownsMap Tryz.prog 199 unitElem (w.heap.size + 1) n D
theorem TwI.on {w W W' : World} {n : Nat} {D : DataW Unit} (h : TwI w n D W) (hb : Below W.heap.size W W') : TwI w n D W' :=
 ⟨h.bel.trans (hb.mono h.bel.size), Nat.le_trans h.sz hb.size, (hb.block _ (by have := h.sz; omega)).trans h.box, qba_ h.map hb (by have := h.sz; omega)⟩
theorem TwI.put {w W W' : World} {n : Nat} {D D' : DataW Unit} (h : TwI w n D W) (ho : W'.ownsMap Tryz.prog 199 unitElem (w.heap.size + 1) (n + 1) D') (hg : W.grownBy W' (some (w.heap.size + 1))) : TwI w (n + 1) D' W' :=
 ⟨h.bel.grown hg h.bel.size (fun k hk => by cases hk; omega), Nat.le_trans h.sz hg.size, (hg.block _ (by have := h.sz; omega) (by intro e; have := Option.some.inj e; omega)).trans h.box, ho⟩
theorem cel_box {W : World} {B n g : Nat} {A : Option Addr} {p : List Nat} {v0 : Value} {x1 : Int} {T : TypeId} (h : Cel W B A n (ints p)) (hb : W.heap[g]? = some (.cells #[v0, .int .u32 x1] T (0, 0))) (h0 : ∀ i : Int, v0 ≠ .int .i64 i) : 0 < n -> ∀ b o, A = some ⟨b, o, none⟩ -> b ≠ g := by
 intro hn b o e hbg
 obtain ⟨b', o', e', _, hc⟩ := h.2 hn
 rw [e] at e'
 obtain ⟨rfl, rfl⟩ : b = b' /\ o = o' := by simpa using e'
 have hl : p.length = n := by have := h.1; rwa [List.length_map] at this
 have h1 := hc 0 hn
 rw [Nat.add_zero, hbg, List.getElem?_map, List.getElem?_eq_getElem (by omega)] at h1
 rw [cell_of_row W g o _ T _ hb] at h1
 rcases o with _ | o
 ·exact h0 _ (by simpa using h1)
 ·rcases o with _ | o
  ·simp at h1
  ·simp at h1
theorem qpc_ {W : World} {B n g : Nat} {A : Option Addr} {p : List Nat} (h : Cel W B A n (ints p)) (hne : 0 < n -> ∀ b o, A = some ⟨b, o, none⟩ -> b ≠ g) (u v : Value) (B' : Nat) (hB : B <= B') : Cel ((W.setCell ⟨g, 0, none⟩ u).setCell ⟨g, 1, none⟩ v) B' A n (ints p) :=
 ⟨h.1, fun hn => by
  obtain ⟨b, o, e, hb, hc⟩ := h.2 hn
  exact ⟨b, o, e, Nat.lt_of_lt_of_le hb hB, fun i hi => (World.cell?_of_block (a := ⟨b, o + i, none⟩) (qay_ W (hne hn b o e) u v)).trans (hc i hi)⟩⟩
def RT (W : World) (X : Except Int (List Nat × Int)) (A : Option Addr) (n c : Nat) (l er : Int) : Prop := match X with
 | .error e' => er = e'
 | .ok y => er = 0 /\ qcf_ W W.heap.size ⟨A, n, c, l⟩ y
theorem ThroughX.out {W : World} {X : Except Int (List Nat × Int)} {e : Ending} (h : ThroughX W X e) : ∃ (A : Option Addr) (n c : Nat) (l er : Int), e = .returned (.tuple #[.agg #[.slice A n c, .int .u32 l], .int .i64 er]) /\ RT W X A n c l er := by
 cases X with
 | error e' => exact ⟨none, 0, 0, 0, e', h, rfl⟩
 | ok y =>
  obtain ⟨x, rfl, h1⟩ := h
  exact ⟨_, _, _, _, 0, rfl, rfl, h1⟩
theorem RT.on {W W' : World} {X : Except Int (List Nat × Int)} {A : Option Addr} {n c : Nat} {l er : Int} (h : RT W X A n c l er) (hb : Below W.heap.size W W') : RT W' X A n c l er := by
 cases X with
 | error e' => exact h
 | ok y => exact ⟨h.1, h.2.1.on hb, h.2.2⟩
theorem RT.set2 {W : World} {X : Except Int (List Nat × Int)} {A : Option Addr} {n c : Nat} {l er : Int} (h : RT W X A n c l er) {g : Nat} {T : TypeId} (hb : W.heap[g]? = some (.cells #[.slice none 0 0, .int .u32 0] T (0, 0))) (u v : Value) : RT ((W.setCell ⟨g, 0, none⟩ u).setCell ⟨g, 1, none⟩ v) X A n c l er := by
 cases X with
 | error e' => exact h
 | ok y => exact ⟨h.1, qpc_ h.2.1 (cel_box h.2.1 hb (fun i e => by cases e)) u v _ (by simp), h.2.2⟩
theorem path_size (t : Tr) (p : List Nat) (hp : p ∈ qac_ t.root []) (hh : heftN t.root <= 134217728) : (qgo_ t.root p).size <= 140737488351232 := by
 obtain ⟨y, hy⟩ := qet_ hp
 have h1 := qhq_ p hy
 have h2 : heftN t.root = 16 + t.root.name.size + (t.root.props.map heftP).sum + heftL t.root.kids := by cases t.root; rw [heftN]; rfl
 unfold qgo_
 split
 ·decide
 ·show (pathB (qbw_ t.root p)).toArray.size <= _
  rw [List.size_toArray]
  omega
theorem qjk_ {w : World} {B : Nat} {R : Nd} (hR : R.In w B) {p : List Int} {l : Int} {z : List Nat × Int} (hl : 0 <= l /\ l <= 4294967295) (h : qbu_ R p l = .ok z) : (0 <= z.2 /\ z.2 <= 4294967295) /\ z.1 ∈ qac_ R [] := by
 unfold qbu_ at h
 cases hz : nodeZ R p with
 | none => rw [hz] at h; cases h
 | some nd =>
  rw [hz] at h
  obtain ⟨h1, nd, h2⟩ := qg0_ hR hl h
  exact ⟨h1, (qcx_ _ _ _).2 ⟨z.1, (List.nil_append _).symm, by rw [h2]; rfl⟩⟩
theorem TwI.start (w : World) : TwI w 0 (.map []) ((w.alloc (.cells #[.slice none 0 0, .int .u32 0] 127)).alloc (.map #[] 0)) := by
 have b1 : Below w.heap.size w (w.alloc (.cells #[.slice none 0 0, .int .u32 0] 127)) := (Below.refl _ _).alloc (Nat.le_refl _) _
 have n1 := heap_alloc_new w (.cells #[.slice none 0 0, .int .u32 0] 127)
 have z1 : (w.alloc (.cells #[.slice none 0 0, .int .u32 0] 127)).heap.size = w.heap.size + 1 := by simp
 generalize w.alloc (.cells #[.slice none 0 0, .int .u32 0] 127) = W1 at *
 have b2 : Below W1.heap.size W1 (W1.alloc (.map #[] 0)) := (Below.refl _ _).alloc (Nat.le_refl _) _
 refine ⟨b1.trans (b2.mono b1.size), by simp [z1], (b2.block _ (by omega)).trans n1, ?_⟩
 rw [<- z1]
 exact World.ownsMap_made W1 _ _ _
theorem tw_bound {k j q n m : Nat} (hq : q <= k * 134217728 + j) (hk : k < n) (hn : n <= 134217728) (hj : j < m) (hm : m <= 134217728) : q < maxLen := by
 unfold maxLen
 omega
theorem tw_next {k j q m : Nat} (hq : q <= k * 134217728 + j) (hj : j <= m) (hm : m <= 134217728) : q <= (k + 1) * 134217728 := by
 rw [Nat.add_mul, Nat.one_mul]
 exact Nat.le_trans hq (Nat.add_le_add_left (Nat.le_trans hj hm) _)
theorem tw_skip {k q : Nat} (hq : q <= k * 134217728) : q <= (k + 1) * 134217728 := by
 rw [Nat.add_mul, Nat.one_mul]
 exact Nat.le_trans hq (Nat.le_add_right _ _)
theorem tw_zero : 0 <= 0 * 134217728 := by
 rw [Nat.zero_mul]
 exact Nat.le_refl 0
theorem tw_from {k q : Nat} (hq : q <= k * 134217728) : q <= k * 134217728 + 0 := by
 rw [Nat.add_zero]
 exact hq
theorem tw_stay {a j q : Nat} (hq : q <= a + j) : q <= a + (j + 1) := by omega
theorem tw_more {a j q : Nat} (hq : q <= a + j) : q + 1 <= a + (j + 1) := by omega
theorem twice_any (t : Tr) (bc : Nat) (xs : List SpR) (ds : List SpD) (w : World) (hk : Chk w t bc xs ds) (hin : t.In w w.heap.size) (hck : qb5_ t = 0) (hh : heftN t.root <= 134217728) (hlen : xs.length <= 134217728) :
  Calls Tryz.prog 52 #[bptr bc] w fun e w' => (e = .returned (.tuple #[.agg #[.slice none 0 0, .int .u32 0], .bool false]) \/ ∃ (x : LnR) (y : List Nat × Int), e = .returned (.tuple #[.agg #[.slice x.A x.n x.c, .int .u32 x.l], .bool true]) /\ qcf_ w' w'.heap.size x y /\ y.1 ∈ qac_ t.root []) /\ Below w.heap.size w w' := by
 have hmm := @run_makeMap Tryz.prog
 have HK := Lib.hid hk
 have HIN := Lib.hid hin
 have HROOT := Lib.hid hin.root
 have CTH := Lib.hid (fun (W : World) (hW : Below w.heap.size w W) (x : LnR) (y : List Nat × Int) (hs : qcf_ W W.heap.size x y) => (show Calls Tryz.prog 92 #[t.val, .agg #[.slice x.A x.n x.c, .int .u32 x.l]] W fun e w' => ThroughX w' (qbu_ t.root (y.1.map Int.ofNat) x.l) e /\ Below W.heap.size W w' from
  qj4_ t (y.1.map Int.ofNat) x.A x.n x.c x.l W (hin.on hW) hh (by rw [<- qf3_]; exact hs.1) hs.2.1 hs.2.2.1))
 have CPA := Lib.hid (fun (W : World) (hW : Below w.heap.size w W) (x : LnR) (y : List Nat × Int) (hs : qcf_ W W.heap.size x y) (hp : y.1 ∈ qac_ t.root []) => pathOK t y.1 x.A x.n x.c W (hin.on hW) hck hh hp (by have := hs.1.1; rwa [List.length_map] at this) hs.1 hs.2.1 hs.2.2.1)
 have HTH : Hid (∀ (y z : List Nat × Int), 0 <= y.2 /\ y.2 <= 4294967295 -> qbu_ t.root (y.1.map Int.ofNat) y.2 = .ok z -> (0 <= z.2 /\ z.2 <= 4294967295) /\ z.1 ∈ qac_ t.root []) := Lib.hid (fun y z hy h => qjk_ hin.root hy h)
 have HPS : Hid (∀ p : List Nat, p ∈ qac_ t.root [] -> (qgo_ t.root p).size <= 140737488351232) := Lib.hid (fun p hp => path_size t p hp hh)
 obtain ⟨⟨A, c, hbx, hrow⟩, hsp⟩ := hk
 have hlen2 := hsp.len
 obtain ⟨pA, pc', ep, hcel, hp1, hp2, _⟩ := qai_ hrow
 have hep : A = pA /\ c = pc' := by simpa using ep
 obtain ⟨rfl, rfl⟩ := hep
 have q5 := (qbl_ hbx).2.2.2.2.2
 have HC := Lib.hid hcel
 have HL := Lib.hid hlen2
 have HBX := Lib.hid hbx
 obtain ⟨n, hn⟩ : ∃ n, xs.length = n := ⟨_, rfl⟩
 have HN := Lib.hid hn
 rw [hn] at q5 hp1 HC hlen
 obtain ⟨T, hT⟩ : ∃ T, T = t := ⟨_, rfl⟩
 rw [<- hT] at CTH CPA HTH HPS HK HIN HBX HROOT ⊢
 have HT := Lib.hid hT
 obtain ⟨boot, ra, rc, rs, ⟨nm, pa, pc, ps, ka, kc, ks⟩⟩ := t
 have hvv : T.val = .agg #[.int .u32 boot, .slice ra rs.length rc, .string nm, .slice pa ps.length pc, .slice ka ks.length kc] := by rw [HT.out]; rfl
 rw [hvv] at CTH CPA
 have CB : Hid (∀ W, Below w.heap.size w W -> W.cell? ⟨bc, 0, none⟩ = some (.int .u32 boot) /\ W.cell? ⟨bc, 1, none⟩ = some (.slice ra rs.length rc) /\ W.cell? ⟨bc, 2, none⟩ = some (.string nm) /\ W.cell? ⟨bc, 3, none⟩ = some (.slice pa ps.length pc) /\ W.cell? ⟨bc, 4, none⟩ = some (.slice ka ks.length kc)) := Lib.hid (fun W hW => by
  obtain ⟨a0, a1, a2, a3, a4, _⟩ := qbl_ ((hW.block bc (Array.getElem?_eq_some_iff.1 hbx).1).trans hbx)
  exact ⟨a0, a1, a2, a3, a4⟩)
 clear hvv hbx hrow hcel hsp hlen2 ep hin hck hh hn hT
 obtain ⟨g, hg⟩ : ∃ g, w.heap.size = g := ⟨_, rfl⟩
 have HG := Lib.hid hg
 unfold bptr
 rw [hg]
 go_enter Tryz.func52, Tryz.ntmps52
 obtain ⟨W2, hW2⟩ : ∃ W2, (w.alloc (.cells #[.slice none 0 0, .int .u32 0] 127)).alloc (.map #[] 0) = W2 := ⟨_, rfl⟩
 have H2 : Hid (TwI w 0 (.map []) W2) := Lib.hid (by rw [<- hW2]; exact TwI.start w)
 have q6 : W2.cell? ⟨bc, 5, none⟩ = some (.slice A n c) := (H2.out.bel.cell (p := ⟨bc, 5, none⟩) (Array.getElem?_eq_some_iff.1 HBX.out).1).trans q5
 clear q5
 go_wp2_with fail
 clear q6 hW2
 go_loopw [21] (fun i wr => ∃ (k q : Nat) (D : DataW Unit), k <= n /\ i = .int .i64 k /\ q <= k * 134217728 /\ TwI w q D wr) (fun i _ => n - (intOf i).toNat)
 case atStart => exact ⟨0, 0, _, Nat.zero_le _, rfl, tw_zero, H2.out⟩
 case round =>
  rename World => wo
  obtain ⟨k, q, D, hk, rfl, hq, hI⟩ := hrel
  have HQ := Lib.hid hq
  have HI := Lib.hid hI
  have HBW : Hid (Below w.heap.size w wo) := Lib.hid hI.bel
  clear hI hq
  by_cases hlt : k < n
  ·obtain ⟨b, o, rfl, _, hcc⟩ := (HC.out.on HBW.out).2 (by omega)
   have hkx : k < xs.length := by rw [HN.out]; exact hlt
   have hkd : k < ds.length := by rw [HL.out]; exact hkx
   have d0 := hcc k hlt
   rw [List.getElem?_map, List.getElem?_eq_getElem hkx] at d0
   replace d0 : wo.cell? ⟨b, o + k, none⟩ = some (.pointer (some ⟨xs[k].b, 0, none⟩)) := d0
   have HKW := Lib.hid (HK.out.below HBW.out)
   have hbx := HKW.out.sp.box k hkx hkd
   have c8 := (qaq_ hbx).2.2.2.2.2.2.2.2
   have CD := Lib.hid (qk3_ xs[k] ds[k] wo hbx)
   have HLN := Lib.hid (HKW.out.sp.lines ds[k] (List.getElem_mem hkd))
   obtain ⟨kd, hkd2⟩ : ∃ kd, devB ds[k].kd = kd := ⟨_, rfl⟩
   obtain ⟨lA, hlA⟩ : ∃ lA, ds[k].A = lA := ⟨_, rfl⟩
   obtain ⟨lm, hlm⟩ : ∃ lm, ds[k].m = lm := ⟨_, rfl⟩
   obtain ⟨lc, hlc⟩ : ∃ lc, ds[k].c = lc := ⟨_, rfl⟩
   obtain ⟨lw, hlw⟩ : ∃ lw, ds[k].ws = lw := ⟨_, rfl⟩
   obtain ⟨bk, hbk⟩ : ∃ bk, xs[k].b = bk := ⟨_, rfl⟩
   rw [hlA, hlm, hlc] at c8
   rw [hlA, hlm, hlc, hlw] at HLN
   rw [hbk] at c8 d0 CD
   rw [hkd2] at CD
   have hl0 := HLN.out.1.1
   have hl1 := HLN.out.1.2.1
   have hl2 := HLN.out.1.2.2
   have hl3 := HLN.out.2.1
   have hl4 := HLN.out.2.2
   have HLV : Hid (∀ W, Below w.heap.size w W -> LinesV W W.heap.size lA lm lw) := Lib.hid (fun W hW => by
    have h := ((HK.out.below hW).sp.lines ds[k] (List.getElem_mem hkd)).1.v
    rw [hlA, hlm, hlw] at h
    exact h)
   have HU : Hid (U32R lw) := Lib.hid hl1
   have hlm2 : lm <= 134217728 := by rw [<- hl0.v.len]; exact hl2
   clear hcc hbx hkd2 hlA hlm hlc hlw hbk hl0 hl1 hl2 HLN hkx hkd HKW
   go_wp2_with fail
   refine CD.out.mono ?_
   rintro e w1 ⟨rfl, rfl⟩
   clear CD d0
   cases kd
   ·clear c8
    go_wp2
    go_roundw
    case rel => exact ⟨k + 1, q, D, by omega, by go_num, tw_skip HQ.out, HI.out⟩
    case measure => simp [intOf]; omega
   ·go_wp2_with fail
    clear c8
    go_loopw [33] (fun i wr => ∃ (j q : Nat) (D : DataW Unit), j <= lm /\ i = .int .i64 j /\ q <= k * 134217728 + j /\ TwI w q D wr) (fun i _ => lm - (intOf i).toNat)
    case atStart => exact ⟨0, q, D, Nat.zero_le _, rfl, tw_from HQ.out, HI.out⟩
    case round =>
     obtain ⟨j, q1, D1, hj, rfl, hq1, hI1⟩ := hrel
     have HQ1 := Lib.hid hq1
     have HI1 := Lib.hid hI1
     have HBW1 : Hid (Below w.heap.size w wr) := Lib.hid hI1.bel
     clear hI1 hq1
     by_cases hjm : j < lm
     ·obtain ⟨lx, hcel, htwo⟩ := HLV.out _ HBW1.out
      have hxl : lx.length = lm := by have := hcel.1; rwa [List.length_map] at this
      have hjx : j < lx.length := by rw [hxl]; exact hjm
      obtain ⟨hjw, hsh⟩ := qpm_ htwo hjx
      obtain ⟨lb, lo, rfl, _, hcc⟩ := hcel.2 (by omega)
      obtain ⟨d0, d1⟩ := hcc j (by rw [List.length_map]; exact hjx)
      simp only [List.getElem_map] at d0 d1
      have hyr := HU.out lw[j] (List.getElem_mem hjw)
      obtain ⟨x, hx⟩ : ∃ x, lx[j] = x := ⟨_, rfl⟩
      obtain ⟨y, hy⟩ : ∃ y, lw[j] = y := ⟨_, rfl⟩
      rw [hx, hy] at hsh
      rw [hx] at d0 d1
      rw [hy] at hyr
      obtain ⟨xA, xn, xc, xl⟩ := x
      simp only [LnR.two] at d0 d1
      have hxy : xl = y.2 := hsh.2.2.2
      have HYR := Lib.hid hyr
      have HXY := Lib.hid hxy
      have HJM := Lib.hid hjm
      obtain ⟨X, hX⟩ : ∃ X, qbu_ T.root (y.1.map Int.ofNat) xl = X := ⟨_, rfl⟩
      have HXV := Lib.hid hX
      obtain ⟨vg, hvg⟩ : ∃ vg, wr.heap.size = vg := ⟨_, rfl⟩
      obtain ⟨V, hV⟩ : ∃ V, wr.alloc (.cells #[.slice xA xn xc, .int .u32 xl] 127) = V := ⟨_, rfl⟩
      have hnv := heap_alloc_new wr (.cells #[.slice xA xn xc, .int .u32 xl] 127)
      rw [hV, hvg] at hnv
      have HBV : Hid (Below wr.heap.size wr V) := Lib.hid (by rw [<- hV]; exact (Below.refl _ _).alloc (Nat.le_refl _) _)
      have HIV := Lib.hid (HI1.out.on HBV.out)
      have C1 : Hid (∀ W, Below V.heap.size V W -> Calls Tryz.prog 92 #[.agg #[.int .u32 boot, .slice ra rs.length rc, .string nm, .slice pa ps.length pc, .slice ka ks.length kc], .agg #[.slice xA xn xc, .int .u32 xl]] W fun e w' => ThroughX w' X e /\ Below W.heap.size W w') := Lib.hid (fun W hW => by
       have h := CTH.out W (HIV.out.bel.trans (hW.mono HIV.out.bel.size)) ⟨xA, xn, xc, xl⟩ y ⟨(hsh.1.on HBV.out).on hW, hsh.2⟩
       simp only at h
       rw [hX] at h
       exact h)
      have v0 : V.cell? ⟨vg, 0, none⟩ = some (.slice xA xn xc) := by rw [Lib.cell_of_heap hnv]; rfl
      have v1 : V.cell? ⟨vg, 1, none⟩ = some (.int .u32 xl) := by rw [Lib.cell_of_heap hnv]; rfl
      have HS : Hid (∀ W, Below V.heap.size V W -> (W.cell? ⟨bc, 0, none⟩ = some (.int .u32 boot) /\ W.cell? ⟨bc, 1, none⟩ = some (.slice ra rs.length rc) /\ W.cell? ⟨bc, 2, none⟩ = some (.string nm) /\ W.cell? ⟨bc, 3, none⟩ = some (.slice pa ps.length pc) /\ W.cell? ⟨bc, 4, none⟩ = some (.slice ka ks.length kc)) /\ W.cell? ⟨vg, 0, none⟩ = some (.slice xA xn xc) /\ W.cell? ⟨vg, 1, none⟩ = some (.int .u32 xl)) := Lib.hid (fun W hW => by
       have hl : vg < V.heap.size := (Array.getElem?_eq_some_iff.1 hnv).1
       exact ⟨CB.out W (HIV.out.bel.trans (hW.mono HIV.out.bel.size)), (hW.cell (p := ⟨vg, 0, none⟩) hl).trans v0, (hW.cell (p := ⟨vg, 1, none⟩) hl).trans v1⟩)
      have HR := Lib.hid (Below.refl V.heap.size V)
      clear hcc hsh hxl hjx hjw hx hy hyr hxy hX hnv hcel htwo hjm v0 v1
      go_wp2_with fail
      clear d0 d1 hV hvg
      apply cutw
      case h =>
       intro key1
       refine wp_region_held_drew (S := fun W => (W.cell? ⟨bc, 0, none⟩ = some (.int .u32 boot) /\ W.cell? ⟨bc, 1, none⟩ = some (.slice ra rs.length rc) /\ W.cell? ⟨bc, 2, none⟩ = some (.string nm) /\ W.cell? ⟨bc, 3, none⟩ = some (.slice pa ps.length pc) /\ W.cell? ⟨bc, 4, none⟩ = some (.slice ka ks.length kc)) /\ W.cell? ⟨vg, 0, none⟩ = some (.slice xA xn xc) /\ W.cell? ⟨vg, 1, none⟩ = some (.int .u32 xl)) (by kernel_rfl) (HS.out _ HR.out.drew) (fun hHeld => ?_)
       refine tk 0 hHeld fun _ => ?_
       refine tk 1 hHeld fun _ => ?_
       refine tk 2 hHeld fun _ => ?_
       refine tk 3 hHeld fun _ => ?_
       refine tk 4 hHeld fun _ => ?_
       refine qfs_ 5 9 (by kernel_rfl) rfl rfl (by rfl) (by rfl) (fun K hK => ?_) (fun K hK => ?_)
       ·go_simp
        refine (C1.out _ HR.out.drew).mono ?_
        rintro e w2 ⟨hx, hb2⟩
        obtain ⟨A1, n1, c1, l1, er, rfl, hok⟩ := hx.out
        have HD2 := Lib.hid (HR.out.drew.trans (hb2.mono (by simp)))
        have HOK : Hid (RT w2 X A1 n1 c1 l1 er) := Lib.hid hok
        clear hx hok hb2
        dsimp only
        refine hK.out _ _ (HS.out _ HD2.out) (fun hHeld => ?_)
        clear hK K
        refine tk 6 hHeld fun _ => ?_
        refine tk 7 hHeld fun _ => ?_
        refine tk 8 hHeld fun _ => ?_
        refine qab_ 9 (by kernel_rfl) rfl (by rfl) (fun K hK => ?_)
        go_simp
        refine hK.out _ _ (HS.out _ (HD2.out.alloc (by have := HD2.out.size; simpa using this) _)) (fun hHeld => ?_)
        clear hK K
        refine qab_ 10 (by kernel_rfl) rfl (by rfl) (fun K hK => ?_)
        go_simp
        have H10 := Lib.hid (HD2.out.alloc (by have := HD2.out.size; simpa using this) (.cells #[.slice A1 n1 c1, .int .u32 l1] 127))
        refine hK.out _ _ (HS.out _ H10.out) (fun hHeld => ?_)
        clear hK K
        refine tk 11 hHeld fun _ => ?_
        refine wpAnyH_done (by kernel_rfl) ?_ _
        clear hHeld
        rename_i hleft
        clear hleft
        have hq1 := HOK.out.on ((Below.refl _ w2).alloc (Nat.le_refl _) (.cells #[.slice A1 n1 c1, .int .u32 l1] 127))
        have hq2 := H10.out
        have hq3 := heap_alloc_new w2 (.cells #[.slice A1 n1 c1, .int .u32 l1] 127)
        clear H10 HOK HD2
        generalize hU : w2.alloc (.cells #[.slice A1 n1 c1, .int .u32 l1] 127) = U at hq1 hq2 hq3 ⊢
        generalize hgb : w2.heap.size = gb at hq3 ⊢
        clear hU hgb
        revert hq3 hq2 hq1
        revert U gb A1 n1 c1 l1 er
        exact key1
       ·go_simp
        have HZ1 := Lib.hid ((HR.out.drew).alloc (by simp) (.cells #[.slice none 0 0, .int .u32 0] 127))
        refine hK.out _ _ (HS.out _ HZ1.out) (fun hHeld => ?_)
        clear hK K
        refine qab_ 5 (by kernel_rfl) rfl (by rfl) (fun K hK => ?_)
        go_simp
        refine (C1.out _ HZ1.out).mono ?_
        rintro e w2 ⟨hx, hb2⟩
        obtain ⟨A1, n1, c1, l1, er, rfl, hok⟩ := hx.out
        have HD2 := Lib.hid (HZ1.out.trans (hb2.mono (by simp)))
        have hz2 : w2.heap[V.heap.size]? = some (.cells #[.slice none 0 0, .int .u32 0] 127 (0, 0)) := (hb2.block V.heap.size (by simp)).trans (heap_alloc_new V.drew _)
        have HOK := Lib.hid hok
        clear hx hok hb2
        dsimp only
        refine hK.out _ _ (HS.out _ HD2.out) (fun hHeld => ?_)
        clear hK K
        refine tk 6 hHeld fun _ => ?_
        refine tk 7 hHeld fun _ => ?_
        refine tk 8 hHeld fun _ => ?_
        have y0 : w2.cell? ⟨V.heap.size, 0, none⟩ = some (.slice none 0 0) := by rw [Lib.cell_of_heap hz2]; rfl
        have y1 : w2.cell? ⟨V.heap.size, 1, none⟩ = some (.int .u32 0) := by rw [Lib.cell_of_heap hz2]; rfl
        have f0 := Lib.frozen_of_heap hz2 0
        have f1 := Lib.frozen_of_heap hz2 1
        refine qab_ 10 (by kernel_rfl) rfl (by rfl) (fun K hK => ?_)
        go_simp
        have H10 := Lib.hid (qal_ HD2.out (b := V.heap.size) (Nat.le_refl _) (.slice A1 n1 c1) (.int .u32 l1))
        refine hK.out _ _ (HS.out _ H10.out) (fun hHeld => ?_)
        clear hK K
        refine tk 11 hHeld fun _ => ?_
        refine wpAnyH_done (by kernel_rfl) ?_ _
        clear hHeld
        have hq1 : RT ((w2.setCell ⟨V.heap.size, 0, none⟩ (.slice A1 n1 c1)).setCell ⟨V.heap.size, 1, none⟩ (.int .u32 l1)) X A1 n1 c1 l1 er := HOK.out.set2 hz2 _ _
        have hq2 := H10.out
        have hq3 : ((w2.setCell ⟨V.heap.size, 0, none⟩ (.slice A1 n1 c1)).setCell ⟨V.heap.size, 1, none⟩ (.int .u32 l1)).heap[V.heap.size]? = some (.cells #[.slice A1 n1 c1, .int .u32 l1] 127 (0, 0)) := heap_setCell_same _ _ _ _ _ _ (heap_setCell_same w2 _ _ _ _ _ hz2)
        clear H10 HOK HD2 HZ1 y0 y1 f0 f1 hz2
        generalize hU : (w2.setCell ⟨V.heap.size, 0, none⟩ (.slice A1 n1 c1)).setCell ⟨V.heap.size, 1, none⟩ (.int .u32 l1) = U at hq1 hq2 hq3 ⊢
        clear hU
        revert hq3 hq2 hq1
        revert U
        exact fun U h1 h2 h3 => key1 A1 n1 c1 l1 er U V.heap.size h1 h2 h3
      intro A1 n1 c1 l1 er U gb hro hbu hbx
      have HIU := Lib.hid (HIV.out.on hbu)
      have HBU := Lib.hid hbu
      clear C1 HS HR hbu
      cases X with
      | error e' =>
       obtain rfl : er = e' := hro
       have hqe : (er != 0) = true := by rw [bne_iff_ne]; exact qgb_ HXV.out
       clear hbx
       go_wp2
       go_roundw
       case rel => exact ⟨j + 1, q1, D1, HJM.out, by go_num, tw_stay HQ1.out, HIU.out⟩
       case measure => have := HJM.out; simp [intOf]; omega
      | ok z =>
       obtain ⟨rfl, hs⟩ := hro
       obtain ⟨⟨z0, z1⟩, zp⟩ := HTH.out y z HYR.out (by rw [<- HXY.out]; exact HXV.out)
       have hl1 : l1 = z.2 := hs.2.2.2
       obtain ⟨PS, hPS⟩ : ∃ PS, qgo_ T.root z.1 = PS := ⟨_, rfl⟩
       have hps := HPS.out z.1 zp
       have CP : Hid (∀ W, Below U.heap.size U W -> Calls Tryz.prog 48 #[.agg #[.int .u32 boot, .slice ra rs.length rc, .string nm, .slice pa ps.length pc, .slice ka ks.length kc], .slice A1 n1 c1] W fun e w' => e = .returned (.tuple #[.string PS, .int .i64 0]) /\ Below W.heap.size W w') := Lib.hid (fun W hW => by
        have h := CPA.out W (HIU.out.bel.trans (hW.mono HIU.out.bel.size)) ⟨A1, n1, c1, l1⟩ z ⟨hs.1.on hW, hs.2⟩ zp
        rw [hPS] at h
        exact h)
       rw [hPS] at hps
       obtain ⟨kl, hkl⟩ := end_key PS l1 hps (by rw [hl1]; exact z0) (by rw [hl1]; exact z1)
       have HKL := Lib.hid hkl
       have HSZ := Lib.hid hs
       have HZP := Lib.hid zp
       have b0 : U.cell? ⟨gb, 0, none⟩ = some (.slice A1 n1 c1) := by rw [Lib.cell_of_heap hbx]; rfl
       have b1 : U.cell? ⟨gb, 1, none⟩ = some (.int .u32 l1) := by rw [Lib.cell_of_heap hbx]; rfl
       have hgl : gb < U.heap.size := (Array.getElem?_eq_some_iff.1 hbx).1
       have HSP : Hid (∀ W, Below U.heap.size U W -> (W.cell? ⟨bc, 0, none⟩ = some (.int .u32 boot) /\ W.cell? ⟨bc, 1, none⟩ = some (.slice ra rs.length rc) /\ W.cell? ⟨bc, 2, none⟩ = some (.string nm) /\ W.cell? ⟨bc, 3, none⟩ = some (.slice pa ps.length pc) /\ W.cell? ⟨bc, 4, none⟩ = some (.slice ka ks.length kc)) /\ W.cell? ⟨gb, 0, none⟩ = some (.slice A1 n1 c1) /\ W.cell? ⟨gb, 1, none⟩ = some (.int .u32 l1)) := Lib.hid (fun W hW =>
        ⟨CB.out W (HIU.out.bel.trans (hW.mono HIU.out.bel.size)), (hW.cell (p := ⟨gb, 0, none⟩) hgl).trans b0, (hW.cell (p := ⟨gb, 1, none⟩) hgl).trans b1⟩)
       have HRU := Lib.hid (Below.refl U.heap.size U)
       clear hbx b0 b1 hgl hs zp hPS hps hkl hl1 z0 z1
       go_wp2_with fail
       refine wp_region_held_drew (S := fun W => (W.cell? ⟨bc, 0, none⟩ = some (.int .u32 boot) /\ W.cell? ⟨bc, 1, none⟩ = some (.slice ra rs.length rc) /\ W.cell? ⟨bc, 2, none⟩ = some (.string nm) /\ W.cell? ⟨bc, 3, none⟩ = some (.slice pa ps.length pc) /\ W.cell? ⟨bc, 4, none⟩ = some (.slice ka ks.length kc)) /\ W.cell? ⟨gb, 0, none⟩ = some (.slice A1 n1 c1) /\ W.cell? ⟨gb, 1, none⟩ = some (.int .u32 l1)) (by kernel_rfl) (HSP.out _ HRU.out.drew) (fun hHeld => ?_)
       refine tk 0 hHeld fun _ => ?_
       refine tk 1 hHeld fun _ => ?_
       refine tk 2 hHeld fun _ => ?_
       refine tk 3 hHeld fun _ => ?_
       refine tk 4 hHeld fun _ => ?_
       refine tk 5 hHeld fun _ => ?_
       refine qab_ 6 (by kernel_rfl) rfl (by rfl) (fun K hK => ?_)
       go_simp
       refine (CP.out _ HRU.out.drew).mono ?_
       rintro e w5 ⟨rfl, hb⟩
       have HB5 := Lib.hid (HRU.out.drew.trans (hb.mono (by simp)))
       clear hb CP
       dsimp only
       refine hK.out _ _ (HSP.out _ HB5.out) (fun hHeld => ?_)
       clear hK K
       refine tk 7 hHeld fun _ => ?_
       refine tk 8 hHeld fun _ => ?_
       refine tk 9 hHeld fun _ => ?_
       refine tk 10 hHeld fun _ => ?_
       refine tk 11 hHeld fun _ => ?_
       refine wpAnyH_done (by kernel_rfl) ?_ _
       clear hHeld
       obtain ⟨_, c0, c1'⟩ := HSP.out _ HB5.out
       have HI5 := Lib.hid (HIU.out.on HB5.out)
       have HO5 : Hid (w5.ownsMap Tryz.prog 199 unitElem (g + 1) q1 D1) := Lib.hid (by rw [<- hg]; exact HI5.out.map)
       have hka := HKL.out
       obtain ⟨W6, hW6⟩ : ∃ W6, w5.alloc (.cells #[] 151) = W6 := ⟨_, rfl⟩
       have hb6 : Below w5.heap.size w5 W6 := by rw [<- hW6]; exact (Below.refl _ _).alloc (Nat.le_refl _) _
       have HI6 := Lib.hid (HI5.out.on hb6)
       have HB6 := Lib.hid (HB5.out.trans (hb6.mono HB5.out.size))
       obtain ⟨_, e0, e1⟩ := HSP.out _ HB6.out
       clear hb6 HSP HRU
       cases hhas : Maps.has D1 kl
       ·have HO6 : Hid (W6.ownsMap Tryz.prog 199 unitElem (g + 1) q1 D1) := Lib.hid (by rw [<- hg]; exact HI6.out.map)
        have HBD := Lib.hid (tw_bound HQ1.out hlt hlen HJM.out hlm2)
        go_wp2_with (first | (at_lookup; refine wpList_lookup_own_unit _ rfl _ _ 195 rfl 199 151 lawE Tryz.underlying195 (zeroE _) (g + 1) q1 _ rfl HO5.out _ _ rfl HKL.out ?_) | (at_mapUpdate; refine wpList_mapUpdate_own _ rfl _ _ _ 195 rfl 199 151 lawE Tryz.underlying195 unitElem (g + 1) q1 _ rfl HO6.out HBD.out _ _ _ rfl rfl HKL.out (.agg []) [] unitElem_mk ?_; intro w7 hown7 hgrow7) | fail)
        have HI7 := Lib.hid (HI6.out.put (by rw [hg]; exact hown7) (by rw [hg]; exact hgrow7))
        clear hown7 hgrow7
        go_roundw
        case rel => exact ⟨j + 1, q1 + 1, _, HJM.out, by go_num, tw_more HQ1.out, HI7.out⟩
        case measure => have := HJM.out; simp [intOf]; omega
       ·obtain ⟨y0, y1, f0, f1⟩ : W6.cell? ⟨g, 0, none⟩ = some (.slice none 0 0) /\ W6.cell? ⟨g, 1, none⟩ = some (.int .u32 0) /\ W6.frozen? ⟨g, 0, none⟩ = false /\ W6.frozen? ⟨g, 1, none⟩ = false := by
         have hb := HI6.out.box
         rw [hg] at hb
         exact ⟨by rw [Lib.cell_of_heap hb]; rfl, by rw [Lib.cell_of_heap hb]; rfl, Lib.frozen_of_heap hb 0, Lib.frozen_of_heap hb 1⟩
        have HE : Hid (Below g w ((W6.setCell ⟨g, 0, none⟩ (.slice A1 n1 c1)).setCell ⟨g, 1, none⟩ (.int .u32 l1))) := Lib.hid (qal_ (by rw [<- hg]; exact HI6.out.bel) (Nat.le_refl _) _ _)
        have HLS : Hid (qcf_ ((W6.setCell ⟨g, 0, none⟩ (.slice A1 n1 c1)).setCell ⟨g, 1, none⟩ (.int .u32 l1)) ((W6.setCell ⟨g, 0, none⟩ (.slice A1 n1 c1)).setCell ⟨g, 1, none⟩ (.int .u32 l1)).heap.size ⟨A1, n1, c1, l1⟩ z) := Lib.hid (by
         have hb := HI6.out.box
         rw [hg] at hb
         have hc := HSZ.out.1.on HB6.out
         exact ⟨qpc_ hc (cel_box hc hb (fun i e => by cases e)) _ _ _ (by simp), HSZ.out.2⟩)
        have d0 : ((W6.setCell ⟨g, 0, none⟩ (.slice A1 n1 c1)).setCell ⟨g, 1, none⟩ (.int .u32 l1)).cell? ⟨g, 0, none⟩ = some (.slice A1 n1 c1) := by rw [qbf_ _ _ _ _ (by simp)]; exact qdg_ _ y0
        have d1 : ((W6.setCell ⟨g, 0, none⟩ (.slice A1 n1 c1)).setCell ⟨g, 1, none⟩ (.int .u32 l1)).cell? ⟨g, 1, none⟩ = some (.int .u32 l1) := qdg_ (u := .int .u32 0) _ (by rw [qbf_ _ _ _ _ (by simp)]; exact y1)
        have HD := Lib.hid (And.intro d0 d1)
        clear d0 d1
        go_wp2_with (first | (at_lookup; refine wpList_lookup_own_unit _ rfl _ _ 195 rfl 199 151 lawE Tryz.underlying195 (zeroE _) (g + 1) q1 _ rfl HO5.out _ _ rfl HKL.out ?_) | fail)
        have d0 := HD.out.1
        have d1 := HD.out.2
        refine bodyPost_ret (v := .tuple #[.agg #[.slice A1 n1 c1, .int .u32 l1], .bool true]) (by simp [results, Tryz.results52, go_sem, d0, d1]; try rfl) rfl ?_
        exact ⟨.inr ⟨⟨A1, n1, c1, l1⟩, z, rfl, HLS.out, HZP.out⟩, HE.out⟩
     ·go_wp2
      go_roundw
      case rel => exact ⟨k + 1, q1, D1, hlt, by go_num, tw_next HQ1.out hj hlm2, HI1.out⟩
      case measure => simp [intOf]; omega
  ·obtain ⟨e0, e1, f0, f1⟩ : wo.cell? ⟨g, 0, none⟩ = some (.slice none 0 0) /\ wo.cell? ⟨g, 1, none⟩ = some (.int .u32 0) /\ wo.frozen? ⟨g, 0, none⟩ = false /\ wo.frozen? ⟨g, 1, none⟩ = false := by
    have hb := HI.out.box
    rw [hg] at hb
    exact ⟨by rw [Lib.cell_of_heap hb]; rfl, by rw [Lib.cell_of_heap hb]; rfl, Lib.frozen_of_heap hb 0, Lib.frozen_of_heap hb 1⟩
   have HE : Hid (Below g w ((wo.setCell ⟨g, 0, none⟩ (.slice none 0 0)).setCell ⟨g, 1, none⟩ (.int .u32 0))) := Lib.hid (qal_ (by rw [<- hg]; exact HBW.out) (Nat.le_refl _) _ _)
   have d0 : ((wo.setCell ⟨g, 0, none⟩ (.slice none 0 0)).setCell ⟨g, 1, none⟩ (.int .u32 0)).cell? ⟨g, 0, none⟩ = some (.slice none 0 0) := by rw [qbf_ _ _ _ _ (by simp)]; exact qdg_ _ e0
   have d1 : ((wo.setCell ⟨g, 0, none⟩ (.slice none 0 0)).setCell ⟨g, 1, none⟩ (.int .u32 0)).cell? ⟨g, 1, none⟩ = some (.int .u32 0) := qdg_ (u := .int .u32 0) _ (by rw [qbf_ _ _ _ _ (by simp)]; exact e1)
   have HD := Lib.hid (And.intro d0 d1)
   clear d0 d1
   go_wp2
   have d0 := HD.out.1
   have d1 := HD.out.2
   refine bodyPost_ret (v := .tuple #[.agg #[.slice none 0 0, .int .u32 0], .bool false]) (by simp [results, Tryz.results52, go_sem, d0, d1]; try rfl) rfl ?_
   exact ⟨.inl rfl, HE.out⟩
end
theorem kf_ex {w : World} {R : Nd} {xs : List SpR} {ds : List SpD} (hsp : Spots w R xs ds) {i : Nat} (hi : i < xs.length) : ∃ kf : Nat -> Int, ∀ k (h : k < xs[i].ks.length) j (hj : j < xs.length) (hj' : j < ds.length), xs[j].b = xs[i].ks[k] -> ds[j].kd = kf k := by
 have h1 : ∀ k, ∃ v : Int, ∀ (h : k < xs[i].ks.length) j (hj : j < xs.length) (hj' : j < ds.length), xs[j].b = xs[i].ks[k] -> ds[j].kd = v := fun k => by
  by_cases hk : ∃ (h : k < xs[i].ks.length) (j : Nat) (hj : j < xs.length) (hj' : j < ds.length), xs[j].b = xs[i].ks[k]
  ·obtain ⟨h, j, hj, hj', e⟩ := hk
   refine ⟨ds[j].kd, fun h2 j2 hj2 hj2' e2 => ?_⟩
   have h3 := qkp_ hsp.nod (i := j2) (j := j) (by rw [List.length_map]; exact hj2) (by rw [List.length_map]; exact hj) (by simp [e, e2])
   subst h3
   rfl
  ·exact ⟨0, fun h j hj hj' e => absurd ⟨h, j, hj, hj', e⟩ hk⟩
 exact ⟨fun k => (h1 k).choose, fun k => (h1 k).choose_spec⟩
theorem qld_ {w : World} {B : Nat} {q : Nd} (hq : q.In w B) (kf : Nat -> Int) : ∀ k, ∀ x ∈ qc5_ q kf k, U64 x.1 /\ U64 x.2
 | 0, x, hx => by cases hx
 | k + 1, x, hx => by
  rw [qc5_] at hx
  rcases List.mem_append.1 hx with hx | hx
  ·exact qld_ hq kf k x hx
  ·rcases h : q.kids[k]? with _ | y
   ·rw [h] at hx; cases hx
   ·rw [h] at hx
    have hy : y.In w B := hq.kid (List.mem_of_getElem? h)
    simp only [kidW] at hx
    split at hx
    ·exact qny_ hq hy x hx
    ·split at hx
     ·obtain ⟨r, hr, rfl⟩ := List.mem_map.1 hx
      obtain ⟨_, h1, h2⟩ := qc9_ hq hy r hr
      exact ⟨h1, h2⟩
     ·cases hx
theorem meet_here (t : Tr) (bc : Nat) (xs : List SpR) (ds : List SpD) (i : Nat) (w : World) (hi : i < xs.length) (hk : Chk w t bc xs ds) (hin : t.In w w.heap.size) (hh : heftN t.root <= 134217728) :
  Calls Tryz.prog 51 #[.pointer (some ⟨xs[i].b, 0, none⟩)] w fun e w' => (∃ A m c, e = .returned (.slice A m c) /\ ∀ W, Below w'.heap.size w' W -> Calls Tryz.prog 50 #[.slice A m c] W fun e2 w2 => (∃ r : Bool, e2 = .returned (.bool r)) /\ Below w.heap.size W w2) /\ Below w.heap.size w w' := by
 obtain ⟨kf, hkf⟩ := kf_ex hk.sp hi
 have hi' : i < ds.length := by rw [hk.sp.len]; exact hi
 have hst := hk.sp.stat _ (List.getElem_mem hi)
 have hy : xs[i].y.In w w.heap.size := qci_ _ hin.root hst.node
 have hhy : heftN xs[i].y <= 134217728 := Nat.le_trans (by have := qbs_ (xs[i].z.map Int.ofNat) ((qa4_ _ _).trans hst.node); exact this) hh
 refine (qj9_ t w.heap.size bc xs ds i kf w hi hi' hk hin (Nat.le_refl _) hh hkf).mono fun e w' h => ?_
 obtain ⟨A, m, c, rfl, hown, hb⟩ := h
 refine ⟨⟨A, m, c, rfl, fun W hW => ?_⟩, hb⟩
 have hm : m <= 1073741824 := by
  have h1 := hown.1
  rw [qbn_, List.length_map] at h1
  have h2 := qgu_ xs[i].y kf xs[i].y.kids.length
  omega
 exact anyMeetOK w.heap.size A m c _ W (qez_ hown hW) (qld_ hy kf _) hm (Nat.le_trans hb.size hW.size)
theorem wholeOK : WholeOK := by
 intro t bc r rest ds w hk hz hab hin hck hh
 have HZ := Lib.hid hz
 have HCK := Lib.hid hck
 have HH := Lib.hid hh
 have HIN := Lib.hid hin
 have HK := Lib.hid hk
 have HNL : Hid ((r :: rest).length <= 134217728) := Lib.hid (by
  have h1 := (qbr_ t.root []).1
  rw [<- hz, List.length_map] at h1
  omega)
 obtain ⟨⟨A, c, hbx, hrow⟩, hsp⟩ := hk
 have hlen2 := hsp.len
 obtain ⟨pA, pc', ep, hcel, hp1, hp2, _⟩ := qai_ hrow
 have hep : A = pA /\ c = pc' := by simpa using ep
 obtain ⟨rfl, rfl⟩ := hep
 have q5 := (qbl_ hbx).2.2.2.2.2
 have HC := Lib.hid hcel
 have HL := Lib.hid hlen2
 obtain ⟨n, hn⟩ : ∃ n, (r :: rest).length = n := ⟨_, rfl⟩
 have HN := Lib.hid hn
 rw [hn] at q5 hp1 HC
 clear hbx hrow hcel hsp hlen2 ep hin hck hh hz hab hn
 go_enter Tryz.func25, Tryz.ntmps25
 go_wp2_with fail
 clear q5
 go_loopw [12] (fun i wr => ∃ k : Nat, k <= n /\ i = .int .i64 k /\ Chk wr t bc (r :: rest) ds /\ Below w.heap.size w wr) (fun i _ => n - (intOf i).toNat)
 case atStart => exact ⟨0, Nat.zero_le _, rfl, HK.out, Below.refl _ _⟩
 case round =>
  obtain ⟨k, hk, rfl, hck, hb⟩ := hrel
  have HKR := Lib.hid hck
  have HB := Lib.hid hb
  have HINR : Hid (t.In wr wr.heap.size) := Lib.hid (HIN.out.on hb)
  by_cases hlt : k < n
  ·obtain ⟨b, o, rfl, _, hcc⟩ := (HC.out.on hb).2 (by omega)
   have hkx : k < (r :: rest).length := by rw [HN.out]; exact hlt
   have hkd : k < ds.length := by rw [HL.out]; exact hkx
   have d0 := hcc k hlt
   rw [List.getElem?_map, List.getElem?_eq_getElem hkx] at d0
   replace d0 : wr.cell? ⟨b, o + k, none⟩ = some (.pointer (some ⟨(r :: rest)[k].b, 0, none⟩)) := d0
   have hbx := hck.sp.box k hkx hkd
   have c7 := (qaq_ hbx).2.2.2.2.2.2.2.1
   have C5 := Lib.hid (meet_here t bc (r :: rest) ds k wr hkx hck HINR.out HH.out)
   have CR := Lib.hid (qh8_ (r :: rest)[k] ds[k] wr hbx)
   unfold bptr at CR
   obtain ⟨kd, hkd2⟩ : ∃ kd, ds[k].kd = kd := ⟨_, rfl⟩
   obtain ⟨bk, hbk⟩ : ∃ bk, (r :: rest)[k].b = bk := ⟨_, rfl⟩
   obtain ⟨rb, hrb⟩ : ∃ rb, (r :: rest)[k].ab.isNone = rb := ⟨_, rfl⟩
   rw [hkd2] at c7
   rw [hbk] at c7 d0 C5 CR
   rw [hrb] at CR
   clear hcc hbx hkd2 hrb hck hb
   by_cases h1 : kd = 1
   ·subst h1
    go_wp2_with fail
    refine C5.out.mono ?_
    rintro e w5 ⟨⟨A5, m5, c5, rfl, hm⟩, hb⟩
    have HB5 := Lib.hid hb
    have HM := Lib.hid hm
    clear hb hm C5
    go_wp2_with fail
    refine (HM.out _ (Below.refl _ _)).mono ?_
    rintro e w6 ⟨⟨z, rfl⟩, hb⟩
    have HB6 := Lib.hid (HB5.out.trans hb)
    have HBW6 := Lib.hid (HB.out.trans (HB6.out.mono HB.out.size))
    have HK6 := Lib.hid (HKR.out.below HB6.out)
    have HIN6 : Hid (t.In w6 w6.heap.size) := Lib.hid (HINR.out.on HB6.out)
    clear hb HM
    cases z
    ·go_wp2
     go_roundw
     case rel => exact ⟨k + 1, by omega, by go_num, HK6.out, HBW6.out⟩
     case measure => simp [intOf]; omega
    ·have hst := HK6.out.sp.stat _ (List.getElem_mem hkx)
     obtain ⟨pA, pc5, ep, hcel, hp51, hp52, _⟩ := qai_ hst.row
     have hep : (r :: rest)[k].A = pA /\ (r :: rest)[k].c = pc5 := by simpa using ep
     obtain ⟨rfl, rfl⟩ := hep
     have c0 := (qaq_ (HK6.out.sp.box k hkx hkd)).1
     have hmem : (r :: rest)[k].z ∈ qac_ t.root [] := by rw [<- HZ.out]; exact List.mem_map.2 ⟨_, List.getElem_mem hkx, rfl⟩
     have CF : Hid (Calls Tryz.prog 24 #[.pointer (some ⟨bc, 0, none⟩), .int .i64 13, .slice (r :: rest)[k].A (r :: rest)[k].z.length (r :: rest)[k].c] w6 fun e w' => (∃ s, e = .returned (qjw_ s 13)) /\ Below w6.heap.size w6 w') := Lib.hid (by
      obtain ⟨⟨A9, c9, hb9, _⟩, _⟩ := HK6.out
      exact (qej_ t bc _ _ _ 13 _ _ _ _ w6 hb9 HIN6.out HCK.out HH.out hmem rfl hcel hp51 hp52).mono (fun e w' h => ⟨⟨_, h.1⟩, h.2⟩))
     obtain ⟨zA, hzA⟩ : ∃ zA, (r :: rest)[k].A = zA := ⟨_, rfl⟩
     obtain ⟨zl, hzl⟩ : ∃ zl, (r :: rest)[k].z.length = zl := ⟨_, rfl⟩
     obtain ⟨zc, hzc⟩ : ∃ zc, (r :: rest)[k].c = zc := ⟨_, rfl⟩
     rw [hzA, hzl, hzc] at c0 CF
     rw [hbk] at c0
     clear hst hcel hp51 hp52 ep hmem hzA hzl hzc
     go_wp2_with fail
     refine CF.out.mono ?_
     rintro e w7 ⟨⟨s, rfl⟩, hb⟩
     have HB7 := Lib.hid (HBW6.out.trans (hb.mono HBW6.out.size))
     clear hb c0 CF
     go_wp2
     go_ret
     exact ⟨.inr (.inr ⟨_, _, rfl⟩), HB7.out⟩
   ·have q1 : (kd == 1) = false := by rw [beq_eq_false_iff_ne]; exact h1
    clear h1
    go_wp2_with fail
    refine CR.out.mono ?_
    rintro e w4 ⟨rfl, rfl⟩
    clear CR
    cases rb
    ·go_wp2
     go_roundw
     case rel => exact ⟨k + 1, by omega, by go_num, HKR.out, HB.out⟩
     case measure => simp [intOf]; omega
    ·go_wp2_with fail
     refine C5.out.mono ?_
     rintro e w5 ⟨⟨A5, m5, c5, rfl, hm⟩, hb⟩
     have HB5 := Lib.hid hb
     have HM := Lib.hid hm
     clear hb hm C5
     go_wp2_with fail
     refine (HM.out _ (Below.refl _ _)).mono ?_
     rintro e w6 ⟨⟨z, rfl⟩, hb⟩
     have HB6 := Lib.hid (HB5.out.trans hb)
     have HBW6 := Lib.hid (HB.out.trans (HB6.out.mono HB.out.size))
     have HK6 := Lib.hid (HKR.out.below HB6.out)
     have HIN6 : Hid (t.In w6 w6.heap.size) := Lib.hid (HINR.out.on HB6.out)
     clear hb HM
     cases z
     ·go_wp2
      go_roundw
      case rel => exact ⟨k + 1, by omega, by go_num, HK6.out, HBW6.out⟩
      case measure => simp [intOf]; omega
     ·have hst := HK6.out.sp.stat _ (List.getElem_mem hkx)
      obtain ⟨pA, pc5, ep, hcel, hp51, hp52, _⟩ := qai_ hst.row
      have hep : (r :: rest)[k].A = pA /\ (r :: rest)[k].c = pc5 := by simpa using ep
      obtain ⟨rfl, rfl⟩ := hep
      have c0 := (qaq_ (HK6.out.sp.box k hkx hkd)).1
      have hmem : (r :: rest)[k].z ∈ qac_ t.root [] := by rw [<- HZ.out]; exact List.mem_map.2 ⟨_, List.getElem_mem hkx, rfl⟩
      have CF : Hid (Calls Tryz.prog 24 #[.pointer (some ⟨bc, 0, none⟩), .int .i64 13, .slice (r :: rest)[k].A (r :: rest)[k].z.length (r :: rest)[k].c] w6 fun e w' => (∃ s, e = .returned (qjw_ s 13)) /\ Below w6.heap.size w6 w') := Lib.hid (by
       obtain ⟨⟨A9, c9, hb9, _⟩, _⟩ := HK6.out
       exact (qej_ t bc _ _ _ 13 _ _ _ _ w6 hb9 HIN6.out HCK.out HH.out hmem rfl hcel hp51 hp52).mono (fun e w' h => ⟨⟨_, h.1⟩, h.2⟩))
      obtain ⟨zA, hzA⟩ : ∃ zA, (r :: rest)[k].A = zA := ⟨_, rfl⟩
      obtain ⟨zl, hzl⟩ : ∃ zl, (r :: rest)[k].z.length = zl := ⟨_, rfl⟩
      obtain ⟨zc, hzc⟩ : ∃ zc, (r :: rest)[k].c = zc := ⟨_, rfl⟩
      rw [hzA, hzl, hzc] at c0 CF
      rw [hbk] at c0
      clear hst hcel hp51 hp52 ep hmem hzA hzl hzc
      go_wp2_with fail
      refine CF.out.mono ?_
      rintro e w7 ⟨⟨s, rfl⟩, hb⟩
      have HB7 := Lib.hid (HBW6.out.trans (hb.mono HBW6.out.size))
      clear hb c0 CF
      go_wp2
      go_ret
      exact ⟨.inr (.inr ⟨_, _, rfl⟩), HB7.out⟩
  ·skip
   clear hck hb
   have CT := Lib.hid (twice_any t bc (r :: rest) ds wr HKR.out HINR.out HCK.out HH.out HNL.out)
   unfold bptr at CT
   go_wp2_with fail
   refine CT.out.mono ?_
   rintro e w5 ⟨hor, hb⟩
   have HB5 := Lib.hid (HB.out.trans (hb.mono HB.out.size))
   have HK5 := Lib.hid (HKR.out.below hb)
   have HIN5 : Hid (t.In w5 w5.heap.size) := Lib.hid (HINR.out.on hb)
   clear hb CT HKR HINR
   rcases hor with rfl | ⟨x, y, rfl, hs, hp⟩
   ·have CL := Lib.hid (fun W (hW : Below w5.heap.size w5 W) => qj7_ t bc (r :: rest) ds W (HK5.out.below hW))
    unfold bptr at CL
    obtain ⟨Q, hQ⟩ : ∃ Q : Nat, ds.countP lessB = Q := ⟨_, rfl⟩
    rw [hQ] at CL
    have HBA := Lib.hid ((Below.refl w5.heap.size w5).alloc (Nat.le_refl _) (.cells #[.slice none 0 0, .int .u32 0] 127))
    have HB6 := Lib.hid (HB5.out.trans (HBA.out.mono HB5.out.size))
    go_wp2_with fail
    refine (CL.out _ HBA.out).mono ?_
    rintro e w6 ⟨rfl, rfl⟩
    clear CL
    by_cases hq : 1 < Q
    ·have q1 : decide ((1 : Int) < (Q : Int)) = true := decide_eq_true (by omega)
     go_wp2
     go_ret
     exact ⟨.inr (.inl ⟨_, rfl⟩), HB6.out⟩
    ·have q1 : decide ((1 : Int) < (Q : Int)) = false := decide_eq_false (by omega)
     go_wp2
     go_ret
     exact ⟨.inl rfl, HB6.out⟩
   ·obtain ⟨xA, xn, xc, xl⟩ := x
    have CF : Hid (∀ W, Below w5.heap.size w5 W -> Calls Tryz.prog 24 #[.pointer (some ⟨bc, 0, none⟩), .int .i64 9, .slice xA xn xc] W fun e w' => (∃ s, e = .returned (qjw_ s 9)) /\ Below W.heap.size W w') := Lib.hid (fun W hW => by
     obtain ⟨⟨A9, c9, hb9, _⟩, _⟩ := HK5.out.below hW
     exact (qej_ t bc _ _ _ 9 _ _ _ _ W hb9 (HIN5.out.on hW) HCK.out HH.out hp (by have := hs.1.1; rwa [List.length_map] at this) (hs.1.on hW) hs.2.1 hs.2.2.1).mono (fun e w' h => ⟨⟨_, h.1⟩, h.2⟩))
    have HBA := Lib.hid ((Below.refl w5.heap.size w5).alloc (Nat.le_refl _) (.cells #[.slice xA xn xc, .int .u32 xl] 127))
    have HB6 := Lib.hid (HB5.out.trans (HBA.out.mono HB5.out.size))
    clear hs hp
    go_wp2_with fail
    refine (CF.out _ HBA.out).mono ?_
    rintro e w6 ⟨⟨s, rfl⟩, hb⟩
    have HB7 := Lib.hid (HB6.out.trans (hb.mono HB6.out.size))
    clear hb CF
    go_wp2
    go_ret
    exact ⟨.inr (.inr ⟨_, _, rfl⟩), HB7.out⟩
end Go.Proofs.YtcfinbapfhhpgaaGreatDoor
