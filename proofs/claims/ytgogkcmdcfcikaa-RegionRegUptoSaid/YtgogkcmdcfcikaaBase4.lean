/-
  Base, part 4: what the proofs of this claim lean on.
-/
import Derived.Test.YtgogkcmdcfcikaaBase2
import Derived.Test.YtgogkcmdcfcikaaBase3
import Derived.BigQuiet
import Derived.Deep.DrawnRows
import Derived.Laws.Bits64
import Derived.Laws.BitsAllLaws
import Derived.Test.YtgogkcmdcfcikaaBase1
import Derived.Test.YtgogkcmdcfcikaaShelf
import Derived.Lib.IndexLaws
import Derived.Test.YtgogkcmdcfcikaaRows

/-! Layer 3: a tree as it lies in memory; whether there are too many. -/
namespace Go.Proofs.Ytgogkcmdcfcikaa
open Go.RowKit Go.ChangeShapes Go.WideShapes Go.Deep
set_option linter.unusedVariables false
set_option linter.unusedSimpArgs false

/-- A tree as it lies: its reserves' slice, and its root. -/
structure Tr where
  boot : Int
  ra : Option Addr
  rc : Nat
  rs : List (Int × Int)
  root : Nd

def Tr.rv (t : Tr) : Value := .slice t.ra t.rs.length t.rc
def Tr.val (t : Tr) : Value := .agg #[.int .u32 t.boot, t.rv, .string t.root.name, t.root.pv, t.root.kv]

/-- The cells of a row of reserves. -/
def RRow (w : World) (B : Nat) (a : Option Addr) (l : List (Int × Int)) : Prop :=
  0 < l.length → ∃ b o, a = some ⟨b, o, none⟩ ∧ b < B ∧ ∀ i (h : i < l.length), w.cell? ⟨b, o + i * 2, none⟩ = some (.int .u64 l[i].1) ∧ w.cell? ⟨b, o + i * 2 + 1, none⟩ = some (.int .u64 l[i].2)

structure Tr.In (w : World) (B : Nat) (t : Tr) : Prop where
  boot : 0 ≤ t.boot ∧ t.boot ≤ 4294967295
  len : t.rs.length ≤ t.rc ∧ t.rc ≤ 9223372036854775807 ∧ t.rs.length * 16 ≤ 140737488351232
  row : RRow w B t.ra t.rs
  nums : ∀ r ∈ t.rs, (0 ≤ r.1 ∧ r.1 ≤ 18446744073709551615) ∧ (0 ≤ r.2 ∧ r.2 ≤ 18446744073709551615)
  root : t.root.In w B

section
variable {w w' : World} {B B' : Nat}
theorem RRow.keep {a : Option Addr} {l : List (Int × Int)} (h : RRow w B a l) (hk : ∀ a : Addr, a.block < B → w'.cell? a = w.cell? a) : RRow w' B a l := fun h0 => by
  obtain ⟨b, o, e, hb, hc⟩ := h h0
  exact ⟨b, o, e, hb, fun i hi => ⟨(hk _ hb).trans (hc i hi).1, (hk _ hb).trans (hc i hi).2⟩⟩
theorem RRow.more {a : Option Addr} {l : List (Int × Int)} (h : RRow w B a l) (hB : B ≤ B') : RRow w B' a l := fun h0 => by
  obtain ⟨b, o, e, hb, hc⟩ := h h0
  exact ⟨b, o, e, by omega, hc⟩
theorem Tr.In.under {t : Tr} (h : t.In w B) (hb : Below B w w') : t.In w' B := ⟨h.boot, h.len, h.row.keep (fun _ hp => hb.cell hp), h.nums, h.root.under hb⟩
theorem Tr.In.more {t : Tr} (h : t.In w B) (hB : B ≤ B') : t.In w B' := ⟨h.boot, h.len, h.row.more hB, h.nums, h.root.more hB⟩
theorem Tr.In.on {t : Tr} (h : t.In w w.heap.size) (hb : Below w.heap.size w w') : t.In w' w'.heap.size := (h.under hb).more hb.size
theorem Tr.In.rcell {t : Tr} (h : t.In w B) {i : Nat} (hi : i < t.rs.length) : ∃ b o, t.ra = some ⟨b, o, none⟩ ∧ b < B ∧ w.cell? ⟨b, o + i * 2, none⟩ = some (.int .u64 t.rs[i].1) ∧ w.cell? ⟨b, o + i * 2 + 1, none⟩ = some (.int .u64 t.rs[i].2) := by
  obtain ⟨b, o, e, hb, hc⟩ := h.row (by omega)
  exact ⟨b, o, e, hb, hc i hi⟩
end

theorem Try.cellsRes : Try.prog.cellsOf 102 = 2 := by kernel_rfl
theorem Try.cellsRess : Try.prog.cellsOf 52 = 1 := by kernel_rfl
theorem Try.cellsU64 : Try.prog.cellsOf 39 = 1 := by kernel_rfl
theorem Try.cellsU32 : Try.prog.cellsOf 51 = 1 := by kernel_rfl
theorem Try.cellsTree : Try.prog.cellsOf 54 = 5 := by kernel_rfl
theorem Try.bytesRes : Try.prog.bytesOf 102 = 16 := by kernel_rfl

section
variable {H : Type} {enc : TypeId × Value → H} {w : World} {base : Nat} {spare : Nat → Bool} {held : Bool}

theorem open_res {fuel : Nat} {cs : List Value} {x : DataW H × List MemPlace} (h : DataW.trod enc Try.prog w base spare held fuel 102 cs = some x) :
    ∃ r : Int × Int, cs = [.int .u64 r.1, .int .u64 r.2] ∧ (0 ≤ r.1 ∧ r.1 ≤ 18446744073709551615) ∧ (0 ≤ r.2 ∧ r.2 ≤ 18446744073709551615) := by
  obtain ⟨y0, y1, n, rfl, hl, h0, h1⟩ := trod_struct2 Try.underlying102 h
  rw [Try.cellsRes] at hl
  obtain ⟨c0, c1, rfl⟩ : ∃ c0 c1, cs = [c0, c1] := by
    exact two_of hl
  rw [Try.cellsU64] at h0 h1
  obtain ⟨a, e0, _, w0⟩ := DataW.trod_int Try.underlying39 h0
  obtain ⟨c, e1, _, w1⟩ := DataW.trod_int Try.underlying39 h1
  simp only [List.drop_succ_cons, List.drop_zero, List.take_succ_cons, List.take_zero, List.cons.injEq, and_true] at e0 e1
  subst e0 e1
  exact ⟨(a, c), rfl, bounds_u64 w0, bounds_u64 w1⟩

/-- A tree that came in is such a tree. -/
theorem open_tr {fuel : Nat} {cs : List Value} {x : DataW H × List MemPlace} (h : DataW.trod enc Try.prog w base spare held fuel 54 cs = some x) (hw : ∀ z ∈ DataW.weights Try.prog 54 x.1, z ≤ 140737488351232) :
    ∃ t : Tr, cs = [.int .u32 t.boot, t.rv, .string t.root.name, t.root.pv, t.root.kv] ∧ t.In w w.heap.size := by
  obtain ⟨y0, y1, y2, n, rfl, hl, h0, h1, h2⟩ := trod_struct3 Try.underlying54 h
  rw [Try.cellsTree] at hl
  obtain ⟨c0, c1, c2, c3, c4, rfl⟩ : ∃ c0 c1 c2 c3 c4, cs = [c0, c1, c2, c3, c4] := by
    exact five_of hl
  rw [Try.cellsU32] at h0
  rw [Try.cellsRess] at h1
  rw [Try.cellsNode] at h2
  simp only [List.drop_zero, List.drop_succ_cons, List.take_succ_cons, List.take_zero] at h0 h1 h2
  simp only [DataW.weights, DataW.weightsEach, Try.underlying54, List.map_cons, List.map_nil] at hw
  have hw1 := fun z hz => hw z (List.mem_append_right _ (List.mem_append_left _ hz))
  have hw2 := fun z hz => hw z (List.mem_append_right _ (List.mem_append_right _ (List.mem_append_left _ hz)))
  obtain ⟨boot, e0, _, wb⟩ := DataW.trod_int Try.underlying51 h0
  obtain ⟨ra, rc, rs, e1, hr1, hr2, hr3, hrg, hrow⟩ := open_row (c := 2) (fun r : Int × Int => [.int .u64 r.1, .int .u64 r.2]) (fun r => (0 ≤ r.1 ∧ r.1 ≤ 18446744073709551615) ∧ (0 ≤ r.2 ∧ r.2 ≤ 18446744073709551615)) Try.underlying52 Try.cellsRes (by omega) (fun _ => rfl) (fun n cs y _ hy _ => open_res hy) h1 hw1
  obtain ⟨root, e2, hin⟩ := open_nd _ n _ _ (Nat.le_refl _) h2 hw2
  simp only [List.cons.injEq, and_true] at e0 e1 e2
  obtain ⟨rfl, rfl, rfl⟩ := e2
  subst e0 e1
  rw [Try.bytesRes] at hr3
  exact ⟨⟨boot, ra, rc, rs, root⟩, rfl, bounds_u32 wb, ⟨hr1, hr2, hr3⟩, fun h0 => by
    obtain ⟨b, o, e, hb, hc⟩ := hrow h0
    exact ⟨b, o, e, hb, fun i hi => ⟨hc i hi 0 (by omega), hc i hi 1 (by omega)⟩⟩, hrg, hin⟩
end

/-- A reserve of noughts. -/
def zeroR (r : Int × Int) : Bool := decide (r.1 = 0) && decide (r.2 = 0)

/-- Are there too many? -/
def manyE (t : Tr) : Int := if 4096 < wrap64 (nodesN t.root) ∨ 8192 < wrap64 (propsN t.root) ∨ 64 < t.rs.length then 7 else if t.rs.any zeroR = true then 7 else 0

end Go.Proofs.Ytgogkcmdcfcikaa

/-! Layer 3: the first error of a tree, the program's and the document's. -/
namespace Go.Proofs.Ytgogkcmdcfcikaa
open Go.RowKit
set_option linter.unusedVariables false
set_option linter.unusedSimpArgs false
attribute [local go_sem ↓] Go.wp_at_zero Go.wp_at_succ

/-- The first error of a tree. -/
noncomputable def checkE (t : Tr) : Int := if wrongN t.root 1 = 0 then manyE t else wrongN t.root 1

set_option maxHeartbeats 4000000 in
theorem few_any (t : Tr) (w : World) (hin : t.In w w.heap.size) :
    Calls Try.prog 17 #[t.val] w fun e w' => (∃ r : Bool, e = .returned (.bool r)) ∧ Below w.heap.size w w' := by
  have C1 := Lib.hid (fun w h => size_any t.root 0 w h (by omega) (by omega))
  have HI := Lib.hid hin
  clear hin
  obtain ⟨boot, ra, rc, rs, ⟨nm, pa, pc, ps, ka, kc, ks⟩⟩ := t
  show Calls _ _ #[.agg #[.int .u32 boot, .slice ra rs.length rc, .string nm, .slice pa ps.length pc, .slice ka ks.length kc]] _ _
  have HB := Lib.hid ((Below.refl w.heap.size w).alloc (Nat.le_refl _) (.cells #[.int .u32 boot, .slice ra rs.length rc, .string nm, .slice pa ps.length pc, .slice ka ks.length kc] 54))
  go_enter Try.func17, Try.ntmps17
  go_wp2_with fail
  refine (C1.out _ ((HI.out.on HB.out).root)).mono ?_
  rintro e w1 ⟨⟨z, rfl⟩, hb⟩
  have HB1 := Lib.hid (HB.out.trans (hb.mono HB.out.size))
  have b1 := (hb.cell (p := ⟨w.heap.size, 1, none⟩) (by simp)).trans (World.cell?_alloc_new _ _ _ _)
  replace b1 : _ = some (Value.slice ra rs.length rc) := b1
  clear hb
  by_cases hz : z ≤ 100000
  · go_wp2
    go_ret
    exact ⟨⟨_, rfl⟩, HB1.out⟩
  · go_wp2
    go_ret
    first | exact ⟨⟨_, rfl⟩, HB1.out⟩ | exact ⟨.inl rfl, HB1.out⟩

end Go.Proofs.Ytgogkcmdcfcikaa

/-! Layer 12, RegionCounts: out of what the program's Counts answers. -/
namespace Go.Proofs.Ytgogkcmdcfcikaa
open Go.RowKit
set_option linter.unusedVariables false
set_option linter.unusedSimpArgs false

def okCounts (n : Nd) : Bool := decide (0 ≤ cntV n nmAddr 2) && decide (0 ≤ cntV n nmSize 1)
def CountsOK : Prop := ∀ (n : Nd) (w : World), n.In w w.heap.size → Calls Try.prog 9 #[n.val] w fun e w' =>
  (okCounts n = true → e = .returned (.tuple #[.int .i64 (cntV n nmAddr 2), .int .i64 (cntV n nmSize 1), .int .i64 0])) ∧ (okCounts n = false → e = .returned (.tuple #[.int .i64 0, .int .i64 0, .int .i64 10])) ∧ Below w.heap.size w w'

theorem few12_any (n : Nd) (w : World) (hin : n.In w w.heap.size) : Calls Try.prog 8 #[n.val] w fun e w' => (∃ r : Bool, e = .returned (.bool r)) ∧ Below w.heap.size w w' := by
  have C0 := Lib.hid (fun W (h : n.In W W.heap.size) => few_any ⟨0, none, 0, [], n⟩ W ⟨⟨by show (0 : Int) ≤ 0; decide, by show (0 : Int) ≤ _; decide⟩, ⟨by simp, by simp, by simp⟩, fun h => absurd h (by simp), fun r h => by simp at h, h⟩)
  have HI := Lib.hid hin
  clear hin
  obtain ⟨nm, pa, pc, ps, ka, kc, ks⟩ := n
  simp only [Tr.val, Tr.rv, Nd.val, Nd.pv, Nd.kv, Nd.name, Nd.pa, Nd.pc, Nd.props, Nd.ka, Nd.kc, Nd.kids, List.length_nil] at C0 ⊢
  have HB := Lib.hid ((Below.refl w.heap.size w).alloc (Nat.le_refl _) (.cells #[Value.string nm, .slice pa ps.length pc, .slice ka ks.length kc] 25))
  go_enter Try.func8, Try.ntmps8
  go_wp2_with fail
  refine (C0.out _ (Nd.In.more HB.out.size (HI.out.under HB.out))).mono ?_
  rintro e w1 ⟨⟨r, rfl⟩, hb⟩
  have HB1 := Lib.hid (HB.out.trans (hb.mono HB.out.size))
  clear hb
  go_wp2
  go_ret
  exact ⟨⟨_, rfl⟩, HB1.out⟩

set_option maxRecDepth 20000 in
set_option maxHeartbeats 8000000 in
theorem regionCounts_true (hK : Awake12) (hC : CountsOK) (n : Nd) (w : World) (hin : n.In w w.heap.size) :
    Calls Try.prog 3 #[n.val] w fun e w' => e = .returned (.bool true) ∧ Below w.heap.size w w' := by
  have HK := Lib.hid hK
  have C0 := Lib.hid (fun W hW => few12_any n W hW)
  have C1 := Lib.hid (fun W hW => hC n W hW)
  have D1 := Lib.hid (fun W hW => refcounts_all n W hW)
  have HI := Lib.hid hin
  obtain ⟨va, hva⟩ : ∃ v, cntV n nmAddr 2 = v := ⟨_, rfl⟩
  obtain ⟨vs, hvs⟩ : ∃ v, cntV n nmSize 1 = v := ⟨_, rfl⟩
  have HO : Hid (okCounts n = (decide (0 ≤ va) && decide (0 ≤ vs))) := Lib.hid (by rw [okCounts, hva, hvs])
  rw [hva, hvs] at C1 D1
  rw [HO.out] at C1
  obtain ⟨ok, hok⟩ : ∃ ok, (decide (0 ≤ va) && decide (0 ≤ vs)) = ok := ⟨_, rfl⟩
  rw [hok] at C1 D1
  clear hK hC hin hva hvs hok HO
  obtain ⟨nm, pa, pc, ps, ka, kc, ks⟩ := n
  simp only [Nd.val, Nd.pv, Nd.kv, Nd.name, Nd.pa, Nd.pc, Nd.props, Nd.ka, Nd.kc, Nd.kids] at C0 C1 D1 ⊢
  have HB := Lib.hid ((Below.refl w.heap.size w).alloc (Nat.le_refl _) (.cells #[Value.string nm, .slice pa ps.length pc, .slice ka ks.length kc] 25))
  have BX : Hid (∀ W, Below (w.heap.size + 1) (w.alloc (.cells #[Value.string nm, .slice pa ps.length pc, .slice ka ks.length kc] 25)) W → W.cell? ⟨w.heap.size, 0, none⟩ = some (.string nm) ∧ W.cell? ⟨w.heap.size, 1, none⟩ = some (.slice pa ps.length pc) ∧ W.cell? ⟨w.heap.size, 2, none⟩ = some (.slice ka ks.length kc)) := Lib.hid (fun W h =>
    ⟨(h.cell (Nat.lt_succ_self _)).trans (World.cell?_alloc_new _ _ _ _), (h.cell (Nat.lt_succ_self _)).trans (World.cell?_alloc_new _ _ _ _), (h.cell (Nat.lt_succ_self _)).trans (World.cell?_alloc_new _ _ _ _)⟩)
  have IN := Lib.hid (fun W (h : Below w.heap.size w W) => Nd.In.more h.size (HI.out.under h))
  go_enter Try.func3, Try.ntmps3
  go_wp2_with fail
  refine (HK.out _).mono ?_
  rintro e w1 ⟨rfl, hb⟩
  have HB1 := Lib.hid (HB.out.trans (hb.mono HB.out.size))
  have HX1 := Lib.hid (hb.mono (B' := w.heap.size + 1) (by simp))
  obtain ⟨b0, b1, b2⟩ := BX.out _ HX1.out
  clear hb
  go_wp2_with fail
  refine (C0.out _ (IN.out _ HB1.out)).mono ?_
  rintro e w2 ⟨⟨r, rfl⟩, hb⟩
  have HB2 := Lib.hid (HB1.out.trans (hb.mono HB1.out.size))
  have HX2 := Lib.hid (HX1.out.trans (hb.mono (by have := HX1.out.size; simpa using this)))
  clear hb b0 b1 b2
  obtain ⟨b0, b1, b2⟩ := BX.out _ HX2.out
  cases r
  · clear b0 b1 b2
    go_wp2_with fail
    refine (HK.out _).mono ?_
    rintro e w3 ⟨rfl, hb⟩
    have HB3 := Lib.hid (HB2.out.trans (hb.mono HB2.out.size))
    clear hb
    go_wp2
    go_ret
    exact ⟨rfl, HB3.out⟩
  · go_wp2_with fail
    refine (C1.out _ (IN.out _ HB2.out)).mono ?_
    rintro e w3 ⟨ho1, ho2, hb⟩
    have HB3 := Lib.hid (HB2.out.trans (hb.mono HB2.out.size))
    have HX3 := Lib.hid (HX2.out.trans (hb.mono (by have := HX2.out.size; simpa using this)))
    clear hb b0 b1 b2
    obtain ⟨b0, b1, b2⟩ := BX.out _ HX3.out
    have q1 : (va == va) = true := by simp
    have q2 : (vs == vs) = true := by simp
    cases ok
    · obtain rfl := ho2 rfl
      clear ho1 ho2
      go_wp2_with fail
      refine (D1.out _ (IN.out _ HB3.out)).mono ?_
      rintro e w4 ⟨rfl, hb⟩
      have HB4 := Lib.hid (HB3.out.trans (hb.mono HB3.out.size))
      clear hb b0 b1 b2
      go_wp2
      go_ret
      exact ⟨rfl, HB4.out⟩
    · obtain rfl := ho1 rfl
      clear ho1 ho2
      go_wp2_with fail
      refine (D1.out _ (IN.out _ HB3.out)).mono ?_
      rintro e w4 ⟨rfl, hb⟩
      have HB4 := Lib.hid (HB3.out.trans (hb.mono HB3.out.size))
      clear hb b0 b1 b2
      go_wp2
      go_ret
      exact ⟨rfl, HB4.out⟩
end Go.Proofs.Ytgogkcmdcfcikaa

/-! Layer 12, RegionReg: out of what the program's Reg answers. -/
namespace Go.Proofs.Ytgogkcmdcfcikaa
open Go.RowKit
set_option linter.unusedVariables false
set_option linter.unusedSimpArgs false

/-- What the program's Reg answers. -/
def RegOK : Prop := ∀ (parent n : Nd) (w : World), parent.In w w.heap.size → n.In w w.heap.size → heftN parent ≤ 1073741824 → heftN n ≤ 1073741824 → Calls Try.prog 11 #[parent.val, n.val] w fun e w' =>
  ((regV parent n).1 = true → ∃ A m c, e = .returned (.tuple #[.slice A m c, .int .i64 0]) ∧ Cel2 w' w'.heap.size A m ((regV parent n).2.map winV) ∧ m ≤ c ∧ c ≤ 9223372036854775807) ∧ ((regV parent n).1 = false → ∃ A c, e = .returned (.tuple #[.slice A 0 c, .int .i64 10]) ∧ c ≤ 9223372036854775807) ∧ Below w.heap.size w w'


set_option maxRecDepth 20000 in
set_option maxHeartbeats 8000000 in
theorem regionReg_true (hK : Awake12) (hC : RegOK) (parent n : Nd) (w : World) (hpn : parent.In w w.heap.size) (hin : n.In w w.heap.size) (hz1 : heftN parent ≤ 1073741824) (hz2 : heftN n ≤ 1073741824) :
    Calls Try.prog 4 #[parent.val, n.val] w fun e w' => e = .returned (.bool true) ∧ Below w.heap.size w w' := by
  have HK := Lib.hid hK
  have F1 := Lib.hid (fun W (hW : Below w.heap.size w W) => few12_any parent W (Nd.In.more hW.size (hpn.under hW)))
  have F2 := Lib.hid (fun W (hW : Below w.heap.size w W) => few12_any n W (Nd.In.more hW.size (hin.under hW)))
  have C1 := Lib.hid (fun W (hW : Below w.heap.size w W) => hC parent n W (Nd.In.more hW.size (hpn.under hW)) (Nd.In.more hW.size (hin.under hW)) hz1 hz2)
  have D1 := Lib.hid (fun W (hW : Below w.heap.size w W) => refreg_any parent n W (Nd.In.more hW.size (hpn.under hW)) (Nd.In.more hW.size (hin.under hW)) hz1 hz2)
  obtain ⟨O, hO⟩ : ∃ O, regV parent n = O := ⟨_, rfl⟩
  rw [hO] at C1 D1
  clear hK hC hin hpn hz1 hz2 hO
  obtain ⟨ok, L⟩ := O
  simp only at C1 D1
  obtain ⟨nm, pa, pc, ps, ka, kc, ks⟩ := parent
  obtain ⟨nm2, pa2, pc2, ps2, ka2, kc2, ks2⟩ := n
  simp only [Nd.val, Nd.pv, Nd.kv, Nd.name, Nd.pa, Nd.pc, Nd.props, Nd.ka, Nd.kc, Nd.kids] at F1 F2 C1 D1 ⊢
  have HB := Lib.hid (((Below.refl w.heap.size w).alloc (Nat.le_refl _) (.cells #[Value.string nm, .slice pa ps.length pc, .slice ka ks.length kc] 25)).alloc (by simp) (.cells #[Value.string nm2, .slice pa2 ps2.length pc2, .slice ka2 ks2.length kc2] 25))
  have BX : Hid (∀ W, Below (w.heap.size + 2) ((w.alloc (.cells #[Value.string nm, .slice pa ps.length pc, .slice ka ks.length kc] 25)).alloc (.cells #[Value.string nm2, .slice pa2 ps2.length pc2, .slice ka2 ks2.length kc2] 25)) W → W.cell? ⟨w.heap.size, 0, none⟩ = some (.string nm) ∧ W.cell? ⟨w.heap.size, 1, none⟩ = some (.slice pa ps.length pc) ∧ W.cell? ⟨w.heap.size, 2, none⟩ = some (.slice ka ks.length kc) ∧ W.cell? ⟨w.heap.size + 1, 0, none⟩ = some (.string nm2) ∧ W.cell? ⟨w.heap.size + 1, 1, none⟩ = some (.slice pa2 ps2.length pc2) ∧ W.cell? ⟨w.heap.size + 1, 2, none⟩ = some (.slice ka2 ks2.length kc2)) := Lib.hid (fun W h => by
    have e1 : (w.alloc (.cells #[Value.string nm, .slice pa ps.length pc, .slice ka ks.length kc] 25)).heap.size = w.heap.size + 1 := by simp
    have y : ∀ k, W.cell? ⟨w.heap.size, k, none⟩ = (w.alloc (.cells #[Value.string nm, .slice pa ps.length pc, .slice ka ks.length kc] 25)).cell? ⟨w.heap.size, k, none⟩ := fun k => (h.cell (p := ⟨w.heap.size, k, none⟩) (by show w.heap.size < _; omega)).trans (World.cell?_alloc_lt _ _ _ (by rw [e1]; exact Nat.lt_succ_self _))
    have z : ∀ k, W.cell? ⟨w.heap.size + 1, k, none⟩ = #[Value.string nm2, .slice pa2 ps2.length pc2, .slice ka2 ks2.length kc2][k]? := fun k => by
      refine (h.cell (p := ⟨w.heap.size + 1, k, none⟩) (by show w.heap.size + 1 < _; omega)).trans ?_
      rw [← e1]
      exact World.cell?_alloc_new _ _ _ _
    exact ⟨(y 0).trans (World.cell?_alloc_new _ _ _ _), (y 1).trans (World.cell?_alloc_new _ _ _ _), (y 2).trans (World.cell?_alloc_new _ _ _ _), z 0, z 1, z 2⟩)
  go_enter Try.func4, Try.ntmps4
  go_wp2_with fail
  refine (HK.out _).mono ?_
  rintro e w1 ⟨rfl, hb⟩
  have HB1 := Lib.hid (HB.out.trans (hb.mono HB.out.size))
  have HX1 := Lib.hid (hb.mono (B' := w.heap.size + 2) (by simp))
  clear hb
  obtain ⟨b0, b1, b2, d0, d1, d2⟩ := BX.out _ HX1.out
  go_wp2_with fail
  refine (F1.out _ HB1.out).mono ?_
  rintro e w2 ⟨⟨r1, rfl⟩, hb⟩
  have HB2 := Lib.hid (HB1.out.trans (hb.mono HB1.out.size))
  have HX2 := Lib.hid (HX1.out.trans (hb.mono (by have := HX1.out.size; simp at this; omega)))
  clear hb b0 b1 b2 d0 d1 d2
  obtain ⟨b0, b1, b2, d0, d1, d2⟩ := BX.out _ HX2.out
  cases r1
  · clear b0 b1 b2 d0 d1 d2
    go_wp2_with fail
    refine (HK.out _).mono ?_
    rintro e wz ⟨rfl, hb⟩
    have HBZ := Lib.hid (HB2.out.trans (hb.mono HB2.out.size))
    clear hb
    go_wp2
    go_ret
    exact ⟨rfl, HBZ.out⟩
  · go_wp2_with fail
    refine (F2.out _ HB2.out).mono ?_
    rintro e w3 ⟨⟨r2, rfl⟩, hb⟩
    have HB3 := Lib.hid (HB2.out.trans (hb.mono HB2.out.size))
    have HX3 := Lib.hid (HX2.out.trans (hb.mono (by have := HX2.out.size; simp at this; omega)))
    clear hb b0 b1 b2 d0 d1 d2
    obtain ⟨b0, b1, b2, d0, d1, d2⟩ := BX.out _ HX3.out
    cases r2
    · clear b0 b1 b2 d0 d1 d2
      go_wp2_with fail
      refine (HK.out _).mono ?_
      rintro e wz ⟨rfl, hb⟩
      have HBZ := Lib.hid (HB3.out.trans (hb.mono HB3.out.size))
      clear hb
      go_wp2
      go_ret
      exact ⟨rfl, HBZ.out⟩
    · go_wp2_with fail
      refine (C1.out _ HB3.out).mono ?_
      rintro e w4 ⟨ho1, ho2, hb⟩
      cases ok
      · obtain ⟨A4, c4, rfl, m4⟩ := ho2 rfl
        clear ho1 ho2
        have HB4 := Lib.hid (HB3.out.trans (hb.mono HB3.out.size))
        have HX4 := Lib.hid (HX3.out.trans (hb.mono (by have := HX3.out.size; simp at this; omega)))
        clear hb b0 b1 b2 d0 d1 d2
        obtain ⟨b0, b1, b2, d0, d1, d2⟩ := BX.out _ HX4.out
        go_wp2_with fail
        refine (D1.out _ HB4.out).mono ?_
        rintro e w5 ⟨⟨A5, m5, c5, rfl, s5, l5⟩, hb⟩
        have HB5 := Lib.hid (HB4.out.trans (hb.mono HB4.out.size))
        clear hb s5 l5 b0 b1 b2 d0 d1 d2
        go_wp2
        go_ret
        exact ⟨rfl, HB5.out⟩
      · obtain ⟨A4, m4, c4, rfl, s4, l4, l4'⟩ := ho1 rfl
        have HS4 := Lib.hid s4
        clear ho1 ho2 s4
        have HB4 := Lib.hid (HB3.out.trans (hb.mono HB3.out.size))
        have HX4 := Lib.hid (HX3.out.trans (hb.mono (by have := HX3.out.size; simp at this; omega)))
        clear hb b0 b1 b2 d0 d1 d2
        obtain ⟨b0, b1, b2, d0, d1, d2⟩ := BX.out _ HX4.out
        go_wp2_with fail
        refine (D1.out _ HB4.out).mono ?_
        rintro e w5 ⟨⟨A5, m5, c5, rfl, s5, l5, l5'⟩, hb⟩
        have HB5 := Lib.hid (HB4.out.trans (hb.mono HB4.out.size))
        have HS5 := Lib.hid s5
        have HS4' := Lib.hid (HS4.out.on hb)
        obtain rfl : m4 = m5 := by rw [← HS4.out.1, ← s5.1]
        have HLN : Hid (L.length = m4) := Lib.hid (by have := s5.1; rwa [List.length_map] at this)
        have q1 : ((m4 : Int) != (m4 : Int)) = false := by simp
        clear hb s5 b0 b1 b2 d0 d1 d2 HS4
        go_wp2_with fail
        go_loopw [55] (fun i wr => ∃ j : Nat, j ≤ m4 ∧ i = .int .i64 j ∧ Below w5.heap.size w5 wr) (fun i _ => m4 - (intOf i).toNat)
        case atStart => exact ⟨0, Nat.zero_le _, rfl, Below.refl _ _⟩
        case round =>
          obtain ⟨j, hj, rfl, hb⟩ := hrel
          have HBX := Lib.hid hb
          have HBW := Lib.hid (HB5.out.trans (hb.mono HB5.out.size))
          by_cases hlt : j < m4
          · have hjl : j < (L.map winV).length := by rw [List.length_map, HLN.out]; exact hlt
            obtain ⟨b, o, e, _, hc⟩ := (HS4'.out.below hb).2 (by omega)
            obtain rfl : A4 = _ := e
            obtain ⟨b', o', e, _, hc'⟩ := (HS5.out.below hb).2 (by omega)
            obtain rfl : A5 = _ := e
            obtain ⟨p0, p1⟩ := hc j hjl
            obtain ⟨q0, q1'⟩ := hc' j hjl
            rw [List.getElem_map] at p0 p1 q0 q1'
            generalize L[j]'(by rw [HLN.out]; exact hlt) = Y at *
            obtain ⟨x, y⟩ := Y
            replace p0 : wr.cell? ⟨b, o + j * 2, none⟩ = some (.int .u64 x) := p0
            replace p1 : wr.cell? ⟨b, o + j * 2 + 1, none⟩ = some (.int .u64 y) := p1
            replace q0 : wr.cell? ⟨b', o' + j * 2, none⟩ = some (.int .u64 x) := q0
            replace q1' : wr.cell? ⟨b', o' + j * 2 + 1, none⟩ = some (.int .u64 y) := q1'
            clear hc hc' hb hjl
            go_wp2_with fail
            go_region
            go_wp2
            go_roundw
            case rel => exact ⟨j + 1, by omega, by go_num, HBX.out.drew⟩
            case measure => simp [intOf]; omega
          · clear hb
            go_wp2
            go_ret
            exact ⟨rfl, HBW.out⟩
end Go.Proofs.Ytgogkcmdcfcikaa

/-! Layer 7, PropReads, PropOne, PropWide: out of what the program's functions answer. -/
namespace Go.Proofs.Ytgogkcmdcfcikaa
open Go.RowKit
set_option linter.unusedVariables false
set_option linter.unusedSimpArgs false

/-- What Cells, Text and Texts answer: what they read, and the error. -/
def cellsL (zs : List Int) : List Int := if zs.length % 4 = 0 then (List.range (zs.length / 4)).map fun i => numTo zs (4 * i) 4 else []
def cellsE (zs : List Int) : Int := if zs.length % 4 = 0 then 0 else 4
noncomputable def textS (zs : List Int) : ByteArray := match textV zs with | none => ⟨#[]⟩ | some s => strOfNums s
noncomputable def textE (zs : List Int) : Int := match textV zs with | none => 4 | some _ => 0
noncomputable def txtsL (zs : List Int) : List ByteArray := match textsV zs with | none => [] | some l => l.map strOfNums
noncomputable def txtsE (zs : List Int) : Int := match textsV zs with | none => 4 | some _ => 0
abbrev u32s (l : List Int) : List Value := l.map (Value.int .u32)
abbrev strs6 (l : List ByteArray) : List Value := l.map Value.string
/-- A row of values, and an error. -/
def RowOut (w' : World) (R : List Value) (E : Int) (e : Ending) : Prop := ∃ A c, e = .returned (.tuple #[.slice A R.length c, .int .i64 E]) ∧ Cel w' w'.heap.size A R.length R ∧ R.length ≤ c ∧ c ≤ 9223372036854775807

theorem rowOut_of {w w' : World} {e : Ending} {t : TypeId} {R : List Value} {A : Option Addr} {m c : Nat} (hm : m = R.length) (he : e = .returned (.tuple #[.slice A m c, .int .i64 0])) (h : w'.ownsRow w.heap.size t 1 (.slice A m c) m R) : RowOut w' R 0 e := by
  subst hm
  obtain ⟨A', c', e', h1, h2, h3, _⟩ := owned_cel h
  simp only [Value.slice.injEq, true_and] at e'
  obtain ⟨rfl, rfl⟩ := e'
  exact ⟨A, c, he, h1, h2, h3⟩
theorem rowOut_nil {w' : World} {e : Ending} {E : Int} (he : e = .returned (.tuple #[.slice none 0 0, .int .i64 E])) : RowOut w' [] E e := ⟨none, 0, he, Cel.nil _ _ _, Nat.le_refl _, by omega⟩

theorem refcellsR (A : Option Addr) (n c : Nat) (zs : List Int) (w : World) (hs : Shows w w.heap.size A n zs) (hn : n ≤ 140737488351232) (hnc : n ≤ c) (hc : c ≤ 9223372036854775807) :
    Calls Try.prog 36 #[.slice A n c] w fun e w' => RowOut w' (u32s (cellsL zs)) (cellsE zs) e ∧ Below w.heap.size w w' := by
  obtain rfl := hs.1
  refine (refcells_any A _ c zs w hs hn hnc hc).mono fun e w' h => ⟨?_, h.2⟩
  obtain ⟨⟨h1, h2⟩, _⟩ := h
  by_cases h4 : zs.length % 4 = 0
  · obtain ⟨A', c', he, ho⟩ := h2 h4
    have e1 : cellRow zs (zs.length / 4) = u32s (cellsL zs) := by
      rw [cellsL, if_pos h4]; exact (List.map_map (l := List.range (zs.length / 4))).symm
    rw [cellsE, if_pos h4]
    rw [e1] at ho
    exact rowOut_of (by rw [List.length_map, cellsL, if_pos h4, List.length_map, List.length_range]) he ho
  · rw [cellsE, if_neg h4, cellsL, if_neg h4]
    exact rowOut_nil (h1 h4)
/-! ### What the program's functions answer -/
def CellsOK : Prop := ∀ (A : Option Addr) (n c : Nat) (zs : List Int) (w : World), Shows w w.heap.size A n zs → n ≤ 5000 → n ≤ c → c ≤ 9223372036854775807 → Calls Try.prog 21 #[.slice A n c] w fun e w' => RowOut w' (u32s (cellsL zs)) (cellsE zs) e ∧ Below w.heap.size w w'
def OneOK : Prop := ∀ (n : Nd) (s : ByteArray) (w : World), n.In w w.heap.size → s.size ≤ 140737488351232 → Calls Try.prog 29 #[n.val, .string s] w fun e w' => e = .returned (oneVal (oneV n s)) ∧ Below w.heap.size w w'

theorem u32_cell {w : World} {B n : Nat} {A : Option Addr} {l : List Int} (h : Cel w B A n (u32s l)) (hn : l.length = n) (k : Nat) (hk : k < n) : ∃ b o, A = some ⟨b, o, none⟩ ∧ b < B ∧ w.cell? ⟨b, o + k, none⟩ = some (.int .u32 (l.getD k 0)) := by
  obtain ⟨b, o, e, hb, hc⟩ := h.2 (by omega)
  refine ⟨b, o, e, hb, ?_⟩
  rw [hc k hk, List.getElem?_map, List.getElem?_eq_getElem (by omega)]
  simp [List.getD, List.getElem?_eq_getElem (show k < l.length by omega)]
theorem str_cell {w : World} {B n : Nat} {A : Option Addr} {l : List ByteArray} (h : Cel w B A n (strs6 l)) (hn : l.length = n) (k : Nat) (hk : k < n) : ∃ b o, A = some ⟨b, o, none⟩ ∧ b < B ∧ w.cell? ⟨b, o + k, none⟩ = some (.string (l.getD k ⟨#[]⟩)) := by
  obtain ⟨b, o, e, hb, hc⟩ := h.2 (by omega)
  refine ⟨b, o, e, hb, ?_⟩
  rw [hc k hk, List.getElem?_map, List.getElem?_eq_getElem (by omega)]
  simp [List.getD, List.getElem?_eq_getElem (show k < l.length by omega)]

end Go.Proofs.Ytgogkcmdcfcikaa

/-! Layer 7, PropWide: out of what the program's Wide answers. -/
namespace Go.Proofs.Ytgogkcmdcfcikaa
open Go.RowKit
set_option linter.unusedVariables false
set_option linter.unusedSimpArgs false

/-- The number that cells are, the greatest first. -/
def wideV (zs : List Int) : Int := zs.foldl (fun v z => v * 4294967296 + z) 0
theorem wideV_next (zs : List Int) (k : Nat) (h : k < zs.length) : wideV (zs.take (k + 1)) = wideV (zs.take k) * 4294967296 + zs.getD k 0 := by
  unfold wideV
  rw [take_next zs k h, List.foldl_append]
  simp [List.getD, List.getElem?_eq_getElem h]
theorem wideV_bound (zs : List Int) (hz : ∀ z ∈ zs, 0 ≤ z ∧ z ≤ 4294967295) : ∀ k, k ≤ zs.length → 0 ≤ wideV (zs.take k) ∧ wideV (zs.take k) < 4294967296 ^ k
  | 0, _ => by simp [wideV]
  | k + 1, h => by
    have h1 := wideV_bound zs hz k (by omega)
    have h2 := hz zs[k] (List.getElem_mem (by omega))
    have e : zs.getD k 0 = zs[k] := by simp [List.getD, List.getElem?_eq_getElem (show k < zs.length by omega)]
    rw [wideV_next zs k (by omega), e, Int.pow_succ]
    omega
def WideOK : Prop := ∀ (A : Option Addr) (n c : Nat) (zs : List Int) (w : World), zs.length = n → Cel w w.heap.size A n (u32s zs) → (∀ z ∈ zs, 0 ≤ z ∧ z ≤ 4294967295) → n ≤ 100 → n ≤ c → c ≤ 9223372036854775807 →
  Calls Try.prog 34 #[.slice A n c] w fun e w' => e = .returned (.tuple #[.int .u64 (if n ≤ 2 then wideV zs else 0), .int .i64 (if n ≤ 2 then 0 else 10)]) ∧ Below w.heap.size w w'

end Go.Proofs.Ytgogkcmdcfcikaa

/-! Layer 7: the program's Wide; the law's first question. -/
namespace Go.Proofs.Ytgogkcmdcfcikaa
open Go.RowKit
set_option linter.unusedVariables false
set_option linter.unusedSimpArgs false

theorem or_wide (v z : Int) (h0 : 0 ≤ v) (h1 : v ≤ 4294967295) (h2 : 0 ≤ z) (h3 : z ≤ 4294967295) : bits .or .u64 (v * 4294967296) z = v * 4294967296 + z := by
  obtain ⟨a, rfl⟩ := Int.eq_ofNat_of_zero_le h0
  obtain ⟨b, rfl⟩ := Int.eq_ofNat_of_zero_le h2
  have e : ((a : Int) * 4294967296) = ((a * 4294967296 : Nat) : Int) := by omega
  rw [e, u64_or_nat (a * 4294967296) b (by omega) (by omega), nat_join 32 (a * 4294967296) b (by omega) (by omega)]
  omega

set_option maxRecDepth 20000 in
set_option maxHeartbeats 4000000 in
theorem wide_any (A : Option Addr) (n c : Nat) (zs : List Int) (w : World) (hl : zs.length = n) (hs : Cel w w.heap.size A n (u32s zs)) (hz : ∀ z ∈ zs, 0 ≤ z ∧ z ≤ 4294967295) (hn : n ≤ 1099511627776) (hnc : n ≤ c) (hc : c ≤ 9223372036854775807) :
    Calls Try.prog 34 #[.slice A n c] w fun e w' => e = .returned (.tuple #[.int .u64 (if n ≤ 2 then wideV zs else 0), .int .i64 (if n ≤ 2 then 0 else 10)]) ∧ w' = w := by
  have HS := Lib.hid hs
  have HL := Lib.hid hl
  have HZ := Lib.hid hz
  clear hs hl hz
  by_cases h2 : n ≤ 2
  · have k2 : decide ((2 : Int) < (n : Int)) = false := decide_eq_false (by omega)
    rw [if_pos h2, if_pos h2]
    have H2 := Lib.hid h2
    clear h2
    obtain ⟨V, hV⟩ : ∃ V, wideV zs = V := ⟨_, rfl⟩
    rw [hV]
    have HV := Lib.hid hV
    clear hV
    go_enter Try.func34, Try.ntmps34
    go_wp2_with fail
    go_loop [4, 12] (fun x i => ∃ (k : Nat) (v : Int), k ≤ n ∧ i = .int .i64 k ∧ x = .int .u64 v ∧ Hid (v = wideV (zs.take k))) (fun _ i => n - (intOf i).toNat)
    case atStart => exact ⟨0, 0, Nat.zero_le _, rfl, rfl, Lib.hid rfl⟩
    case round =>
      obtain ⟨k, v, hk, rfl, rfl, HW⟩ := hrel
      by_cases hlt : k < n
      · obtain ⟨b, o, e, _, cc⟩ := u32_cell HS.out HL.out k hlt
        obtain rfl : A = _ := e
        obtain ⟨x, hx⟩ : ∃ x, zs.getD k 0 = x := ⟨_, rfl⟩
        rw [hx] at cc
        have hkz : k < zs.length := by rw [HL.out]; exact hlt
        have hn2 : n ≤ 2 := H2.out
        have hb1 := wideV_bound zs HZ.out k (by omega)
        have hxb : 0 ≤ x ∧ x ≤ 4294967295 := by
          rw [← hx]
          have := HZ.out zs[k] (List.getElem_mem hkz)
          simpa [List.getD, List.getElem?_eq_getElem hkz] using this
        have hnx := wideV_next zs k hkz
        rw [hx] at hnx
        rw [← HW.out] at hb1 hnx
        have hp : (4294967296 : Int) ^ k ≤ 4294967296 := by
          have := H2.out
          rcases (by omega : k = 0 ∨ k = 1) with rfl | rfl <;> decide
        have hv0 : 0 ≤ v := hb1.1
        have hv1 : v ≤ 4294967295 := by omega
        have HNX := Lib.hid hnx.symm
        have w2' : IntKind.u64.wrap x = x := IntWalk.u64_in _ (by omega)
        have w3' := or_wide v x hv0 hv1 hxb.1 hxb.2
        clear hb1 hx hnx hp hkz
        go_wp2
        go_round
        case rel => exact ⟨k + 1, v * 4294967296 + x, by omega, by go_num, by first | rfl | rw [w3'], Lib.hid HNX.out⟩
        case measure => simp [intOf]; omega
      · have HE : Hid (v = V) := Lib.hid (by rw [HW.out, List.take_of_length_le (by rw [HL.out]; omega), HV.out])
        obtain rfl := HE.out
        go_wp2
        go_ret2
        exact ⟨rfl, rfl⟩
  · have k2 : decide ((2 : Int) < (n : Int)) = true := decide_eq_true (by omega)
    rw [if_neg h2, if_neg h2]
    clear h2
    go_enter Try.func34, Try.ntmps34
    go_wp2
    go_ret2
    exact ⟨rfl, rfl⟩
theorem wideOK : WideOK := fun A n c zs w hl hs hz hn hnc hc => (wide_any A n c zs w hl hs hz (by omega) hnc hc).mono fun e w' ⟨h1, h2⟩ => ⟨h1, by rw [h2]; exact Below.refl _ _⟩

end Go.Proofs.Ytgogkcmdcfcikaa

/-! Layer 12: the program's window; the numbers of a chunk of cells. -/
namespace Go.Proofs.Ytgogkcmdcfcikaa
open Go.RowKit
set_option linter.unusedVariables false
set_option linter.unusedSimpArgs false

theorem size_u32w (w : World) : (Go.sizeOf 51).run Try.prog w = .ok 1 w := by kernel_rfl
theorem u32s_take (cs : List Int) (k : Nat) : u32s (cs.take k) = (u32s cs).take k := by simp [u32s, List.map_take]
theorem u32s_drop (cs : List Int) (k : Nat) : u32s (cs.drop k) = (u32s cs).drop k := by simp [u32s, List.map_drop]

set_option maxRecDepth 20000 in
set_option maxHeartbeats 4000000 in
theorem window_any (A : Option Addr) (k c a : Nat) (cs : List Int) (w : World) (hl : cs.length = k) (hs : Cel w w.heap.size A k (u32s cs)) (hz : ∀ z ∈ cs, 0 ≤ z ∧ z ≤ 4294967295) (hak : a ≤ k) (ha : a ≤ 2) (hka : k - a ≤ 2) (hkc : k ≤ c) (hc : c ≤ 9223372036854775807) :
    Calls Try.prog 23 #[.slice A k c, .int .i64 a] w fun e w' => e = .returned (.agg #[.int .u64 (wideV (cs.take a)), .int .u64 (wideV (cs.drop a))]) ∧ Below w.heap.size w w' := by
  obtain ⟨W0, hW0⟩ : ∃ W0, W0 = w.alloc (.cells #[.int .u64 0, .int .u64 0] 42) := ⟨_, rfl⟩
  have hb0 : Below w.heap.size w W0 := by rw [hW0]; exact (Below.refl w.heap.size w).alloc (Nat.le_refl _) _
  have hs0 : Cel W0 W0.heap.size A k (u32s cs) := hs.on hb0
  obtain ⟨x, hx⟩ : ∃ x, wideV (cs.take a) = x := ⟨_, rfl⟩
  obtain ⟨y, hy⟩ : ∃ y, wideV (cs.drop a) = y := ⟨_, rfl⟩
  have C1 : Calls Try.prog 34 #[.slice A a c] W0 fun e w' => e = .returned (.tuple #[.int .u64 x, .int .i64 0]) ∧ w' = W0 := by
    have h := wide_any A a c (cs.take a) W0 (by rw [List.length_take, hl]; omega) (by rw [u32s_take]; exact hs0.upto hak) (fun z h => hz z (List.mem_of_mem_take h)) (by omega) (by omega) hc
    rwa [if_pos ha, if_pos ha, hx] at h
  have C2 : Calls Try.prog 34 #[.slice (cutAt A c a) (k - a) (c - a)] W0 fun e w' => e = .returned (.tuple #[.int .u64 y, .int .i64 0]) ∧ w' = W0 := by
    have h := wide_any (cutAt A c a) (k - a) (c - a) (cs.drop a) W0 (by rw [List.length_drop, hl]) (by rw [u32s_drop]; exact hs0.from_ hak hkc) (fun z h => hz z (List.mem_of_mem_drop h)) (by omega) (by omega) (by omega)
    rwa [if_pos hka, if_pos hka, hy] at h
  rw [hx, hy]
  have R1 : ∀ W : World, (Instr.slice 61 (.slice A k c) none (some (.int .i64 (a : Int))) none).run Try.prog W = .ok (.slice A a c) W := fun W => run_upto Try.underlying61 size_u32w A k c _ a rfl (by omega) W
  have R2 : ∀ W : World, (Instr.slice 61 (.slice A k c) (some (.int .i64 (a : Int))) none none).run Try.prog W = .ok (.slice (cutAt A c a) (k - a) (c - a)) W := fun W => run_from Try.underlying61 size_u32w A k c _ a rfl hak W
  rw [hW0] at C1 C2
  have C1 := Lib.hid C1
  have C2 := Lib.hid C2
  have HB : Hid (Below w.heap.size w (w.alloc (.cells #[.int .u64 x, .int .u64 y] 42))) := Lib.hid ((Below.refl w.heap.size w).alloc (Nat.le_refl _) _)
  clear hW0 hb0 hs0 hs hz hl hx hy
  go_enter Try.func23, Try.ntmps23
  go_wp2_with fail
  refine C1.out.mono ?_
  rintro e w1 ⟨rfl, rfl⟩
  clear C1 R1
  go_wp2_with fail
  refine C2.out.mono ?_
  rintro e w1 ⟨rfl, rfl⟩
  clear C2 R2
  go_wp2_with fail
  have d0 : (w.alloc (.cells #[.int .u64 x, .int .u64 y] 42)).cell? ⟨w.heap.size, 0, none⟩ = some (.int .u64 x) := World.cell?_alloc_new _ _ _ _
  have d1 : (w.alloc (.cells #[.int .u64 x, .int .u64 y] 42)).cell? ⟨w.heap.size, 1, none⟩ = some (.int .u64 y) := World.cell?_alloc_new _ _ _ _
  refine bodyPost_ret (v := .agg #[.int .u64 x, .int .u64 y]) (by simp [results, Try.results23, go_sem, d0, d1]; try rfl) rfl ?_
  exact ⟨rfl, HB.out⟩

theorem cut_num (zs : List Int) (x m : Nat) : ∀ k, k ≤ m → numTo ((zs.drop x).take m) 0 k = numTo zs x k
  | 0, _ => rfl
  | k + 1, h => by
    rw [numTo, numTo, cut_num zs x m k (by omega), Nat.zero_add]
    simp [List.getD, List.getElem?_take_of_lt (show k < m by omega), List.getElem?_drop]
theorem cutN_num (zs : List Int) (x m : Nat) : cutN zs x m = numTo zs x m := cut_num zs x m m (Nat.le_refl _)
theorem num_eight (zs : List Int) (x : Nat) : numTo zs x 8 = numTo zs x 4 * 4294967296 + numTo zs (x + 4) 4 := by
  simp only [numTo, Nat.add_zero, Nat.add_assoc, Nat.reduceAdd]
  generalize zs.getD x 0 = a0
  generalize zs.getD (x + 1) 0 = a1
  generalize zs.getD (x + 2) 0 = a2
  generalize zs.getD (x + 3) 0 = a3
  generalize zs.getD (x + 4) 0 = a4
  generalize zs.getD (x + 5) 0 = a5
  generalize zs.getD (x + 6) 0 = a6
  generalize zs.getD (x + 7) 0 = a7
  omega
theorem cells_drop (zs : List Int) (N b : Nat) (hN : zs.length = 4 * N) (hb : b < N) : (cellsL zs).drop b = numTo zs (4 * b) 4 :: (cellsL zs).drop (b + 1) := by
  have e : cellsL zs = (List.range N).map fun i => numTo zs (4 * i) 4 := by
    rw [cellsL, if_pos (by omega), show zs.length / 4 = N by omega]
  rw [e, List.drop_eq_getElem_cons (by simpa using hb)]
  simp
theorem chunk_num (zs : List Int) (N b m : Nat) (hN : zs.length = 4 * N) (hb : b + m ≤ N) (hm : m ≤ 2) : wideV (((cellsL zs).drop b).take m) = numTo zs (4 * b) (4 * m) := by
  rcases (by omega : m = 0 ∨ m = 1 ∨ m = 2) with rfl | rfl | rfl
  · rfl
  · rw [cells_drop zs N b hN (by omega)]
    simp [wideV]
  · rw [cells_drop zs N b hN (by omega), cells_drop zs N (b + 1) hN (by omega)]
    have := num_eight zs (4 * b)
    rw [show 4 * (b + 1) = 4 * b + 4 by omega]
    simp [wideV]
    omega
/-- The window of chunk j. -/
theorem chunk_win (zs : List Int) (N j a s : Nat) (hN : zs.length = 4 * N) (hj : j * (a + s) + (a + s) ≤ N) (ha : a ≤ 2) (hs : s ≤ 2) (cs : List Int) (hcs : cs = ((cellsL zs).drop (j * (a + s))).take (a + s)) :
    wideV (cs.take a) = cutN zs (j * (4 * a + 4 * s)) (4 * a) ∧ wideV (cs.drop a) = cutN zs (j * (4 * a + 4 * s) + 4 * a) (4 * s) := by
  subst hcs
  have e : j * (4 * a + 4 * s) = 4 * (j * (a + s)) := by rw [← Nat.mul_add]; exact Nat.mul_left_comm j 4 (a + s)
  rw [cutN_num, cutN_num, e]
  generalize j * (a + s) = b at *
  refine ⟨?_, ?_⟩
  · rw [List.take_take, Nat.min_eq_left (by omega)]
    exact chunk_num zs N b a hN (by omega) ha
  · rw [List.drop_take, List.drop_drop, show a + s - a = s by omega, show 4 * b + 4 * a = 4 * (b + a) by omega]
    exact chunk_num zs N (b + a) s hN (by omega) hs
end Go.Proofs.Ytgogkcmdcfcikaa

/-! Layer 7: rows that a call has made, of values of one cell; the program's Cells. -/
namespace Go.Proofs.Ytgogkcmdcfcikaa
open Go.RowKit
set_option linter.unusedVariables false
set_option linter.unusedSimpArgs false

/-- Block g holds just these values, one cell each. -/
def VRow (w : World) (g : Nat) (t : TypeId) (vs : List Value) : Prop := w.heap[g]? = some (.cells vs.toArray t (0, 0))
section
variable {w w' : World} {g : Nat} {t : TypeId} {vs : List Value}
theorem VRow.lt (h : VRow w g t vs) : g < w.heap.size := (Array.getElem?_eq_some_iff.1 h).1
theorem VRow.cell (h : VRow w g t vs) (i : Nat) (hi : i < vs.length) : w.cell? ⟨g, i, none⟩ = some vs[i] := by
  rw [cell_of_row w g i _ _ (0, 0) h]
  simp [List.getElem?_eq_getElem hi]
theorem VRow.at_ (h : VRow w g t vs) {i : Nat} {z : Value} (hi : vs[i]? = some z) : w.cell? ⟨g, i, none⟩ = some z := by
  obtain ⟨h1, h2⟩ := List.getElem?_eq_some_iff.1 hi
  rw [h.cell i h1, h2]
theorem VRow.free (h : VRow w g t vs) (i : Nat) : w.frozen? ⟨g, i, none⟩ = false := by
  unfold VRow at h
  simp [World.frozen?, h]
theorem VRow.set (h : VRow w g t vs) (i : Nat) (v : Value) : VRow (w.setCell ⟨g, i, none⟩ v) g t (vs.set i v) := by
  unfold VRow at h ⊢
  simp [World.setCell, Array.getElem?_modify, h]
theorem VRow.on (h : VRow w g t vs) (hb : Below w.heap.size w w') : VRow w' g t vs := (hb.block g h.lt).trans h
theorem VRow.cel {n : Nat} (h : VRow w g t vs) (hn : vs.length = n) : Cel w w.heap.size (some ⟨g, 0, none⟩) n vs :=
  ⟨hn, fun _ => ⟨g, 0, rfl, h.lt, fun i hi => by rw [Nat.zero_add, h.cell i (by omega), List.getElem?_eq_getElem (by omega)]⟩⟩
end
theorem made_vrow (w : World) (z : Value) (k : Nat) (t : TypeId) : VRow (w.alloc (.cells (madeCells #[z] k) t)) w.heap.size t (List.replicate k z) := by
  unfold VRow
  rw [heap_alloc_new]
  congr 2
  apply Array.toList_inj.1
  rw [toList_madeCells_one]
/-- k of m values are laid. -/
def partV (l : List Value) (z : Value) (m k : Nat) : List Value := l.take k ++ List.replicate (m - k) z
theorem partV_length (l : List Value) (z : Value) (m k : Nat) (hk : k ≤ m) (hm : l.length = m) : (partV l z m k).length = m := by
  simp only [partV, List.length_append, List.length_take, List.length_replicate]; omega
theorem partV_set (l : List Value) (z : Value) (m k : Nat) (hk : k < m) (hm : l.length = m) (x : Value) (hx : l[k]? = some x) : (partV l z m k).set k x = partV l z m (k + 1) := by
  unfold partV
  have e : l.take (k + 1) = l.take k ++ [x] := by rw [List.take_add_one, hx]; rfl
  have hl : (l.take k).length = k := by rw [List.length_take]; omega
  rw [List.set_append, if_neg (by omega), hl, Nat.sub_self, e, List.append_assoc]
  congr 1
  obtain ⟨j, hj⟩ : ∃ j, m - k = j + 1 := ⟨m - k - 1, by omega⟩
  rw [hj, show m - (k + 1) = j by omega, List.replicate_succ]
  rfl
theorem partV_none (l : List Value) (z : Value) (m : Nat) : partV l z m 0 = List.replicate m z := by simp [partV]
theorem partV_all (l : List Value) (z : Value) (m : Nat) (hm : l.length = m) : partV l z m m = l := by simp [partV, ← hm]
theorem partV_at (l : List Value) (z : Value) (m k : Nat) (hk : k < m) (hm : l.length = m) : (partV l z m k)[k]? = some z := by
  unfold partV
  have hl : (l.take k).length = k := by rw [List.length_take]; omega
  rw [List.getElem?_append_right (by omega), hl, Nat.sub_self, List.getElem?_replicate]
  simp; omega

theorem rowOut_vrow {w : World} {g m c : Nat} {t : TypeId} {R : List Value} {e : Ending} (h : VRow w g t R) (hm : R.length = m) (hc : m ≤ c) (hc2 : c ≤ 9223372036854775807) (he : e = .returned (.tuple #[.slice (some ⟨g, 0, none⟩) m c, .int .i64 0])) : RowOut w R 0 e := by
  subst hm
  exact ⟨_, c, he, h.cel rfl, hc, hc2⟩

theorem make_u32 (k : Nat) (hk : k ≤ 70368744177664) (w : World) :
    (Instr.makeSlice 61 (.int .i64 (k : Int)) (.int .i64 (k : Int))).run Try.prog w = .ok (.slice (some ⟨w.heap.size, 0, none⟩) k k) (w.alloc (.cells (madeCells #[.int .u32 0] k) 51)) :=
  run_make_row' (P := Try.prog) 61 51 (.int .u32 0) 4 Try.underlying61 info_u32 rfl .i64 .i64 k (by omega) (by omega) w

theorem u32s_cells {zs : List Int} {m : Nat} (h4 : zs.length % 4 = 0) (hm : zs.length / 4 = m) : (u32s (cellsL zs)).length = m ∧ ∀ k, k < m → (u32s (cellsL zs))[k]? = some (.int .u32 (numTo zs (4 * k) 4)) := by
  rw [cellsL, if_pos h4, hm]
  refine ⟨by simp, fun k hk => ?_⟩
  simp [List.getElem?_range hk]

set_option maxRecDepth 20000 in
set_option maxHeartbeats 4000000 in
theorem cells_any (A : Option Addr) (n c : Nat) (zs : List Int) (w : World) (hs : Shows w w.heap.size A n zs) (hn : n ≤ 140737488351232) (hnc : n ≤ c) (hc : c ≤ 9223372036854775807) :
    Calls Try.prog 21 #[.slice A n c] w fun e w' => RowOut w' (u32s (cellsL zs)) (cellsE zs) e ∧ Below w.heap.size w w' := by
  have HS := Lib.hid hs
  have HC := Lib.hid (And.intro hnc hc)
  have HL := Lib.hid hs.1
  clear hs hnc hc
  by_cases h4 : n % 4 = 0
  · have q1 : (((n : Int) % 4) != 0) = false := by rw [bne_eq_false_iff_eq]; omega
    obtain ⟨m, hm⟩ : ∃ m, n / 4 = m := ⟨_, rfl⟩
    have q2 : (n : Int) / 4 = (m : Int) := by omega
    have hm4 : n = 4 * m := by omega
    have HU := Lib.hid (u32s_cells (zs := zs) (m := m) (by rw [HL.out]; exact h4) (by rw [HL.out]; exact hm))
    have HE : Hid (cellsE zs = 0) := Lib.hid (by rw [cellsE, if_pos (by rw [HL.out]; exact h4)])
    have HM := make_u32 m (by omega)
    have HN := Lib.hid (And.intro hm4 hn)
    have hm9 : m ≤ 35184372087808 := by omega
    clear h4 hm hm4 hn
    generalize hU : u32s (cellsL zs) = U at HU
    have HUU := Lib.hid hU
    clear hU
    go_enter Try.func21, Try.ntmps21
    go_wp2_with fail
    go_loopw [16] (fun i wr => ∃ k : Nat, k ≤ m ∧ i = .int .i64 k ∧ VRow wr w.heap.size 51 (partV U (.int .u32 0) m k) ∧ Below w.heap.size w wr) (fun i _ => m - (intOf i).toNat)
    case atStart => exact ⟨0, Nat.zero_le _, rfl, by rw [partV_none]; exact made_vrow _ _ _ _, (Below.refl _ _).alloc (Nat.le_refl _) _⟩
    case round =>
      obtain ⟨k, hk, rfl, hrow, hb⟩ := hrel
      have HB := Lib.hid hb
      have HR := Lib.hid hrow
      by_cases hlt : k < m
      · have hnum := numTo_u32 HS.out (4 * k)
        have CG := fun q hq => get_at A n c (4 * k) q hq zs wr w.heap.size (HS.out.below hb) (by have := HN.out.1; omega) (by have := HN.out.2; omega) HC.out.1 (by unfold maxLen; exact HC.out.2) _ rfl
        obtain ⟨x, hx⟩ : ∃ x, numTo zs (4 * k) 4 = x := ⟨_, rfl⟩
        have hat := HU.out.2 k hlt
        rw [hx] at CG hnum hat
        have HSET : Hid ((partV U (.int .u32 0) m k).set k (.int .u32 x) = partV U (.int .u32 0) m (k + 1)) := Lib.hid (partV_set U _ m k hlt HU.out.1 _ hat)
        have hcell := hrow.at_ (partV_at U (.int .u32 0) m k hlt HU.out.1)
        have hfree := hrow.free k
        have HR2 := Lib.hid (hrow.set k (.int .u32 x))
        have HB2 := Lib.hid (hb.setCell (p := ⟨w.heap.size, k, none⟩) (Nat.le_refl _) (.int .u32 x))
        have HCG := Lib.hid CG
        have hb4 := HN.out
        have hbd : 4 * (k : Int) ≤ 140737488351232 := by omega
        clear hx hat hrow hb CG hb4
        go_wp2_with fail
        refine (HCG.out _ (by omega)).mono ?_
        rintro e w1 ⟨rfl, rfl⟩
        go_wp2
        go_roundw
        case rel => exact ⟨k + 1, by omega, by go_num, by rw [← HSET.out]; exact HR2.out, HB2.out⟩
        case measure => simp [intOf]; omega
      · obtain rfl : k = m := by omega
        have HV : Hid (VRow wr w.heap.size 51 U) := Lib.hid (by have := HR.out; rw [partV_all _ _ _ HU.out.1] at this; exact this)
        clear hrow hb
        go_wp2
        go_ret2
        refine ⟨?_, HB.out⟩
        rw [HE.out]
        exact rowOut_vrow HV.out HU.out.1 (Nat.le_refl _) (by omega) rfl
  · have q1 : (((n : Int) % 4) != 0) = true := by rw [bne_iff_ne]; omega
    have H4 := Lib.hid (show ¬ zs.length % 4 = 0 by rw [HL.out]; exact h4)
    clear h4
    go_enter Try.func21, Try.ntmps21
    go_wp2
    go_ret2
    refine ⟨?_, Below.refl _ _⟩
    rw [cellsE, if_neg H4.out, cellsL, if_neg H4.out]
    exact rowOut_nil rfl
theorem cellsOK : CellsOK := fun A n c zs w hs hn hnc hc => cells_any A n c zs w hs (by omega) hnc hc
end Go.Proofs.Ytgogkcmdcfcikaa

/-! Layer 4: words.Text and words.Pad at slices of any length; bytes.Clone. -/
namespace Go.Proofs.Ytgogkcmdcfcikaa
open Go.RowKit
set_option linter.unusedVariables false
set_option linter.unusedSimpArgs false

theorem byte_eq_zero (z : Int) (h : 0 ≤ z ∧ z < 256) : UInt8.ofNat z.toNat = (0 : Int).toNat.toUInt8 ↔ z = 0 := by
  constructor
  · intro e
    have e2 := congrArg UInt8.toNat e
    simp at e2
    omega
  · rintro rfl; rfl

theorem index_none (zs : List Int) (a n : Nat) (hz : ∀ z ∈ zs, 0 ≤ z ∧ z < 256) (hl : zs.length = n) (h : NoHit zs a n) : Lib.indexByte (Lib.bytesOf (zs.drop a)) (0 : Int).toNat.toUInt8 = -1 := by
  have hge := Lib.indexByte_ge (Lib.bytesOf (zs.drop a)) (0 : Int).toNat.toUInt8
  by_cases hn : Lib.indexByte (Lib.bytesOf (zs.drop a)) (0 : Int).toNat.toUInt8 = -1
  · exact hn
  · obtain ⟨o, ho⟩ : ∃ o : Nat, Lib.indexByte (Lib.bytesOf (zs.drop a)) (0 : Int).toNat.toUInt8 = o := ⟨_, (Int.toNat_of_nonneg (by omega)).symm⟩
    have h1 := (Lib.indexByte_some ho).1
    rw [Lib.bytesOf, List.getElem?_map, List.getElem?_drop] at h1
    obtain ⟨z, h2, h3⟩ := Option.map_eq_some_iff.1 h1
    have hlt : a + o < n := by
      rcases Nat.lt_or_ge (a + o) zs.length with h | h
      · omega
      · rw [List.getElem?_eq_none h] at h2; cases h2
    exact absurd ((byte_eq_zero z (hz z (List.mem_of_getElem? h2))).1 h3) (by have := h (a + o) (by omega) hlt; simpa [List.getD, h2] using this)

theorem index_some (zs : List Int) (a n i : Nat) (hz : ∀ z ∈ zs, 0 ≤ z ∧ z < 256) (hl : zs.length = n) (h : HitAt zs a n i) : Lib.indexByte (Lib.bytesOf (zs.drop a)) (0 : Int).toNat.toUInt8 = ((i - a : Nat) : Int) := by
  obtain ⟨h1, h2, h3, h4⟩ := h
  have hge := Lib.indexByte_ge (Lib.bytesOf (zs.drop a)) (0 : Int).toNat.toUInt8
  have hi : (Lib.bytesOf (zs.drop a))[i - a]? = some (0 : Int).toNat.toUInt8 := by
    have e : zs[i]? = some zs[i] := List.getElem?_eq_getElem (by omega)
    rw [Lib.bytesOf, List.getElem?_map, List.getElem?_drop, show a + (i - a) = i from by omega, e]
    have e2 : zs[i] = 0 := by simpa [List.getD, e] using h3
    rw [e2]; rfl
  by_cases hn : Lib.indexByte (Lib.bytesOf (zs.drop a)) (0 : Int).toNat.toUInt8 = -1
  · exact absurd hi (Lib.indexByte_none hn _)
  · obtain ⟨o, ho⟩ : ∃ o : Nat, Lib.indexByte (Lib.bytesOf (zs.drop a)) (0 : Int).toNat.toUInt8 = o := ⟨_, (Int.toNat_of_nonneg (by omega)).symm⟩
    obtain ⟨k1, k2⟩ := Lib.indexByte_some ho
    rw [ho]
    congr 1
    rcases Nat.lt_trichotomy o (i - a) with h5 | h5 | h5
    · rw [Lib.bytesOf, List.getElem?_map, List.getElem?_drop] at k1
      obtain ⟨z, g2, g3⟩ := Option.map_eq_some_iff.1 k1
      exact absurd ((byte_eq_zero z (hz z (List.mem_of_getElem? g2))).1 g3) (by have := h4 (a + o) (by omega) (by omega); simpa [List.getD, g2] using this)
    · exact h5
    · exact absurd hi (k2 _ h5)

theorem and_three (n : Int) (h0 : 0 ≤ n) (h1 : n ≤ 9223372036854775807) : bits .and .i64 (-n) 3 = (-n) % 4 := by
  show IntKind.i64.wrap ((BitVec.ofInt 64 (-n) &&& BitVec.ofInt 64 3).toNat : Int) = _
  rw [BitVec.toNat_and, show (BitVec.ofInt 64 3).toNat = 3 from rfl, nat_mask2, BitVec.toNat_ofInt, IntWalk.i64_in _ (by omega)]
  omega

theorem takeWhile_at : ∀ (l : List Int) (k : Nat), k < l.length → l.getD k 0 = 0 → (∀ j, j < k → l.getD j 0 ≠ 0) → 0 ∈ l ∧ (l.takeWhile fun z => decide (z ≠ 0)) = l.take k
  | x :: l, 0, _, h0, _ => by
    have hx : x = 0 := by simpa using h0
    subst hx
    simp [List.takeWhile_cons]
  | x :: l, k + 1, hk, h0, h1 => by
    have hx : x ≠ 0 := by simpa using h1 0 (by omega)
    obtain ⟨e1, e2⟩ := takeWhile_at l k (by simpa using hk) (by simpa using h0) (fun j hj => by simpa using h1 (j + 1) (by omega))
    refine ⟨List.mem_cons_of_mem _ e1, ?_⟩
    rw [List.takeWhile_cons, if_pos (by simpa using hx), e2, List.take_succ_cons]
theorem getD_drop (zs : List Int) (a k : Nat) : (zs.drop a).getD k 0 = zs.getD (a + k) 0 := by simp [List.getD, List.getElem?_drop]
theorem textFrom_hit {zs : List Int} {a i : Nat} (h : HitAt zs a zs.length i) : textFrom zs a = some ((zs.drop a).take (i - a)) := by
  obtain ⟨h1, h2, h3, h4⟩ := h
  obtain ⟨e1, e2⟩ := takeWhile_at (zs.drop a) (i - a) (by rw [List.length_drop]; omega) (by rw [getD_drop, show a + (i - a) = i by omega]; exact h3) (fun j hj => by rw [getD_drop]; exact h4 _ (by omega) (by omega))
  rw [textFrom, if_pos e1, e2]
theorem textFrom_nohit {zs : List Int} {a : Nat} (h : NoHit zs a zs.length) : textFrom zs a = none := by
  rw [textFrom, if_neg]
  intro h0
  obtain ⟨k, hk, e⟩ := List.getElem_of_mem h0
  rw [List.length_drop] at hk
  refine h (a + k) (by omega) (by omega) ?_
  rw [← getD_drop]
  simp [List.getD, List.getElem?_eq_getElem (show k < (zs.drop a).length by rw [List.length_drop]; omega), e]

def txtOf : Option (List Int) → ByteArray
  | none => ByteArray.empty
  | some s => strOfNums s
theorem text_any_byte {zs s : List Int} {a : Nat} (hz : ∀ z ∈ zs, 0 ≤ z ∧ z < 256) (h : textFrom zs a = some s) : ∀ z ∈ s, 0 ≤ z ∧ z < 256 := by
  unfold textFrom at h
  split at h
  · simp only [Option.some.injEq] at h
    subst h
    exact fun z hz' => hz z (List.mem_of_mem_drop ((List.takeWhile_sublist _).subset hz'))
  · cases h

set_option maxHeartbeats 1000000 in
theorem bclone_any (A : Option Addr) (n c : Nat) (zs : List Int) (w : World) (hs : Shows w w.heap.size A n zs) (hn : n ≤ 140737488351232) :
    Calls Try.prog 31 #[.slice A n c] w fun e w' => ∃ v', e = .returned v' ∧ w'.ownsRow w.heap.size 5 1 v' n (u8s zs) ∧ Below w.heap.size w w' := by
  obtain ⟨i0, hi0, hz0, hz1, hz2⟩ := info_parts info_u8
  have HS := Lib.hid hs
  clear hs
  have q : ∀ (w : World) (a : Option Addr) (n c n' c' : Nat), (binOp .eql 58 (.slice a n c) (.slice none n' c')).run Try.prog w = .ok (.bool a.isNone) w := fun w a n c n' c' => Lib.run_eql_slice_nil w _ _ a n c n' c' Try.underlying58
  have u22 : ∀ w, Sem.run Try.prog (underlying 58) w = .ok (TypeDesc.slice 5) w := run_underlying Try.underlying58
  rcases A with _ | ad
  · have hn0 : n = 0 := by
      rcases Nat.eq_zero_or_pos n with h | h
      · exact h
      · obtain ⟨b, o, e, _⟩ := HS.out.at_ h
        cases e
    have hz0' : zs = [] := List.eq_nil_of_length_eq_zero (HS.out.1.trans hn0)
    subst hn0 hz0'
    go_enter Try.func31, Try.ntmps31
    go_wp2
    go_ret
    exact ⟨_, rfl, World.ownsRow_nil _ _ _ _, Below.refl _ _⟩
  · have HB0 := Lib.hid ((Below.refl w.heap.size w).alloc (Nat.le_refl _) (.cells #[] 5))
    obtain ⟨v', w', hrun, hown, hgr, _⟩ := run_append_shown (w.alloc (.cells #[] 5)) i0 hi0 hz0 hz1 hz2 w.heap.size (.slice (some ⟨w.heap.size, 0, none⟩) 0 0) 0 [] (World.ownsRow_made w #[] 0 (Nat.le_refl _) (Nat.zero_le _) rfl) w.heap.size (some ad) n c zs (HS.out.below HB0.out) (by omega) (by simp) 58
    have HO := Lib.hid hown
    have HG := Lib.hid hgr
    have HR := Lib.hid hrun
    clear hown hgr hrun hi0 hz0 hz1 hz2
    go_enter Try.func31, Try.ntmps31
    go_wp2_with (at_builtin; refine Lib.wpList_append_run_sl _ rfl _ _ 58 rfl _ _ rfl rfl HR.out ?_)
    go_ret
    refine ⟨_, rfl, ?_, HB0.out.grown HG.out (by simp) ?_⟩
    · have := HO.out
      rw [Nat.zero_add] at this
      simpa using this
    · intro k hk
      simp [Value.ownBlock] at hk
      omega
end Go.Proofs.Ytgogkcmdcfcikaa

/-! Layer 3: the value of a node's property (tree.Find), over bytes.Clone at slices of any length. -/
namespace Go.Proofs.Ytgogkcmdcfcikaa
open Go.RowKit
set_option linter.unusedVariables false
set_option linter.unusedSimpArgs false

set_option maxHeartbeats 1000000 in
theorem findc_any (n : Nd) (s : ByteArray) (w : World) (hin : n.In w w.heap.size) (r : Int) (hr : r = idxOf (n.props.map PV.name) s) :
    Calls Try.prog 20 #[n.val, .string s] w fun e w' => ∃ A c zs, e = .returned (.tuple #[.slice A zs.length c, .bool (decide (0 ≤ r))]) ∧ (Shows w' w'.heap.size A zs.length zs ∧ zs.length ≤ c ∧ c ≤ 9223372036854775807) ∧
      (r < 0 ∧ zs = [] ∨ ∃ k, ∃ hk : k < n.props.length, r = k ∧ zs = n.props[k].zs) ∧ Below w.heap.size w w' := by
  obtain ⟨nm, pa, pc, ps, ka, kc, ks⟩ := n
  have HI := Lib.hid hin
  have HR := Lib.hid hr
  obtain ⟨hl, hm⟩ : ps.length ≤ pc ∧ pc ≤ 9223372036854775807 := hin.plen
  have HM := Lib.hid (show (ps.map PV.name).length = ps.length from List.length_map _)
  clear hin hr
  show Calls _ _ #[.agg #[.string nm, .slice pa ps.length pc, .slice ka ks.length kc], .string s] _ _
  go_enter Try.func20, Try.ntmps20
  go_wp2_with fail
  go_loopw [11] (fun i wr => ∃ k : Nat, k ≤ ps.length ∧ i = .int .i64 k ∧ Missed (ps.map PV.name) s k ∧ Below w.heap.size w wr) (fun i _ => ps.length - (intOf i).toNat)
  case atStart => exact ⟨0, Nat.zero_le _, rfl, Missed.zero _ _, (Below.refl _ _).alloc (Nat.le_refl _) _⟩
  case round =>
    obtain ⟨k, hk, rfl, hmiss, hb⟩ := hrel
    have HA := Lib.hid hmiss
    have HB := Lib.hid hb
    clear hmiss hb
    by_cases hlt : k < ps.length
    · obtain ⟨b, o, e, hb, c0, c1⟩ := (HI.out.under HB.out).pcell (i := k) hlt
      obtain rfl : pa = _ := e
      replace c0 : _ = some (Value.string ps[k].name) := c0
      replace c1 : _ = some (Value.slice ps[k].addr ps[k].zs.length ps[k].cap) := c1
      have hxm : Hid ((ps.map PV.name)[k]'(by rw [HM.out]; exact hlt) = ps[k].name) := List.getElem_map _
      by_cases hxs : ps[k].name = s
      · have heq : (ps[k].name.toList == s.toList) = true := by rw [hxs]; simp
        have HX := Lib.hid hxs
        clear hxs
        obtain rfl : r = k := by rw [HR.out]; exact HA.out.hit _ (hxm.out.trans HX.out)
        have HV := Lib.hid (HI.out.prop (List.getElem_mem hlt))
        have HB2 := Lib.hid (HB.out.alloc HB.out.size (.cells #[Value.string ps[k].name, Value.slice ps[k].addr ps[k].zs.length ps[k].cap] 70))
        go_wp2_with fail
        refine (bclone_any ps[k].addr ps[k].zs.length ps[k].cap ps[k].zs _ ((HV.out.2.1.below HB2.out).more HB2.out.size) HV.out.1.2).mono ?_
        rintro e w' ⟨v', rfl, hown, hb'⟩
        obtain ⟨A, c, rfl, hsh, hc1, hc2⟩ := owned_shows hown HV.out.2.1.2.1
        have HS := Lib.hid (And.intro hsh (And.intro hc1 hc2))
        have HB3 := Lib.hid (HB2.out.trans (hb'.mono HB2.out.size))
        clear hown hsh hb' hc1 hc2
        go_wp2
        go_ret2
        refine ⟨A, c, ps[k].zs, ?_, HS.out, .inr ⟨k, hlt, rfl, rfl⟩, HB3.out⟩
        congr 3
      · have hne := str_ne hxs
        have HF := Lib.hid (HA.out.succ (by rw [HM.out]; exact hlt) (by rw [hxm.out]; exact hxs))
        clear hxs
        go_wp2
        go_roundw
        case rel => exact ⟨k + 1, by omega, by go_num, HF, HB.out.alloc HB.out.size _⟩
        case measure => simp [intOf]; omega
    · obtain rfl : r = -1 := by rw [HR.out]; exact HA.out.all (by rw [HM.out]; exact hlt)
      go_wp2
      go_ret2
      exact ⟨none, 0, [], rfl, ⟨Shows.nil _ _, Nat.le_refl _, by omega⟩, .inl ⟨by omega, rfl⟩, HB.out⟩

theorem find_off (n : Nd) (s : ByteArray) (w : World) (hin : n.In w w.heap.size) (h : idxOf (n.props.map PV.name) s < 0) :
    Calls Try.prog 20 #[n.val, .string s] w fun e w' => (∃ A c, e = .returned (.tuple #[.slice A 0 c, .bool false]) ∧ c ≤ 9223372036854775807) ∧ Below w.heap.size w w' :=
  (findc_any n s w hin _ rfl).mono fun e w' ⟨A, c, zs, he, hs, hw, hb⟩ => by
    rcases hw with ⟨_, rfl⟩ | ⟨k, _, e, _⟩
    · exact ⟨⟨A, c, by rw [he, decide_eq_false (by omega)]; rfl, hs.2.2⟩, hb⟩
    · omega
theorem find_on (n : Nd) (s : ByteArray) (w : World) (hin : n.In w w.heap.size) (k : Nat) (hk : k < n.props.length) (h : idxOf (n.props.map PV.name) s = (k : Int)) (zs : List Int) (hz : n.props[k].zs = zs) :
    Calls Try.prog 20 #[n.val, .string s] w fun e w' => (∃ A c, e = .returned (.tuple #[.slice A zs.length c, .bool true]) ∧ Shows w' w'.heap.size A zs.length zs ∧ zs.length ≤ c ∧ c ≤ 9223372036854775807) ∧ Below w.heap.size w w' :=
  (findc_any n s w hin _ rfl).mono fun e w' ⟨A, c, zs', he, hs, hw, hb⟩ => by
    rcases hw with ⟨h0, _⟩ | ⟨j, hj, e, h1⟩
    · omega
    · obtain rfl : j = k := by omega
      obtain rfl : zs' = zs := h1.trans hz
      exact ⟨⟨A, c, by rw [he, decide_eq_true (by omega)], hs⟩, hb⟩
end Go.Proofs.Ytgogkcmdcfcikaa

/-! Layer 7: the program's One. -/
namespace Go.Proofs.Ytgogkcmdcfcikaa
open Go.RowKit
set_option linter.unusedVariables false
set_option linter.unusedSimpArgs false

set_option maxRecDepth 20000 in
set_option maxHeartbeats 4000000 in
theorem oneOK : OneOK := by
  intro n s w hin hs
  have HB := Lib.hid ((Below.refl w.heap.size w).alloc (Nat.le_refl _) (.cells #[Value.string n.name, n.pv, n.kv] 25))
  have HI := Lib.hid (fun o => Nd.In.more ((Below.refl w.heap.size w).alloc (Nat.le_refl _) o).size (hin.under ((Below.refl w.heap.size w).alloc (Nat.le_refl _) o)))
  rcases idx_or (n.props.map PV.name) s with h | ⟨k, h1, h2, _⟩
  · have CF := Lib.hid (fun o => find_off n s (w.alloc o) (HI.out o) (by omega))
    have HO : Hid (oneV n s = (0, false, 0)) := Lib.hid (by rw [oneV, find_none h])
    clear hin h HI
    obtain ⟨nm, pa, pc, ps, ka, kc, ks⟩ := n
    rw [HO.out]
    simp only [Nd.val, Nd.pv, Nd.kv, Nd.name, Nd.pa, Nd.pc, Nd.props, Nd.ka, Nd.kc, Nd.kids] at CF HB ⊢
    go_enter Try.func29, Try.ntmps29
    go_wp2_with fail
    refine (CF.out _).mono ?_
    rintro e w1 ⟨⟨A1, c1, rfl, _⟩, hb⟩
    have HB1 := Lib.hid (HB.out.trans (hb.mono HB.out.size))
    clear hb
    go_wp2
    go_ret3
    exact ⟨rfl, HB1.out⟩
  · rw [List.length_map] at h1
    obtain ⟨zs, hzs⟩ : ∃ zs, n.props[k].zs = zs := ⟨_, rfl⟩
    have CF := fun o => find_on n s (w.alloc o) (HI.out o) k h1 h2 zs hzs
    have HO : Hid (oneV n s = if zs.length = 4 then (numTo zs 0 4, true, 0) else (0, false, 4)) := Lib.hid (by rw [oneV, find_at h1 h2, ← hzs])
    have hN : zs.length ≤ 140737488351232 := by rw [← hzs]; exact (hin.prop (List.getElem_mem h1)).1.2
    have HC := Lib.hid (fun A c W (hW : Shows W W.heap.size A zs.length zs) h1 h2 => cells_any A zs.length c zs W hW (by omega) h1 h2)
    obtain ⟨O, hO⟩ : ∃ O, oneV n s = O := ⟨_, rfl⟩
    rw [hO] at HO ⊢
    obtain ⟨N, hNe⟩ : ∃ N, zs.length = N := ⟨_, rfl⟩
    rw [hNe] at HO HC CF hN
    have HCF := Lib.hid CF
    have HNN := Lib.hid hNe
    clear hin HI hO hNe CF hzs h1 h2
    obtain ⟨nm, pa, pc, ps, ka, kc, ks⟩ := n
    simp only [Nd.val, Nd.pv, Nd.kv, Nd.name, Nd.pa, Nd.pc, Nd.props, Nd.ka, Nd.kc, Nd.kids] at HCF HB ⊢
    go_enter Try.func29, Try.ntmps29
    go_wp2_with fail
    refine (HCF.out _).mono ?_
    rintro e w1 ⟨⟨A1, c1, rfl, hsh, hl1, hl2⟩, hb⟩
    have HB1 := Lib.hid (HB.out.trans (hb.mono HB.out.size))
    have CC := HC.out A1 c1 w1 hsh hl1 hl2
    by_cases h4 : N % 4 = 0
    · have hE : cellsE zs = 0 := by rw [cellsE, if_pos (by rw [HNN.out]; exact h4)]
      obtain ⟨hUL, hU⟩ := u32s_cells (zs := zs) (by rw [HNN.out]; exact h4) rfl
      rw [HNN.out] at hUL hU
      obtain ⟨M, hM⟩ : ∃ M, N / 4 = M := ⟨_, rfl⟩
      rw [hM] at hUL hU
      unfold RowOut at CC
      rw [hE, hUL] at CC
      have HU := Lib.hid hU
      generalize u32s (cellsL zs) = U at CC HU
      have HCC := Lib.hid CC
      clear hb hsh CC hE hUL hU
      go_wp2_with fail
      refine HCC.out.mono ?_
      rintro e w2 ⟨⟨A, c, rfl, hcel, hl3, hl4⟩, hb⟩
      have HB2 := Lib.hid (HB1.out.trans (hb.mono HB1.out.size))
      clear hb
      by_cases h1 : M = 1
      · subst h1
        obtain ⟨bc, oc, rfl, _, hc0⟩ := hcel.2 (by omega)
        have d0 := hc0 0 (by omega)
        rw [Nat.add_zero, HU.out 0 (by omega)] at d0
        obtain ⟨v, hv⟩ : ∃ v, numTo zs 0 4 = v := ⟨_, rfl⟩
        have HO2 : Hid (O = (v, true, 0)) := Lib.hid (by rw [HO.out, if_pos (by omega), hv])
        rw [Nat.mul_zero, hv] at d0
        clear hcel hc0 hv hM h4 HCC HO
        go_wp2
        go_ret3
        exact ⟨by rw [HO2.out]; rfl, HB2.out⟩
      · have k1 : ((M : Int) != 1) = true := by rw [bne_iff_ne]; omega
        have HO2 : Hid (O = (0, false, 4)) := Lib.hid (by rw [HO.out, if_neg (by omega)])
        clear hcel hM h4 h1 HCC HO
        go_wp2
        go_ret3
        exact ⟨by rw [HO2.out]; rfl, HB2.out⟩
    · have hE : cellsE zs = 4 := by rw [cellsE, if_neg (by rw [HNN.out]; exact h4)]
      have hUL : u32s (cellsL zs) = [] := by rw [cellsL, if_neg (by rw [HNN.out]; exact h4)]; rfl
      unfold RowOut at CC
      rw [hE, hUL] at CC
      have HCC : Hid (Calls Try.prog 21 #[.slice A1 N c1] w1 fun e w' => (∃ A c, e = .returned (.tuple #[.slice A 0 c, .int .i64 4]) ∧ Cel w' w'.heap.size A 0 [] ∧ 0 ≤ c ∧ c ≤ 9223372036854775807) ∧ Below w1.heap.size w1 w') := Lib.hid CC
      have HO2 : Hid (O = (0, false, 4)) := Lib.hid (by rw [HO.out, if_neg (by omega)])
      clear hb hsh CC hE hUL h4 HO
      go_wp2_with fail
      refine HCC.out.mono ?_
      rintro e w2 ⟨⟨A, c, rfl, hcel, hl3, hl4⟩, hb⟩
      have HB2 := Lib.hid (HB1.out.trans (hb.mono HB1.out.size))
      clear hb hcel
      go_wp2
      go_ret3
      exact ⟨by rw [HO2.out]; rfl, HB2.out⟩
end Go.Proofs.Ytgogkcmdcfcikaa

/-! Layer 12: the program's count, Counts; the law's first question. -/
namespace Go.Proofs.Ytgogkcmdcfcikaa
open Go.RowKit
set_option linter.unusedVariables false
set_option linter.unusedSimpArgs false

/-- What the program's count answers. -/
def cntVal (v : Int) : Value := if 0 ≤ v then .tuple #[.int .i64 v, .int .i64 0] else .tuple #[.int .i64 0, .int .i64 10]

set_option maxHeartbeats 2000000 in
theorem cnt_any (n : Nd) (s : ByteArray) (d : Int) (w : World) (hin : n.In w w.heap.size) (hs : s.size ≤ 140737488351232) (hd : 0 ≤ d) :
    Calls Try.prog 18 #[n.val, .string s, .int .i64 d] w fun e w' => e = .returned (cntVal (cntV n s d)) ∧ Below w.heap.size w w' := by
  have C := Lib.hid (fun W hW => oneOK n s W hW hs)
  have hb := oneV_bound hin s
  have HV : Hid (cntV n s d = if (oneV n s).2.2 ≠ 0 ∨ 2 < (oneV n s).1 then -1 else if (oneV n s).2.1 = false then d else (oneV n s).1) := Lib.hid rfl
  have HI := Lib.hid hin
  have HD := Lib.hid hd
  obtain ⟨O, hO⟩ : ∃ O, oneV n s = O := ⟨_, rfl⟩
  rw [hO] at C hb HV
  obtain ⟨v, ok, E⟩ := O
  obtain ⟨r, hr⟩ : ∃ r, cntVal (cntV n s d) = r := ⟨_, rfl⟩
  have HRR := Lib.hid hr
  rw [hr]
  obtain ⟨v0, v1⟩ : 0 ≤ v ∧ v ≤ 4294967295 := hb
  replace HV : Hid (cntV n s d = if E ≠ 0 ∨ 2 < v then -1 else if ok = false then d else v) := HV
  clear hin hs hd hO hr
  obtain ⟨nm, pa, pc, ps, ka, kc, ks⟩ := n
  simp only [Nd.val, Nd.pv, Nd.kv, Nd.name, Nd.pa, Nd.pc, Nd.props, Nd.ka, Nd.kc, Nd.kids, oneVal] at C ⊢
  have HB := Lib.hid ((Below.refl w.heap.size w).alloc (Nat.le_refl _) (.cells #[Value.string nm, .slice pa ps.length pc, .slice ka ks.length kc] 25))
  by_cases hE : E = 0
  · subst hE
    by_cases hv : 2 < v
    · have q1 : decide ((2 : Int) < v) = true := decide_eq_true hv
      have HR : Hid (r = .tuple #[.int .i64 0, .int .i64 10]) := Lib.hid (by rw [← HRR.out, HV.out, if_pos (.inr hv)]; rfl)
      clear hv
      go_enter Try.func18, Try.ntmps18
      go_wp2_with fail
      refine (C.out _ (Nd.In.more HB.out.size (HI.out.under HB.out))).mono ?_
      rintro e w1 ⟨rfl, hb⟩
      have HB1 := Lib.hid (HB.out.trans (hb.mono HB.out.size))
      clear hb
      go_wp2
      go_ret2
      exact ⟨by rw [HR.out]; rfl, HB1.out⟩
    · have q1 : decide ((2 : Int) < v) = false := decide_eq_false hv
      cases ok
      · have HR : Hid (r = .tuple #[.int .i64 d, .int .i64 0]) := Lib.hid (by rw [← HRR.out, HV.out, if_neg (by simp; omega), if_pos rfl, cntVal, if_pos HD.out])
        clear hv
        go_enter Try.func18, Try.ntmps18
        go_wp2_with fail
        refine (C.out _ (Nd.In.more HB.out.size (HI.out.under HB.out))).mono ?_
        rintro e w1 ⟨rfl, hb⟩
        have HB1 := Lib.hid (HB.out.trans (hb.mono HB.out.size))
        clear hb
        go_wp2
        go_ret2
        exact ⟨by rw [HR.out]; rfl, HB1.out⟩
      · have HR : Hid (r = .tuple #[.int .i64 v, .int .i64 0]) := Lib.hid (by rw [← HRR.out, HV.out, if_neg (by simp; omega), if_neg (by simp), cntVal, if_pos v0])
        have hcv : IntKind.i64.wrap v = v := by rw [IntKind.wrap_i64]; omega
        clear hv
        go_enter Try.func18, Try.ntmps18
        go_wp2_with fail
        refine (C.out _ (Nd.In.more HB.out.size (HI.out.under HB.out))).mono ?_
        rintro e w1 ⟨rfl, hb⟩
        have HB1 := Lib.hid (HB.out.trans (hb.mono HB.out.size))
        clear hb
        go_wp2
        go_ret2
        exact ⟨by rw [HR.out]; rfl, HB1.out⟩
  · have q0 : (E != 0) = true := by rw [bne_iff_ne]; exact hE
    have HR : Hid (r = .tuple #[.int .i64 0, .int .i64 10]) := Lib.hid (by rw [← HRR.out, HV.out, if_pos (.inl hE)]; rfl)
    clear hE
    go_enter Try.func18, Try.ntmps18
    go_wp2_with fail
    refine (C.out _ (Nd.In.more HB.out.size (HI.out.under HB.out))).mono ?_
    rintro e w1 ⟨rfl, hb⟩
    have HB1 := Lib.hid (HB.out.trans (hb.mono HB.out.size))
    clear hb
    go_wp2
    go_ret2
    exact ⟨by rw [HR.out]; rfl, HB1.out⟩

set_option maxRecDepth 20000 in
set_option maxHeartbeats 4000000 in
theorem countsOK : CountsOK := by
  intro n w hin
  have CA := Lib.hid (fun W hW => cnt_any n nmAddr 2 W hW (by decide) (by decide))
  have CS := Lib.hid (fun W hW => cnt_any n nmSize 1 W hW (by decide) (by decide))
  have HI := Lib.hid hin
  have HOK : Hid (okCounts n = (decide (0 ≤ cntV n nmAddr 2) && decide (0 ≤ cntV n nmSize 1))) := Lib.hid rfl
  obtain ⟨ok, hok⟩ : ∃ ok, okCounts n = ok := ⟨_, rfl⟩
  rw [hok] at HOK ⊢
  obtain ⟨va, hva⟩ : ∃ v, cntV n nmAddr 2 = v := ⟨_, rfl⟩
  obtain ⟨vs, hvs⟩ : ∃ v, cntV n nmSize 1 = v := ⟨_, rfl⟩
  rw [hva] at CA HOK ⊢
  rw [hvs] at CS HOK ⊢
  clear hin hva hvs hok
  obtain ⟨nm, pa, pc, ps, ka, kc, ks⟩ := n
  simp only [Nd.val, Nd.pv, Nd.kv, Nd.name, Nd.pa, Nd.pc, Nd.props, Nd.ka, Nd.kc, Nd.kids, nmAddr, nmSize] at CA CS ⊢
  have HB := Lib.hid ((Below.refl w.heap.size w).alloc (Nat.le_refl _) (.cells #[Value.string nm, .slice pa ps.length pc, .slice ka ks.length kc] 25))
  have BX : Hid (∀ W, Below (w.heap.size + 1) (w.alloc (.cells #[Value.string nm, .slice pa ps.length pc, .slice ka ks.length kc] 25)) W → (W.cell? ⟨w.heap.size, 0, none⟩ = some (.string nm) ∧ W.cell? ⟨w.heap.size, 1, none⟩ = some (.slice pa ps.length pc) ∧ W.cell? ⟨w.heap.size, 2, none⟩ = some (.slice ka ks.length kc))) := Lib.hid (fun W h =>
    ⟨(h.cell (Nat.lt_succ_self _)).trans (World.cell?_alloc_new _ _ _ _), (h.cell (Nat.lt_succ_self _)).trans (World.cell?_alloc_new _ _ _ _), (h.cell (Nat.lt_succ_self _)).trans (World.cell?_alloc_new _ _ _ _)⟩)
  have IN := Lib.hid (fun W (h : Below w.heap.size w W) => Nd.In.more h.size (HI.out.under h))
  by_cases ha : 0 ≤ va
  · have EA : cntVal va = .tuple #[.int .i64 va, .int .i64 0] := if_pos ha
    rw [EA] at CA
    have HOK2 : Hid (ok = decide (0 ≤ vs)) := Lib.hid (by rw [HOK.out, decide_eq_true ha, Bool.true_and])
    clear EA ha HOK
    go_enter Try.func9, Try.ntmps9
    go_wp2_with fail
    refine (CA.out _ (IN.out _ HB.out)).mono ?_
    rintro e w1 ⟨rfl, hb⟩
    have HB1 := Lib.hid (HB.out.trans (hb.mono HB.out.size))
    obtain ⟨d0, d1, d2⟩ := BX.out _ (hb.mono (by simp))
    clear hb CA
    by_cases hs : 0 ≤ vs
    · have ES : cntVal vs = .tuple #[.int .i64 vs, .int .i64 0] := if_pos hs
      rw [ES] at CS
      have HOK3 : Hid (ok = true) := Lib.hid (by rw [HOK2.out, decide_eq_true hs])
      clear ES hs HOK2
      go_wp2_with fail
      refine (CS.out _ (IN.out _ HB1.out)).mono ?_
      rintro e w2 ⟨rfl, hb⟩
      have HB2 := Lib.hid (HB1.out.trans (hb.mono HB1.out.size))
      clear hb CS d0 d1 d2
      go_wp2
      go_ret3
      exact ⟨fun _ => rfl, fun h => (by rw [HOK3.out] at h; cases h), HB2.out⟩
    · have ES : cntVal vs = .tuple #[.int .i64 0, .int .i64 10] := if_neg hs
      rw [ES] at CS
      have HOK3 : Hid (ok = false) := Lib.hid (by rw [HOK2.out, decide_eq_false hs])
      clear ES hs HOK2
      go_wp2_with fail
      refine (CS.out _ (IN.out _ HB1.out)).mono ?_
      rintro e w2 ⟨rfl, hb⟩
      have HB2 := Lib.hid (HB1.out.trans (hb.mono HB1.out.size))
      clear hb CS d0 d1 d2
      go_wp2
      go_ret3
      exact ⟨fun h => (by rw [HOK3.out] at h; cases h), fun _ => rfl, HB2.out⟩
  · have EA : cntVal va = .tuple #[.int .i64 0, .int .i64 10] := if_neg ha
    rw [EA] at CA
    have HOK3 : Hid (ok = false) := Lib.hid (by rw [HOK.out, decide_eq_false ha, Bool.false_and])
    clear EA ha HOK
    go_enter Try.func9, Try.ntmps9
    go_wp2_with fail
    refine (CA.out _ (IN.out _ HB.out)).mono ?_
    rintro e w1 ⟨rfl, hb⟩
    have HB1 := Lib.hid (HB.out.trans (hb.mono HB.out.size))
    clear hb CA
    go_wp2
    go_ret3
    exact ⟨fun h => (by rw [HOK3.out] at h; cases h), fun _ => rfl, HB1.out⟩

theorem nd0_in (w : World) (B : Nat) : (Nd.mk ⟨#[]⟩ none 0 [] none 0 []).In w B :=
  .mk _ ⟨by decide, by simp [Nd.props], by simp [Nd.kids]⟩ (by simp [Nd.props, Nd.pc]) (by simp [Nd.pc]) (by simp [Nd.kids, Nd.kc]) (by simp [Nd.kc]) (fun h => absurd h (by simp [Nd.props])) (fun p h => by simp [Nd.props] at h) (fun h => absurd h (by simp [Nd.kids])) (fun p h => by simp [Nd.kids] at h)

set_option maxHeartbeats 2000000 in
theorem awake12 : Awake12 := by
  intro w
  have C := Lib.hid (fun W (h : (Nd.mk ⟨#[]⟩ none 0 [] none 0 []).In W W.heap.size) => countsOK (Nd.mk ⟨#[]⟩ none 0 [] none 0 []) W h)
  replace C : Hid (∀ W : World, Calls Try.prog 9 #[.agg #[.string ⟨#[]⟩, .slice none 0 0, .slice none 0 0]] W fun e w' => e = .returned (.tuple #[.int .i64 2, .int .i64 1, .int .i64 0]) ∧ Below W.heap.size W w') := Lib.hid (fun W => (C.out W (nd0_in _ _)).mono fun e w' h => ⟨h.1 (by decide), h.2.2⟩)
  go_enter Try.func7, Try.ntmps7
  go_wp2_with fail
  refine (C.out _).mono ?_
  rintro e w1 ⟨rfl, hb⟩
  have HB := Lib.hid hb
  clear hb
  go_wp2
  go_ret
  exact ⟨rfl, HB.out⟩
end Go.Proofs.Ytgogkcmdcfcikaa

/-! Layer 3, a tree that came in: how heavy it is, by the bulk of what it reads as. -/
namespace Go.Proofs.Ytgogkcmdcfcikaa
open Go.RowKit Go.ChangeShapes Go.WideShapes Go.Deep
set_option linter.unusedVariables false
set_option linter.unusedSimpArgs false

theorem bulk_one {H : Type} (d : DataW H) : 1 ≤ Rows.uptoBulk d := by
  cases d with
  | lit l => cases l <;> simp [Rows.uptoBulk]
  | nil => simp [Rows.uptoBulk]
  | ptr d => simp [Rows.uptoBulk]
  | slice elems spare => simp [Rows.uptoBulk]
  | agg parts => simp [Rows.uptoBulk]
  | iface t d => simp [Rows.uptoBulk]
  | map entries => simp [Rows.uptoBulk]
  | held h => simp [Rows.uptoBulk]
theorem bulk_length {H : Type} (l : List (DataW H)) : l.length ≤ Rows.uptoBulkAll l := by
  induction l with
  | nil => simp [Rows.uptoBulkAll]
  | cons x r ih => have := bulk_one x; simp only [Rows.uptoBulkAll, List.length_cons]; omega
theorem sixteen {α : Type} : ∀ l : List α, (l.map (fun _ => 16)).sum = 16 * l.length
  | [] => rfl
  | x :: l => by rw [List.map_cons, List.sum_cons, sixteen l, List.length_cons]; omega
theorem bulk_sum {H : Type} {α : Type} (g : α → Nat) (F : Nat → α) (D : Nat → DataW H) : ∀ l : List Nat, (∀ i ∈ l, g (F i) ≤ 16 * Rows.uptoBulk (D i)) → ((l.map F).map g).sum ≤ 16 * Rows.uptoBulkAll (l.map D)
  | [], _ => by simp
  | i :: l, h => by
    have h1 := h i (by simp)
    have h2 := bulk_sum g F D l (fun j hj => h j (by simp [hj]))
    simp only [List.map_cons, List.sum_cons, Rows.uptoBulkAll]
    omega

section
variable {H : Type} {enc : TypeId × Value → H} {w : World} {base : Nat} {spare : Nat → Bool} {held : Bool}

set_option maxRecDepth 100000 in
theorem bulk_pv {fuel : Nat} {cs : List Value} {x : DataW H × List MemPlace} (h : DataW.trod enc Try.prog w base spare held fuel 70 cs = some x) (hw : ∀ z ∈ DataW.weights Try.prog 70 x.1, z ≤ 140737488351232) :
    ∃ p : PV, cs = [.string p.name, p.val] ∧ p.In w w.heap.size ∧ heftP p ≤ 16 * Rows.uptoBulk x.1 := by
  obtain ⟨y0, y1, n, rfl, hl, h0, h1⟩ := trod_struct2 Try.underlying70 h
  rw [Try.cellsProp] at hl
  obtain ⟨c0, c1, rfl⟩ : ∃ c0 c1, cs = [c0, c1] := by
    exact two_of hl
  rw [Try.cellsStr] at h0
  rw [Try.cellsBytes] at h1
  obtain ⟨s, e0, rfl, hs⟩ := DataW.trod_string Try.underlying9 h0
  simp only [List.drop_zero, List.take_succ_cons, List.take_zero, List.cons.injEq, and_true] at e0
  subst e0
  have hs' : s.size ≤ 140737488351232 := hw s.size (by
    simp only [DataW.weights, DataW.weightsEach, Try.underlying70, List.map_cons, List.map_nil]
    exact List.mem_append_left _ (by simp))
  rcases open_ints Try.underlying58 Try.underlying5 Try.cellsByte h1 with ⟨e1, _⟩ | ⟨a, len, cap, zs, e1, hb, hlc, hm, hz, rfl, hcell, hwf⟩
  · simp only [List.drop_succ_cons, List.drop_zero, List.take_succ_cons, List.take_zero, List.cons.injEq, and_true] at e1
    subst e1
    exact ⟨⟨s, none, 0, []⟩, rfl, ⟨⟨hs', by simp⟩, Shows.nil _ _, Nat.le_refl _, by simp⟩, by (have e : s.data.size = s.size := rfl; simp only [heftP, Rows.uptoBulk, Rows.uptoBulkAll, List.length_nil, Array.length_toList]; omega)⟩
  · simp only [List.drop_succ_cons, List.drop_zero, List.take_succ_cons, List.take_zero, List.cons.injEq, and_true] at e1
    subst e1
    have hle : len ≤ zs.length := by rw [hz]; split <;> omega
    have hl' : (zs.take len).length = len := by rw [List.length_take]; omega
    have hb' : zs.length * Try.prog.bytesOf 5 ≤ 140737488351232 := hw _ (by
      simp only [DataW.weights, DataW.weightsEach, Try.underlying70, Try.underlying58, List.map_cons, List.map_nil]
      refine List.mem_append_right _ (List.mem_append_left _ (List.mem_cons.2 (.inl ?_)))
      simp only [lits, List.length_map, List.length_take, List.length_drop]
      congr 1
      omega)
    have e1 : Try.prog.bytesOf 5 = 1 := by kernel_rfl
    rw [e1] at hb'
    refine ⟨⟨s, some a, cap, zs.take len⟩, by rw [PV.val, hl'], ⟨⟨hs', by simp only [hl']; omega⟩, ?_, by rw [hl']; exact hlc, hm⟩, by (have h9 := bulk_length (lits (H := H) .u8 (zs.take len)); have h8 : (lits (H := H) .u8 (zs.take len)).length = len := (by simp only [lits, List.length_map]; exact hl'); have e : s.data.size = s.size := rfl; simp only [heftP, Rows.uptoBulk, Rows.uptoBulkAll, Array.length_toList, hl']; omega)⟩
    refine ⟨rfl, fun z hz' => ?_, fun hn => ?_⟩
    · have h2 := bounds_u8 (hwf z (List.mem_of_mem_take hz'))
      omega
    · rw [hl'] at hn
      obtain ⟨b, o, spot⟩ := a
      have hc := hcell 0 (by omega)
      have hspot : spot = none := by simpa [Addr.add] using World.cell?_spot hc
      subst hspot
      refine ⟨b, o, rfl, ?_, fun i hi => ?_⟩
      · rw [addr_add] at hc
        exact World.block_lt_of_cell? w _ hc
      · rw [hl'] at hi
        have hci := hcell i (by omega)
        rw [addr_add] at hci
        rw [hci]
        refine congrArg (fun z => some (Value.int .u8 z)) ?_
        simp [List.getD, List.getElem?_take_of_lt hi]

set_option maxRecDepth 100000 in
theorem bulk_row {α : Type} [Inhabited α] {t e : TypeId} {c : Nat} (f : α → List Value) (good : α → Prop) (g : α → Nat) {fuel : Nat} {cs : List Value} {x : DataW H × List MemPlace} (ht : Try.prog.underlying t = some (.slice e)) (hc : Try.prog.cellsOf e = c) (hc0 : 0 < c)
    (hlen : ∀ p, (f p).length = c) (each : ∀ (n : Nat) (cs : List Value) (y : DataW H × List MemPlace), SizeOf.sizeOf y.1 < SizeOf.sizeOf x.1 → DataW.trod enc Try.prog w base spare held n e cs = some y → (∀ z ∈ DataW.weights Try.prog e y.1, z ≤ 140737488351232) → ∃ p : α, cs = f p ∧ good p ∧ g p ≤ 16 * Rows.uptoBulk y.1)
    (h : DataW.trod enc Try.prog w base spare held fuel t cs = some x) (hw : ∀ z ∈ DataW.weights Try.prog t x.1, z ≤ 140737488351232) :
    ∃ (a : Option Addr) (cap : Nat) (l : List α), cs = [.slice a l.length cap] ∧ (l.map g).sum + 16 ≤ 16 * Rows.uptoBulk x.1 ∧ l.length ≤ cap ∧ cap ≤ 9223372036854775807 ∧ l.length * Try.prog.bytesOf e ≤ 140737488351232 ∧ (∀ p ∈ l, good p) ∧
      (0 < l.length → ∃ b o, a = some ⟨b, o, none⟩ ∧ b < w.heap.size ∧ ∀ i (h : i < l.length), ∀ j, j < c → w.cell? ⟨b, o + i * c + j, none⟩ = (f l[i])[j]?) := by
  rcases open_slice ht h with ⟨rfl, _⟩ | ⟨a, len, cap, m, n, D, Pl, rfl, hb, hl, hm, hmm, rfl, hi⟩
  · exact ⟨none, 0, [], rfl, by (have := bulk_one x.1; simp only [List.map_nil, List.sum_nil]; omega), Nat.le_refl _, by simp, by simp, by simp, fun h => absurd h (by simp)⟩
  · have hlm : len ≤ m := by rw [hmm]; split <;> omega
    have sz : ∀ i, i < len → SizeOf.sizeOf (D i) < SizeOf.sizeOf (DataW.slice ((List.range len).map D) ((List.range (m - len)).map fun j => D (len + j))) := fun i hi' => by
      have hmem : D i ∈ (List.range len).map D := List.mem_map.2 ⟨i, List.mem_range.2 hi', rfl⟩
      have := List.sizeOf_lt_of_mem hmem
      simp only [DataW.slice.sizeOf_spec]
      omega
    have hw1 : (len + (m - len)) * Try.prog.bytesOf e ≤ 140737488351232 := hw _ (by
      simp only [DataW.weights, ht]
      refine List.mem_cons.2 (.inl ?_)
      simp)
    have hw2 : len * Try.prog.bytesOf e ≤ 140737488351232 := Nat.le_trans (Nat.mul_le_mul_right _ (by omega)) hw1
    have hwi : ∀ i, i < len → ∀ z ∈ DataW.weights Try.prog e (D i), z ≤ 140737488351232 := fun i hi' z hz => hw z (by
      simp only [DataW.weights, ht]
      exact List.mem_cons.2 (.inr (List.mem_append_left _ (weights_mem (List.mem_map.2 ⟨i, List.mem_range.2 hi', rfl⟩) hz))))
    obtain ⟨F, hF⟩ := choose_lt (α := α) (n := len) (p := fun i p => w.cells? base (a.add (i * Try.prog.cellsOf e)) (Try.prog.cellsOf e) = some (f p) ∧ good p ∧ g p ≤ 16 * Rows.uptoBulk (D i)) (fun i hi' => by
      obtain ⟨cs', h1, h2⟩ := hi i (by omega)
      obtain ⟨p, rfl, hg, hg2⟩ := each n cs' _ (sz i hi') h2 (hwi i hi')
      exact ⟨p, h1, hg, hg2⟩)
    refine ⟨some a, cap, (List.range len).map F, by simp, by have h7 := bulk_sum g F D (List.range len) (fun i hi' => (hF i (List.mem_range.1 hi')).2.2); simp only [Rows.uptoBulk]; omega, by simpa using hl, hm, by simpa using hw2, ?_, fun h0 => ?_⟩
    · intro p hp
      obtain ⟨i, hi', rfl⟩ := List.mem_map.1 hp
      exact (hF i (List.mem_range.1 hi')).2.1
    · simp only [List.length_map, List.length_range] at h0 ⊢
      obtain ⟨b, o, spot⟩ := a
      have cell : ∀ i, i < len → ∀ j, j < c → w.cell? ((⟨b, o, spot⟩ : Addr).add (i * c + j)) = (f (F i))[j]? := fun i hi' j hj => by
        obtain ⟨_, _, h3⟩ := World.cells?_some (hF i hi').1
        rw [hc] at h3
        rw [← Go.Deep.add_add]
        exact h3 j hj
      have c0 := cell 0 h0 0 hc0
      rw [List.getElem?_eq_getElem (by rw [hlen]; exact hc0)] at c0
      have hspot : spot = none := by simpa [Addr.add] using World.cell?_spot c0
      subst hspot
      refine ⟨b, o, rfl, World.block_lt_of_cell? w _ (by rw [addr_add] at c0; exact c0), fun i hi' j hj => ?_⟩
      have := cell i hi' j hj
      rw [addr_add, ← Nat.add_assoc] at this
      simpa using this

theorem heftL_sum : ∀ ks : List Nd, heftL ks = (ks.map heftN).sum
  | [] => rfl
  | k :: r => by simp only [heftL, List.map_cons, List.sum_cons, heftL_sum r]

set_option maxRecDepth 100000 in
theorem bulk_nd : ∀ (m fuel : Nat) (cs : List Value) (x : DataW H × List MemPlace), SizeOf.sizeOf x.1 ≤ m → DataW.trod enc Try.prog w base spare held fuel 25 cs = some x →
    (∀ z ∈ DataW.weights Try.prog 25 x.1, z ≤ 140737488351232) → ∃ n : Nd, cs = [.string n.name, n.pv, n.kv] ∧ n.In w w.heap.size ∧ heftN n ≤ 16 * Rows.uptoBulk x.1 := by
  intro m
  induction m with
  | zero => intro fuel cs x hx; exfalso; obtain ⟨d, pl⟩ := x; cases d <;> simp at hx
  | succ m ih =>
    intro fuel cs x hx h hw
    obtain ⟨y0, y1, y2, n, rfl, hl, h0, h1, h2⟩ := trod_struct3 Try.underlying25 h
    rw [Try.cellsNode] at hl
    obtain ⟨c0, c1, c2, rfl⟩ : ∃ c0 c1 c2, cs = [c0, c1, c2] := by
      exact three_of hl
    rw [Try.cellsStr] at h0
    rw [Try.cellsProps] at h1
    rw [Try.cellsNodes] at h2
    simp only [List.drop_zero, List.drop_succ_cons, List.take_succ_cons, List.take_zero] at h0 h1 h2
    simp only [DataW.weights, DataW.weightsEach, Try.underlying25, List.map_cons, List.map_nil] at hw
    have hw0 := fun z hz => hw z (List.mem_append_left _ hz)
    have hw1 := fun z hz => hw z (List.mem_append_right _ (List.mem_append_left _ hz))
    have hw2 := fun z hz => hw z (List.mem_append_right _ (List.mem_append_right _ (List.mem_append_left _ hz)))
    obtain ⟨s, e0, rfl, hs⟩ := DataW.trod_string Try.underlying9 h0
    simp only [List.cons.injEq, and_true] at e0
    subst e0
    have hs' : s.size ≤ 140737488351232 := hw0 s.size (by simp [DataW.weights])
    obtain ⟨pa, pc, props, e1, hph, hp1, hp2, hp3, hpg, hprow⟩ := bulk_row (c := 2) (fun p : PV => [.string p.name, p.val]) (fun p => p.In w w.heap.size) heftP Try.underlying22 Try.cellsProp (by omega) (fun _ => rfl) (fun n cs y _ hy hwy => bulk_pv hy hwy) h1 hw1
    obtain ⟨ka, kc, kids, e2, hkh, hk1, hk2, hk3, hkg, hkrow⟩ := bulk_row (c := 3) (fun k : Nd => [.string k.name, k.pv, k.kv]) (fun k => k.In w w.heap.size) heftN Try.underlying23 Try.cellsNode (by omega) (fun _ => rfl)
      (fun n cs y hy hy' hwy => ih n cs y (by simp only [DataW.agg.sizeOf_spec, List.cons.sizeOf_spec] at hx; omega) hy' hwy) h2 hw2
    simp only [List.cons.injEq, and_true] at e1 e2
    subst e1 e2
    rw [Try.bytesProp] at hp3
    rw [Try.bytesNode] at hk3
    refine ⟨.mk s pa pc props ka kc kids, rfl, .mk _ ⟨hs', hp3, hk3⟩ hp1 hp2 hk1 hk2 (fun h0 => ?_) hpg (fun h0 => ?_) hkg, by have e : s.data.size = s.size := rfl; simp only [heftN, heftL_sum, Rows.uptoBulk, Rows.uptoBulkAll, Array.length_toList]; omega⟩
    · obtain ⟨b, o, e, hb, hc⟩ := hprow h0
      exact ⟨b, o, e, hb, fun i hi => ⟨hc i hi 0 (by omega), hc i hi 1 (by omega)⟩⟩
    · obtain ⟨b, o, e, hb, hc⟩ := hkrow h0
      exact ⟨b, o, e, hb, fun i hi => ⟨hc i hi 0 (by omega), hc i hi 1 (by omega), hc i hi 2 (by omega)⟩⟩
set_option maxRecDepth 100000 in
theorem bulk_tr {fuel : Nat} {cs : List Value} {x : DataW H × List MemPlace} (h : DataW.trod enc Try.prog w base spare held fuel 54 cs = some x) (hw : ∀ z ∈ DataW.weights Try.prog 54 x.1, z ≤ 140737488351232) :
    ∃ t : Tr, cs = [.int .u32 t.boot, t.rv, .string t.root.name, t.root.pv, t.root.kv] ∧ t.In w w.heap.size ∧ heftN t.root ≤ 16 * Rows.uptoBulk x.1 ∧ t.rs.length ≤ Rows.uptoBulk x.1 := by
  obtain ⟨y0, y1, y2, n, rfl, hl, h0, h1, h2⟩ := trod_struct3 Try.underlying54 h
  rw [Try.cellsTree] at hl
  obtain ⟨c0, c1, c2, c3, c4, rfl⟩ : ∃ c0 c1 c2 c3 c4, cs = [c0, c1, c2, c3, c4] := by
    exact five_of hl
  rw [Try.cellsU32] at h0
  rw [Try.cellsRess] at h1
  rw [Try.cellsNode] at h2
  simp only [List.drop_zero, List.drop_succ_cons, List.take_succ_cons, List.take_zero] at h0 h1 h2
  simp only [DataW.weights, DataW.weightsEach, Try.underlying54, List.map_cons, List.map_nil] at hw
  have hw1 := fun z hz => hw z (List.mem_append_right _ (List.mem_append_left _ hz))
  have hw2 := fun z hz => hw z (List.mem_append_right _ (List.mem_append_right _ (List.mem_append_left _ hz)))
  obtain ⟨boot, e0, _, wb⟩ := DataW.trod_int Try.underlying51 h0
  obtain ⟨ra, rc, rs, e1, hrh, hr1, hr2, hr3, hrg, hrow⟩ := bulk_row (c := 2) (fun r : Int × Int => [.int .u64 r.1, .int .u64 r.2]) (fun r => (0 ≤ r.1 ∧ r.1 ≤ 18446744073709551615) ∧ (0 ≤ r.2 ∧ r.2 ≤ 18446744073709551615)) (fun _ => 16) Try.underlying52 Try.cellsRes (by omega) (fun _ => rfl) (fun n cs y _ hy _ => by obtain ⟨r, h1, h2⟩ := open_res hy; exact ⟨r, h1, h2, by have := bulk_one y.1; omega⟩) h1 hw1
  obtain ⟨root, e2, hin, hroot⟩ := bulk_nd _ n _ _ (Nat.le_refl _) h2 hw2
  simp only [List.cons.injEq, and_true] at e0 e1 e2
  obtain ⟨rfl, rfl, rfl⟩ := e2
  subst e0 e1
  rw [Try.bytesRes] at hr3
  refine ⟨⟨boot, ra, rc, rs, root⟩, rfl, ⟨bounds_u32 wb, ⟨hr1, hr2, hr3⟩, fun h0 => by
    obtain ⟨b, o, e, hb, hc⟩ := hrow h0
    exact ⟨b, o, e, hb, fun i hi => ⟨hc i hi 0 (by omega), hc i hi 1 (by omega)⟩⟩, hrg, hin⟩, ?_, ?_⟩
  · simp only [Rows.uptoBulk, Rows.uptoBulkAll]; omega
  · have e : (rs.map (fun _ => 16)).sum = 16 * rs.length := sixteen rs
    simp only [Rows.uptoBulk, Rows.uptoBulkAll]; omega
end
end Go.Proofs.Ytgogkcmdcfcikaa
