/-
  Layer 3: a tree as it lies in memory; whether there are too many.
-/
import Derived.Test.YtmgokplpkmndoaaGreatTCount
import Derived.Test.YtmgokplpkmndoaaGreatTAlone
import Derived.BigQuiet
namespace Go.Proofs.YtmgokplpkmndoaaGreat
open Go.RowKit Go.ChangeShapes Go.WideShapes Go.Deep
set_option linter.unusedVariables false
set_option linter.unusedSimpArgs false

/-- A tree as it lies: its reserves' slice, and its root. -/
structure Tr where
  boot : Int
  ra : Option Addr
  rc : Nat
  rs : List (Int × Int)
  root : Nd

def Tr.rv (t : Tr) : Value := .slice t.ra t.rs.length t.rc
def Tr.val (t : Tr) : Value := .agg #[.int .u32 t.boot, t.rv, .string t.root.name, t.root.pv, t.root.kv]

/-- The cells of a row of reserves. -/
def RRow (w : World) (B : Nat) (a : Option Addr) (l : List (Int × Int)) : Prop :=
  0 < l.length → ∃ b o, a = some ⟨b, o, none⟩ ∧ b < B ∧ ∀ i (h : i < l.length), w.cell? ⟨b, o + i * 2, none⟩ = some (.int .u64 l[i].1) ∧ w.cell? ⟨b, o + i * 2 + 1, none⟩ = some (.int .u64 l[i].2)

structure Tr.In (w : World) (B : Nat) (t : Tr) : Prop where
  boot : 0 ≤ t.boot ∧ t.boot ≤ 4294967295
  len : t.rs.length ≤ t.rc ∧ t.rc ≤ 9223372036854775807 ∧ t.rs.length * 16 ≤ 140737488351232
  row : RRow w B t.ra t.rs
  nums : ∀ r ∈ t.rs, (0 ≤ r.1 ∧ r.1 ≤ 18446744073709551615) ∧ (0 ≤ r.2 ∧ r.2 ≤ 18446744073709551615)
  root : t.root.In w B

section
variable {w w' : World} {B B' : Nat}
theorem RRow.keep {a : Option Addr} {l : List (Int × Int)} (h : RRow w B a l) (hk : ∀ a : Addr, a.block < B → w'.cell? a = w.cell? a) : RRow w' B a l := fun h0 => by
  obtain ⟨b, o, e, hb, hc⟩ := h h0
  exact ⟨b, o, e, hb, fun i hi => ⟨(hk _ hb).trans (hc i hi).1, (hk _ hb).trans (hc i hi).2⟩⟩
theorem RRow.more {a : Option Addr} {l : List (Int × Int)} (h : RRow w B a l) (hB : B ≤ B') : RRow w B' a l := fun h0 => by
  obtain ⟨b, o, e, hb, hc⟩ := h h0
  exact ⟨b, o, e, by omega, hc⟩
theorem Tr.In.under {t : Tr} (h : t.In w B) (hb : Below B w w') : t.In w' B := ⟨h.boot, h.len, h.row.keep (fun _ hp => hb.cell hp), h.nums, h.root.under hb⟩
theorem Tr.In.more {t : Tr} (h : t.In w B) (hB : B ≤ B') : t.In w B' := ⟨h.boot, h.len, h.row.more hB, h.nums, h.root.more hB⟩
theorem Tr.In.on {t : Tr} (h : t.In w w.heap.size) (hb : Below w.heap.size w w') : t.In w' w'.heap.size := (h.under hb).more hb.size
theorem Tr.In.rcell {t : Tr} (h : t.In w B) {i : Nat} (hi : i < t.rs.length) : ∃ b o, t.ra = some ⟨b, o, none⟩ ∧ b < B ∧ w.cell? ⟨b, o + i * 2, none⟩ = some (.int .u64 t.rs[i].1) ∧ w.cell? ⟨b, o + i * 2 + 1, none⟩ = some (.int .u64 t.rs[i].2) := by
  obtain ⟨b, o, e, hb, hc⟩ := h.row (by omega)
  exact ⟨b, o, e, hb, hc i hi⟩
end

theorem Tryz.cellsRes : Tryz.prog.cellsOf 87 = 2 := by kernel_rfl
theorem Tryz.cellsRess : Tryz.prog.cellsOf 35 = 1 := by kernel_rfl
theorem Tryz.cellsU64 : Tryz.prog.cellsOf 23 = 1 := by kernel_rfl
theorem Tryz.cellsU32 : Tryz.prog.cellsOf 34 = 1 := by kernel_rfl
theorem Tryz.cellsTree : Tryz.prog.cellsOf 37 = 5 := by kernel_rfl
theorem Tryz.bytesRes : Tryz.prog.bytesOf 87 = 16 := by kernel_rfl

section
variable {H : Type} {enc : TypeId × Value → H} {w : World} {base : Nat} {spare : Nat → Bool} {held : Bool}

theorem open_res {fuel : Nat} {cs : List Value} {x : DataW H × List MemPlace} (h : DataW.trod enc Tryz.prog w base spare held fuel 87 cs = some x) :
    ∃ r : Int × Int, cs = [.int .u64 r.1, .int .u64 r.2] ∧ (0 ≤ r.1 ∧ r.1 ≤ 18446744073709551615) ∧ (0 ≤ r.2 ∧ r.2 ≤ 18446744073709551615) := by
  obtain ⟨y0, y1, n, rfl, hl, h0, h1⟩ := trod_struct2 Tryz.underlying87 h
  rw [Tryz.cellsRes] at hl
  obtain ⟨c0, c1, rfl⟩ : ∃ c0 c1, cs = [c0, c1] := by
    exact two_of hl
  rw [Tryz.cellsU64] at h0 h1
  obtain ⟨a, e0, _, w0⟩ := DataW.trod_int Tryz.underlying23 h0
  obtain ⟨c, e1, _, w1⟩ := DataW.trod_int Tryz.underlying23 h1
  simp only [List.drop_succ_cons, List.drop_zero, List.take_succ_cons, List.take_zero, List.cons.injEq, and_true] at e0 e1
  subst e0 e1
  exact ⟨(a, c), rfl, bounds_u64 w0, bounds_u64 w1⟩

/-- A tree that came in is such a tree. -/
theorem open_tr {fuel : Nat} {cs : List Value} {x : DataW H × List MemPlace} (h : DataW.trod enc Tryz.prog w base spare held fuel 37 cs = some x) (hw : ∀ z ∈ DataW.weights Tryz.prog 37 x.1, z ≤ 140737488351232) :
    ∃ t : Tr, cs = [.int .u32 t.boot, t.rv, .string t.root.name, t.root.pv, t.root.kv] ∧ t.In w w.heap.size := by
  obtain ⟨y0, y1, y2, n, rfl, hl, h0, h1, h2⟩ := trod_struct3 Tryz.underlying37 h
  rw [Tryz.cellsTree] at hl
  obtain ⟨c0, c1, c2, c3, c4, rfl⟩ : ∃ c0 c1 c2 c3 c4, cs = [c0, c1, c2, c3, c4] := by
    exact five_of hl
  rw [Tryz.cellsU32] at h0
  rw [Tryz.cellsRess] at h1
  rw [Tryz.cellsNode] at h2
  simp only [List.drop_zero, List.drop_succ_cons, List.take_succ_cons, List.take_zero] at h0 h1 h2
  simp only [DataW.weights, DataW.weightsEach, Tryz.underlying37, List.map_cons, List.map_nil] at hw
  have hw1 := fun z hz => hw z (List.mem_append_right _ (List.mem_append_left _ hz))
  have hw2 := fun z hz => hw z (List.mem_append_right _ (List.mem_append_right _ (List.mem_append_left _ hz)))
  obtain ⟨boot, e0, _, wb⟩ := DataW.trod_int Tryz.underlying34 h0
  obtain ⟨ra, rc, rs, e1, hr1, hr2, hr3, hrg, hrow⟩ := open_row (c := 2) (fun r : Int × Int => [.int .u64 r.1, .int .u64 r.2]) (fun r => (0 ≤ r.1 ∧ r.1 ≤ 18446744073709551615) ∧ (0 ≤ r.2 ∧ r.2 ≤ 18446744073709551615)) Tryz.underlying35 Tryz.cellsRes (by omega) (fun _ => rfl) (fun n cs y _ hy _ => open_res hy) h1 hw1
  obtain ⟨root, e2, hin⟩ := open_nd _ n _ _ (Nat.le_refl _) h2 hw2
  simp only [List.cons.injEq, and_true] at e0 e1 e2
  obtain ⟨rfl, rfl, rfl⟩ := e2
  subst e0 e1
  rw [Tryz.bytesRes] at hr3
  exact ⟨⟨boot, ra, rc, rs, root⟩, rfl, bounds_u32 wb, ⟨hr1, hr2, hr3⟩, fun h0 => by
    obtain ⟨b, o, e, hb, hc⟩ := hrow h0
    exact ⟨b, o, e, hb, fun i hi => ⟨hc i hi 0 (by omega), hc i hi 1 (by omega)⟩⟩, hrg, hin⟩
end

/-- A reserve of noughts. -/
def zeroR (r : Int × Int) : Bool := decide (r.1 = 0) && decide (r.2 = 0)

set_option maxHeartbeats 2000000 in
theorem idxRes_any (t : Tr) (w : World) (hin : t.In w w.heap.size) (r : Bool) (hr : t.rs.any zeroR = r) :
    Calls Tryz.prog 70 #[t.rv, .agg #[.int .u64 0, .int .u64 0]] w fun e w' => (∃ i : Int, e = .returned (.int .i64 i) ∧ decide (0 ≤ i) = r) ∧ Below w.heap.size w w' := by
  obtain ⟨boot, ra, rc, rs, root⟩ := t
  have HI := Lib.hid hin
  have HR := Lib.hid (show rs.any zeroR = r from hr)
  obtain ⟨hl, hm, _⟩ : rs.length ≤ rc ∧ rc ≤ 9223372036854775807 ∧ _ := hin.len
  clear hin hr
  show Calls _ _ #[.slice ra rs.length rc, _] _ _
  go_enter Tryz.func70, Tryz.ntmps70
  go_wp2_with fail
  go_loopw [8] (fun i wr => ∃ k : Nat, k ≤ rs.length ∧ i = .int .i64 k ∧ Good zeroR rs k ∧ Below (w.heap.size + 1) (w.alloc (.cells #[.int .u64 0, .int .u64 0] 87)) wr) (fun i _ => rs.length - (intOf i).toNat)
  case atStart => exact ⟨0, Nat.zero_le _, rfl, Good.zero _ _, Below.refl _ _⟩
  case round =>
    obtain ⟨k, hk, rfl, hgood, hb⟩ := hrel
    have HA := Lib.hid hgood
    have HB0 := Lib.hid hb
    have HB := Lib.hid (((Below.refl w.heap.size w).alloc (Nat.le_refl _) _).trans (hb.mono (Nat.le_succ _)))
    have b0 : wr.cell? ⟨w.heap.size, 0, none⟩ = some (.int .u64 0) := (hb.cell (Nat.lt_succ_self _)).trans (World.cell?_alloc_new _ _ _ _)
    have b1 : wr.cell? ⟨w.heap.size, 1, none⟩ = some (.int .u64 0) := (hb.cell (Nat.lt_succ_self _)).trans (World.cell?_alloc_new _ _ _ _)
    clear hgood hb
    by_cases hlt : k < rs.length
    · obtain ⟨b, o, e, hb, c0, c1⟩ := (HI.out.under HB.out).rcell (i := k) hlt
      obtain rfl : ra = _ := e
      replace c0 : _ = some (Value.int .u64 rs[k].1) := c0
      replace c1 : _ = some (Value.int .u64 rs[k].2) := c1
      obtain ⟨x, hx⟩ : ∃ x, x = rs[k].1 := ⟨_, rfl⟩
      obtain ⟨y, hy⟩ : ∃ y, y = rs[k].2 := ⟨_, rfl⟩
      have HZ : Hid (zeroR rs[k] = (decide (x = 0) && decide (y = 0))) := by show zeroR _ = _; rw [hx, hy]; rfl
      rw [← hx] at c0
      rw [← hy] at c1
      clear hx hy
      by_cases hx0 : x = 0
      · subst hx0
        by_cases hy0 : y = 0
        · subst hy0
          obtain rfl : r = true := by rw [← HR.out]; exact any_at hlt HZ.out
          go_wp2_with fail
          go_region
          go_wp2
          go_ret
          exact ⟨⟨k, rfl, by simp⟩, HB.out.drew⟩
        · have HF : Hid (zeroR rs[k] = false) := by have := HZ.out; rw [decide_eq_false hy0] at this; exact this
          have hy1 : ¬ (0 = y) := fun h => hy0 h.symm
          clear hy0
          go_wp2_with fail
          go_region
          go_wp2
          go_roundw
          case rel => exact ⟨k + 1, by omega, by go_num, HA.out.succ hlt HF.out, HB0.out.drew⟩
          case measure => simp [intOf]; omega
      · have HF : Hid (zeroR rs[k] = false) := by have := HZ.out; rw [decide_eq_false hx0] at this; exact this
        have hx1 : ¬ (0 = x) := fun h => hx0 h.symm
        clear hx0
        go_wp2_with fail
        go_region
        go_wp2
        go_roundw
        case rel => exact ⟨k + 1, by omega, by go_num, HA.out.succ hlt HF.out, HB0.out.drew⟩
        case measure => simp [intOf]; omega
    · obtain rfl : r = false := by rw [← HR.out]; exact HA.out.all hlt
      go_wp2
      go_ret
      exact ⟨⟨-1, rfl, by simp⟩, HB.out⟩

theorem containsRes_any (t : Tr) (w : World) (hin : t.In w w.heap.size) (r : Bool) (hr : t.rs.any zeroR = r) :
    Calls Tryz.prog 33 #[t.rv, .agg #[.int .u64 0, .int .u64 0]] w fun e w' => e = .returned (.bool r) ∧ Below w.heap.size w w' := by
  have HB := Lib.hid ((Below.refl w.heap.size w).alloc (Nat.le_refl _) (.cells #[.int .u64 0, .int .u64 0] 87))
  have C := Lib.hid (fun w h => idxRes_any t w h r hr)
  have HI := Lib.hid hin
  clear hin hr
  obtain ⟨boot, ra, rc, rs, root⟩ := t
  show Calls _ _ #[.slice ra rs.length rc, _] _ _
  go_enter Tryz.func33, Tryz.ntmps33
  go_wp2_with fail
  refine (C.out _ (HI.out.on HB.out)).mono ?_
  rintro e w' ⟨⟨i, rfl, hi⟩, hb⟩
  have HB2 := Lib.hid (HB.out.trans (hb.mono HB.out.size))
  have HV := Lib.hid hi
  clear hb hi
  go_wp2
  go_ret
  exact ⟨congrArg (fun b => Ending.returned (.bool b)) HV.out, HB2.out⟩

/-- Are there too many? -/
def manyE (t : Tr) : Int := if 4096 < wrap64 (nodesN t.root) ∨ 8192 < wrap64 (propsN t.root) ∨ 64 < t.rs.length then 7 else if t.rs.any zeroR = true then 7 else 0

set_option maxHeartbeats 4000000 in
theorem many_any (t : Tr) (w : World) (hin : t.In w w.heap.size) (E : Int) (hE : manyE t = E) :
    Calls Tryz.prog 15 #[t.val] w fun e w' => e = .returned (.int .i64 E) ∧ Below w.heap.size w w' := by
  obtain ⟨a, ha⟩ : ∃ a, a = wrap64 (nodesN t.root) := ⟨_, rfl⟩
  obtain ⟨c, hc⟩ : ∃ c, c = wrap64 (propsN t.root) := ⟨_, rfl⟩
  obtain ⟨r, hr⟩ : ∃ r, t.rs.any zeroR = r := ⟨_, rfl⟩
  have HE : Hid ((if 4096 < a ∨ 8192 < c ∨ 64 < t.rs.length then 7 else if r = true then 7 else 0) = E) := by rw [ha, hc, ← hr]; exact hE
  have C1 := Lib.hid (fun w h => (count_any t.root w h).mono fun e w' (h : Counted e t.root ∧ _) => show e = .returned (.tuple #[.int .i64 a, .int .i64 c]) ∧ Below w.heap.size w w' from ⟨by rw [ha, hc]; exact h.1, h.2⟩)
  have C2 := Lib.hid (fun w h => containsRes_any t w h r hr)
  have HI := Lib.hid hin
  clear hE ha hc hr hin
  obtain ⟨boot, ra, rc, rs, root⟩ := t
  replace HE : Hid ((if 4096 < a ∨ 8192 < c ∨ 64 < rs.length then 7 else if r = true then 7 else 0) = E) := HE
  obtain ⟨nm, pa, pc, ps, ka, kc, ks⟩ := root
  show Calls _ _ #[.agg #[.int .u32 boot, .slice ra rs.length rc, .string nm, .slice pa ps.length pc, .slice ka ks.length kc]] _ _
  have HB := Lib.hid ((Below.refl w.heap.size w).alloc (Nat.le_refl _) (.cells #[.int .u32 boot, .slice ra rs.length rc, .string nm, .slice pa ps.length pc, .slice ka ks.length kc] 37))
  go_enter Tryz.func15, Tryz.ntmps15
  go_wp2_with fail
  refine (C1.out _ ((HI.out.on HB.out).root)).mono ?_
  rintro e w1 ⟨rfl, hb⟩
  have HB1 := Lib.hid (HB.out.trans (hb.mono HB.out.size))
  have b1 := (hb.cell (p := ⟨w.heap.size, 1, none⟩) (by simp)).trans (World.cell?_alloc_new _ _ _ _)
  replace b1 : _ = some (Value.slice ra rs.length rc) := b1
  clear hb
  by_cases h1 : 4096 < a
  · obtain rfl : E = 7 := by rw [← HE.out, if_pos (.inl h1)]
    go_wp2
    go_ret
    exact ⟨rfl, HB1.out⟩
  · by_cases h2 : 8192 < c
    · obtain rfl : E = 7 := by rw [← HE.out, if_pos (.inr (.inl h2))]
      go_wp2
      go_ret
      exact ⟨rfl, HB1.out⟩
    · by_cases h3 : 64 < (rs.length : Int)
      · obtain rfl : E = 7 := by rw [← HE.out, if_pos (.inr (.inr (by omega)))]
        go_wp2
        go_ret
        exact ⟨rfl, HB1.out⟩
      · have HF : Hid ((if r = true then 7 else 0) = E) := by have := HE.out; rwa [if_neg (by omega)] at this
        go_wp2_with fail
        refine (C2.out _ (HI.out.on HB1.out)).mono ?_
        rintro e w2 ⟨rfl, hb⟩
        have HB2 := Lib.hid (HB1.out.trans (hb.mono HB1.out.size))
        clear hb
        cases r
        · obtain rfl : E = 0 := HF.out.symm
          go_wp2
          go_ret
          exact ⟨rfl, HB2.out⟩
        · obtain rfl : E = 7 := HF.out.symm
          go_wp2
          go_ret
          exact ⟨rfl, HB2.out⟩
end Go.Proofs.YtmgokplpkmndoaaGreat
