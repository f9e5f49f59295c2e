/-
  Base, part 5: what the proofs of this claim lean on.
-/
import Derived.Test.YtihlpcbebpnmkaaGreatDoorBase2
import Derived.Test.YtihlpcbebpnmkaaGreatDoorBase4
import Derived.BigQuiet
import Derived.Test.YtihlpcbebpnmkaaGreatDoorBase3

/-! Layer 3: a tree as it lies in memory; whether there are too many. -/
namespace Go.Proofs.YtihlpcbebpnmkaaGreatDoor
open Go.RowKit Go.ChangeShapes Go.WideShapes Go.Deep
set_option linter.unusedVariables false
set_option linter.unusedSimpArgs false

/-- A tree as it lies: its reserves' slice, and its root. -/
structure Tr where
  boot : Int
  ra : Option Addr
  rc : Nat
  rs : List (Int × Int)
  root : Nd

def Tr.rv (t : Tr) : Value := .slice t.ra t.rs.length t.rc
def Tr.val (t : Tr) : Value := .agg #[.int .u32 t.boot, t.rv, .string t.root.name, t.root.pv, t.root.kv]

/-- The cells of a row of reserves. -/
def RRow (w : World) (B : Nat) (a : Option Addr) (l : List (Int × Int)) : Prop :=
  0 < l.length → ∃ b o, a = some ⟨b, o, none⟩ ∧ b < B ∧ ∀ i (h : i < l.length), w.cell? ⟨b, o + i * 2, none⟩ = some (.int .u64 l[i].1) ∧ w.cell? ⟨b, o + i * 2 + 1, none⟩ = some (.int .u64 l[i].2)

structure Tr.In (w : World) (B : Nat) (t : Tr) : Prop where
  boot : 0 ≤ t.boot ∧ t.boot ≤ 4294967295
  len : t.rs.length ≤ t.rc ∧ t.rc ≤ 9223372036854775807 ∧ t.rs.length * 16 ≤ 140737488351232
  row : RRow w B t.ra t.rs
  nums : ∀ r ∈ t.rs, (0 ≤ r.1 ∧ r.1 ≤ 18446744073709551615) ∧ (0 ≤ r.2 ∧ r.2 ≤ 18446744073709551615)
  root : t.root.In w B

section
variable {w w' : World} {B B' : Nat}
theorem RRow.keep {a : Option Addr} {l : List (Int × Int)} (h : RRow w B a l) (hk : ∀ a : Addr, a.block < B → w'.cell? a = w.cell? a) : RRow w' B a l := fun h0 => by
  obtain ⟨b, o, e, hb, hc⟩ := h h0
  exact ⟨b, o, e, hb, fun i hi => ⟨(hk _ hb).trans (hc i hi).1, (hk _ hb).trans (hc i hi).2⟩⟩
theorem RRow.more {a : Option Addr} {l : List (Int × Int)} (h : RRow w B a l) (hB : B ≤ B') : RRow w B' a l := fun h0 => by
  obtain ⟨b, o, e, hb, hc⟩ := h h0
  exact ⟨b, o, e, by omega, hc⟩
theorem Tr.In.under {t : Tr} (h : t.In w B) (hb : Below B w w') : t.In w' B := ⟨h.boot, h.len, h.row.keep (fun _ hp => hb.cell hp), h.nums, h.root.under hb⟩
theorem Tr.In.more {t : Tr} (h : t.In w B) (hB : B ≤ B') : t.In w B' := ⟨h.boot, h.len, h.row.more hB, h.nums, h.root.more hB⟩
theorem Tr.In.on {t : Tr} (h : t.In w w.heap.size) (hb : Below w.heap.size w w') : t.In w' w'.heap.size := (h.under hb).more hb.size
theorem Tr.In.rcell {t : Tr} (h : t.In w B) {i : Nat} (hi : i < t.rs.length) : ∃ b o, t.ra = some ⟨b, o, none⟩ ∧ b < B ∧ w.cell? ⟨b, o + i * 2, none⟩ = some (.int .u64 t.rs[i].1) ∧ w.cell? ⟨b, o + i * 2 + 1, none⟩ = some (.int .u64 t.rs[i].2) := by
  obtain ⟨b, o, e, hb, hc⟩ := h.row (by omega)
  exact ⟨b, o, e, hb, hc i hi⟩
end

theorem Tryz.cellsRes : Tryz.prog.cellsOf 68 = 2 := by kernel_rfl
theorem Tryz.cellsRess : Tryz.prog.cellsOf 23 = 1 := by kernel_rfl
theorem Tryz.cellsU64 : Tryz.prog.cellsOf 66 = 1 := by kernel_rfl
theorem Tryz.cellsU32 : Tryz.prog.cellsOf 22 = 1 := by kernel_rfl
theorem Tryz.cellsTree : Tryz.prog.cellsOf 29 = 5 := by kernel_rfl
theorem Tryz.bytesRes : Tryz.prog.bytesOf 68 = 16 := by kernel_rfl

section
variable {H : Type} {enc : TypeId × Value → H} {w : World} {base : Nat} {spare : Nat → Bool} {held : Bool}

theorem open_res {fuel : Nat} {cs : List Value} {x : DataW H × List MemPlace} (h : DataW.trod enc Tryz.prog w base spare held fuel 68 cs = some x) :
    ∃ r : Int × Int, cs = [.int .u64 r.1, .int .u64 r.2] ∧ (0 ≤ r.1 ∧ r.1 ≤ 18446744073709551615) ∧ (0 ≤ r.2 ∧ r.2 ≤ 18446744073709551615) := by
  obtain ⟨y0, y1, n, rfl, hl, h0, h1⟩ := trod_struct2 Tryz.underlying68 h
  rw [Tryz.cellsRes] at hl
  obtain ⟨c0, c1, rfl⟩ : ∃ c0 c1, cs = [c0, c1] := by
    exact two_of hl
  rw [Tryz.cellsU64] at h0 h1
  obtain ⟨a, e0, _, w0⟩ := DataW.trod_int Tryz.underlying66 h0
  obtain ⟨c, e1, _, w1⟩ := DataW.trod_int Tryz.underlying66 h1
  simp only [List.drop_succ_cons, List.drop_zero, List.take_succ_cons, List.take_zero, List.cons.injEq, and_true] at e0 e1
  subst e0 e1
  exact ⟨(a, c), rfl, bounds_u64 w0, bounds_u64 w1⟩

/-- A tree that came in is such a tree. -/
theorem open_tr {fuel : Nat} {cs : List Value} {x : DataW H × List MemPlace} (h : DataW.trod enc Tryz.prog w base spare held fuel 29 cs = some x) (hw : ∀ z ∈ DataW.weights Tryz.prog 29 x.1, z ≤ 140737488351232) :
    ∃ t : Tr, cs = [.int .u32 t.boot, t.rv, .string t.root.name, t.root.pv, t.root.kv] ∧ t.In w w.heap.size := by
  obtain ⟨y0, y1, y2, n, rfl, hl, h0, h1, h2⟩ := trod_struct3 Tryz.underlying29 h
  rw [Tryz.cellsTree] at hl
  obtain ⟨c0, c1, c2, c3, c4, rfl⟩ : ∃ c0 c1 c2 c3 c4, cs = [c0, c1, c2, c3, c4] := by
    exact five_of hl
  rw [Tryz.cellsU32] at h0
  rw [Tryz.cellsRess] at h1
  rw [Tryz.cellsNode] at h2
  simp only [List.drop_zero, List.drop_succ_cons, List.take_succ_cons, List.take_zero] at h0 h1 h2
  simp only [DataW.weights, DataW.weightsEach, Tryz.underlying29, List.map_cons, List.map_nil] at hw
  have hw1 := fun z hz => hw z (List.mem_append_right _ (List.mem_append_left _ hz))
  have hw2 := fun z hz => hw z (List.mem_append_right _ (List.mem_append_right _ (List.mem_append_left _ hz)))
  obtain ⟨boot, e0, _, wb⟩ := DataW.trod_int Tryz.underlying22 h0
  obtain ⟨ra, rc, rs, e1, hr1, hr2, hr3, hrg, hrow⟩ := open_row (c := 2) (fun r : Int × Int => [.int .u64 r.1, .int .u64 r.2]) (fun r => (0 ≤ r.1 ∧ r.1 ≤ 18446744073709551615) ∧ (0 ≤ r.2 ∧ r.2 ≤ 18446744073709551615)) Tryz.underlying23 Tryz.cellsRes (by omega) (fun _ => rfl) (fun n cs y _ hy _ => open_res hy) h1 hw1
  obtain ⟨root, e2, hin⟩ := open_nd _ n _ _ (Nat.le_refl _) h2 hw2
  simp only [List.cons.injEq, and_true] at e0 e1 e2
  obtain ⟨rfl, rfl, rfl⟩ := e2
  subst e0 e1
  rw [Tryz.bytesRes] at hr3
  exact ⟨⟨boot, ra, rc, rs, root⟩, rfl, bounds_u32 wb, ⟨hr1, hr2, hr3⟩, fun h0 => by
    obtain ⟨b, o, e, hb, hc⟩ := hrow h0
    exact ⟨b, o, e, hb, fun i hi => ⟨hc i hi 0 (by omega), hc i hi 1 (by omega)⟩⟩, hrg, hin⟩
end

/-- A reserve of noughts. -/
def zeroR (r : Int × Int) : Bool := decide (r.1 = 0) && decide (r.2 = 0)

set_option maxHeartbeats 2000000 in
theorem idxRes_any (t : Tr) (w : World) (hin : t.In w w.heap.size) (r : Bool) (hr : t.rs.any zeroR = r) :
    Calls Tryz.prog 82 #[t.rv, .agg #[.int .u64 0, .int .u64 0]] w fun e w' => (∃ i : Int, e = .returned (.int .i64 i) ∧ decide (0 ≤ i) = r) ∧ Below w.heap.size w w' := by
  obtain ⟨boot, ra, rc, rs, root⟩ := t
  have HI := Lib.hid hin
  have HR := Lib.hid (show rs.any zeroR = r from hr)
  obtain ⟨hl, hm, _⟩ : rs.length ≤ rc ∧ rc ≤ 9223372036854775807 ∧ _ := hin.len
  clear hin hr
  show Calls _ _ #[.slice ra rs.length rc, _] _ _
  go_enter Tryz.func82, Tryz.ntmps82
  go_wp2_with fail
  go_loopw [8] (fun i wr => ∃ k : Nat, k ≤ rs.length ∧ i = .int .i64 k ∧ Good zeroR rs k ∧ Below (w.heap.size + 1) (w.alloc (.cells #[.int .u64 0, .int .u64 0] 68)) wr) (fun i _ => rs.length - (intOf i).toNat)
  case atStart => exact ⟨0, Nat.zero_le _, rfl, Good.zero _ _, Below.refl _ _⟩
  case round =>
    obtain ⟨k, hk, rfl, hgood, hb⟩ := hrel
    have HA := Lib.hid hgood
    have HB0 := Lib.hid hb
    have HB := Lib.hid (((Below.refl w.heap.size w).alloc (Nat.le_refl _) _).trans (hb.mono (Nat.le_succ _)))
    have b0 : wr.cell? ⟨w.heap.size, 0, none⟩ = some (.int .u64 0) := (hb.cell (Nat.lt_succ_self _)).trans (World.cell?_alloc_new _ _ _ _)
    have b1 : wr.cell? ⟨w.heap.size, 1, none⟩ = some (.int .u64 0) := (hb.cell (Nat.lt_succ_self _)).trans (World.cell?_alloc_new _ _ _ _)
    clear hgood hb
    by_cases hlt : k < rs.length
    · obtain ⟨b, o, e, hb, c0, c1⟩ := (HI.out.under HB.out).rcell (i := k) hlt
      obtain rfl : ra = _ := e
      replace c0 : _ = some (Value.int .u64 rs[k].1) := c0
      replace c1 : _ = some (Value.int .u64 rs[k].2) := c1
      obtain ⟨x, hx⟩ : ∃ x, x = rs[k].1 := ⟨_, rfl⟩
      obtain ⟨y, hy⟩ : ∃ y, y = rs[k].2 := ⟨_, rfl⟩
      have HZ : Hid (zeroR rs[k] = (decide (x = 0) && decide (y = 0))) := by show zeroR _ = _; rw [hx, hy]; rfl
      rw [← hx] at c0
      rw [← hy] at c1
      clear hx hy
      by_cases hx0 : x = 0
      · subst hx0
        by_cases hy0 : y = 0
        · subst hy0
          obtain rfl : r = true := by rw [← HR.out]; exact any_at hlt HZ.out
          go_wp2_with fail
          go_region
          go_wp2
          go_ret
          exact ⟨⟨k, rfl, by simp⟩, HB.out.drew⟩
        · have HF : Hid (zeroR rs[k] = false) := by have := HZ.out; rw [decide_eq_false hy0] at this; exact this
          have hy1 : ¬ (0 = y) := fun h => hy0 h.symm
          clear hy0
          go_wp2_with fail
          go_region
          go_wp2
          go_roundw
          case rel => exact ⟨k + 1, by omega, by go_num, HA.out.succ hlt HF.out, HB0.out.drew⟩
          case measure => simp [intOf]; omega
      · have HF : Hid (zeroR rs[k] = false) := by have := HZ.out; rw [decide_eq_false hx0] at this; exact this
        have hx1 : ¬ (0 = x) := fun h => hx0 h.symm
        clear hx0
        go_wp2_with fail
        go_region
        go_wp2
        go_roundw
        case rel => exact ⟨k + 1, by omega, by go_num, HA.out.succ hlt HF.out, HB0.out.drew⟩
        case measure => simp [intOf]; omega
    · obtain rfl : r = false := by rw [← HR.out]; exact HA.out.all hlt
      go_wp2
      go_ret
      exact ⟨⟨-1, rfl, by simp⟩, HB.out⟩

theorem containsRes_any (t : Tr) (w : World) (hin : t.In w w.heap.size) (r : Bool) (hr : t.rs.any zeroR = r) :
    Calls Tryz.prog 54 #[t.rv, .agg #[.int .u64 0, .int .u64 0]] w fun e w' => e = .returned (.bool r) ∧ Below w.heap.size w w' := by
  have HB := Lib.hid ((Below.refl w.heap.size w).alloc (Nat.le_refl _) (.cells #[.int .u64 0, .int .u64 0] 68))
  have C := Lib.hid (fun w h => idxRes_any t w h r hr)
  have HI := Lib.hid hin
  clear hin hr
  obtain ⟨boot, ra, rc, rs, root⟩ := t
  show Calls _ _ #[.slice ra rs.length rc, _] _ _
  go_enter Tryz.func54, Tryz.ntmps54
  go_wp2_with fail
  refine (C.out _ (HI.out.on HB.out)).mono ?_
  rintro e w' ⟨⟨i, rfl, hi⟩, hb⟩
  have HB2 := Lib.hid (HB.out.trans (hb.mono HB.out.size))
  have HV := Lib.hid hi
  clear hb hi
  go_wp2
  go_ret
  exact ⟨congrArg (fun b => Ending.returned (.bool b)) HV.out, HB2.out⟩

/-- Are there too many? -/
def manyE (t : Tr) : Int := if 4096 < wrap64 (nodesN t.root) ∨ 8192 < wrap64 (propsN t.root) ∨ 64 < t.rs.length then 7 else if t.rs.any zeroR = true then 7 else 0

set_option maxHeartbeats 4000000 in
theorem many_any (t : Tr) (w : World) (hin : t.In w w.heap.size) (E : Int) (hE : manyE t = E) :
    Calls Tryz.prog 33 #[t.val] w fun e w' => e = .returned (.int .i64 E) ∧ Below w.heap.size w w' := by
  obtain ⟨a, ha⟩ : ∃ a, a = wrap64 (nodesN t.root) := ⟨_, rfl⟩
  obtain ⟨c, hc⟩ : ∃ c, c = wrap64 (propsN t.root) := ⟨_, rfl⟩
  obtain ⟨r, hr⟩ : ∃ r, t.rs.any zeroR = r := ⟨_, rfl⟩
  have HE : Hid ((if 4096 < a ∨ 8192 < c ∨ 64 < t.rs.length then 7 else if r = true then 7 else 0) = E) := by rw [ha, hc, ← hr]; exact hE
  have C1 := Lib.hid (fun w h => (count_any t.root w h).mono fun e w' (h : Counted e t.root ∧ _) => show e = .returned (.tuple #[.int .i64 a, .int .i64 c]) ∧ Below w.heap.size w w' from ⟨by rw [ha, hc]; exact h.1, h.2⟩)
  have C2 := Lib.hid (fun w h => containsRes_any t w h r hr)
  have HI := Lib.hid hin
  clear hE ha hc hr hin
  obtain ⟨boot, ra, rc, rs, root⟩ := t
  replace HE : Hid ((if 4096 < a ∨ 8192 < c ∨ 64 < rs.length then 7 else if r = true then 7 else 0) = E) := HE
  obtain ⟨nm, pa, pc, ps, ka, kc, ks⟩ := root
  show Calls _ _ #[.agg #[.int .u32 boot, .slice ra rs.length rc, .string nm, .slice pa ps.length pc, .slice ka ks.length kc]] _ _
  have HB := Lib.hid ((Below.refl w.heap.size w).alloc (Nat.le_refl _) (.cells #[.int .u32 boot, .slice ra rs.length rc, .string nm, .slice pa ps.length pc, .slice ka ks.length kc] 29))
  go_enter Tryz.func33, Tryz.ntmps33
  go_wp2_with fail
  refine (C1.out _ ((HI.out.on HB.out).root)).mono ?_
  rintro e w1 ⟨rfl, hb⟩
  have HB1 := Lib.hid (HB.out.trans (hb.mono HB.out.size))
  have b1 := (hb.cell (p := ⟨w.heap.size, 1, none⟩) (by simp)).trans (World.cell?_alloc_new _ _ _ _)
  replace b1 : _ = some (Value.slice ra rs.length rc) := b1
  clear hb
  by_cases h1 : 4096 < a
  · obtain rfl : E = 7 := by rw [← HE.out, if_pos (.inl h1)]
    go_wp2
    go_ret
    exact ⟨rfl, HB1.out⟩
  · by_cases h2 : 8192 < c
    · obtain rfl : E = 7 := by rw [← HE.out, if_pos (.inr (.inl h2))]
      go_wp2
      go_ret
      exact ⟨rfl, HB1.out⟩
    · by_cases h3 : 64 < (rs.length : Int)
      · obtain rfl : E = 7 := by rw [← HE.out, if_pos (.inr (.inr (by omega)))]
        go_wp2
        go_ret
        exact ⟨rfl, HB1.out⟩
      · have HF : Hid ((if r = true then 7 else 0) = E) := by have := HE.out; rwa [if_neg (by omega)] at this
        go_wp2_with fail
        refine (C2.out _ (HI.out.on HB1.out)).mono ?_
        rintro e w2 ⟨rfl, hb⟩
        have HB2 := Lib.hid (HB1.out.trans (hb.mono HB1.out.size))
        clear hb
        cases r
        · obtain rfl : E = 0 := HF.out.symm
          go_wp2
          go_ret
          exact ⟨rfl, HB2.out⟩
        · obtain rfl : E = 7 := HF.out.symm
          go_wp2
          go_ret
          exact ⟨rfl, HB2.out⟩
end Go.Proofs.YtihlpcbebpnmkaaGreatDoor

/-! Layer 11: the program's Clone of a tree: all in memory of the call's own; its values may be written. -/
namespace Go.Proofs.YtihlpcbebpnmkaaGreatDoor
open Go.RowKit
set_option linter.unusedVariables false
set_option linter.unusedSimpArgs false
attribute [local go_sem ↓] Go.wp_at_zero Go.wp_at_succ

def resC (r : Int × Int) : List Value := [.int .u64 r.1, .int .u64 r.2]
theorem info_res11 : (Tryz.prog.info? 68).map (fun i => (i.zero, i.size, i.bytes)) = some (some (.agg #[.int .u64 0, .int .u64 0]), 2, 16) := by kernel_rfl
theorem resC_len : ∀ r, (resC r).length = 2 := fun _ => rfl
set_option maxHeartbeats 1000000 in
theorem cloneRess_own (A : Option Addr) (cp : Nat) (l : List (Int × Int)) (w : World) (hrow : RRow w w.heap.size A l) (hsz : l.length * 16 ≤ 140737488351232) :
    Calls Tryz.prog 25 #[.slice A l.length cp] w fun e w' => ∃ A' c', e = .returned (.slice A' l.length c') ∧ w'.ownsRow w.heap.size 68 2 (.slice A' l.length c') l.length (l.flatMap resC) ∧ Below w.heap.size w w' := by
  obtain ⟨i0, hi0, hz0, hz1, hz2⟩ := info_any info_res11
  have hf : ∀ a, (resC a).length = 2 := fun _ => rfl
  have q : ∀ (w : World) (a : Option Addr) (n c n' c' : Nat), (binOp .eql 23 (.slice a n c) (.slice none n' c')).run Tryz.prog w = .ok (.bool a.isNone) w := fun w a n c n' c' => Lib.run_eql_slice_nil w _ _ a n c n' c' Tryz.underlying23
  have u22 : ∀ w, Sem.run Tryz.prog (underlying 23) w = .ok (TypeDesc.slice 68) w := run_underlying Tryz.underlying23
  rcases A with _ | ad
  · have hn0 : l.length = 0 := by
      rcases Nat.eq_zero_or_pos l.length with h | h
      · exact h
      · obtain ⟨b, o, e, _⟩ := hrow h
        cases e
    have HZ := Lib.hid hn0
    clear hn0 hsz hi0 hz0 hz1 hz2 hrow
    go_enter Tryz.func25, Tryz.ntmps25
    go_wp2
    go_ret
    obtain rfl : l = [] := List.eq_nil_of_length_eq_zero HZ.out
    exact ⟨none, 0, rfl, World.ownsRow_nil _ _ _ _, Below.refl _ _⟩
  · obtain ⟨v', w', hrun, hown, hbel⟩ := clone_run w 23 68 2 16 i0 _ Tryz.underlying23 hi0 hz0 hz1 hz2 rfl (by omega) ad l.length cp (l.flatMap resC) (flat_len hf l)
      (fun j u hu => by
        obtain ⟨i, r, hi, hr, rfl, hu'⟩ := flat_get hf (by omega) hu
        obtain ⟨b, o, e, _, hc⟩ := hrow (by omega)
        obtain rfl : ad = ⟨b, o, none⟩ := Option.some.inj e
        rw [addr_add, ← Nat.add_assoc]
        obtain ⟨c0, c1⟩ := hc i hi
        match r, hr, hu' with
        | 0, _, hu' => rw [← Option.some.inj hu']; exact c0
        | 1, _, hu' => rw [← Option.some.inj hu']; exact c1)
      (fun u hu => by
        obtain ⟨x, _, hx⟩ := List.mem_flatMap.1 hu
        simp only [resC, List.mem_cons, List.not_mem_nil, or_false] at hx
        rcases hx with rfl | rfl <;> rfl)
      hsz (by omega)
    obtain ⟨A', c', rfl, h1, h2⟩ : ∃ A' c', v' = .slice A' l.length c' ∧ l.length ≤ c' ∧ c' ≤ 9223372036854775807 := by
      rcases hown.2 with ⟨rfl, e0⟩ | ⟨g, cap, cur, rfl, _, _, h1, h2, _⟩
      · exact ⟨none, 0, by rw [e0], by omega, by omega⟩
      · exact ⟨_, cap, rfl, h1, h2⟩
    have HR := Lib.hid hrun
    have HF := Lib.hid (And.intro hown hbel)
    clear hrun hown hbel h1 h2 hi0 hz0 hz1 hz2 hsz hrow
    go_enter Tryz.func25, Tryz.ntmps25
    go_wp2_with (at_builtin; refine Lib.wpList_append_run_sl _ rfl _ _ 23 rfl _ _ rfl rfl HR.out ?_)
    go_ret
    exact ⟨A', c', rfl, HF.out⟩
theorem rrow_own {w : World} {B n c : Nat} {A : Option Addr} {l : List (Int × Int)} (h : w.ownsRow B 68 2 (.slice A n c) l.length (l.flatMap resC)) : n = l.length ∧ l.length ≤ c ∧ c ≤ 9223372036854775807 ∧ RRow w w.heap.size A l := by
  rcases h.2 with ⟨e, e0⟩ | ⟨g, cap, cur, e, _, hg, h1, h2, _⟩
  · simp only [Value.slice.injEq] at e
    obtain ⟨rfl, rfl, rfl⟩ := e
    exact ⟨e0.symm, by omega, by omega, fun h => absurd h (by omega)⟩
  · simp only [Value.slice.injEq] at e
    obtain ⟨rfl, rfl, rfl⟩ := e
    refine ⟨rfl, h1, h2, fun h0 => ⟨g, 0, rfl, (Array.getElem?_eq_some_iff.1 hg).1, fun i hi => ?_⟩⟩
    have c0 := h.cells (g := g) rfl (i * 2) (.int .u64 l[i].1) (flat_at resC_len l i 0 hi (by omega))
    have c1 := h.cells (g := g) rfl (i * 2 + 1) (.int .u64 l[i].2) (flat_at resC_len l i 1 hi (by omega))
    rw [addr_add, Nat.zero_add] at c0 c1
    rw [Nat.zero_add]
    exact ⟨c0, c1⟩

/-- A tree in memory of the call's own: the rows of F, the values in D, the reserves' row apart. -/
structure OwnT (w : World) (B : Nat) (F D : Nat → Prop) (c : Tr) : Prop where
  own : Own w F D c.root
  hF : ∀ g, F g → B ≤ g ∧ g < w.heap.size
  hD : ∀ g, D g → B ≤ g ∧ g < w.heap.size ∧ ¬ F g
  unf : ∀ g, D g → Unf w g
  res : RRow w w.heap.size c.ra c.rs
  hR : 0 < c.rs.length → ∀ b o, c.ra = some ⟨b, o, none⟩ → B ≤ b ∧ ¬ F b ∧ ¬ D b
  boot : 0 ≤ c.boot ∧ c.boot ≤ 4294967295
  len : c.rs.length ≤ c.rc ∧ c.rc ≤ 9223372036854775807 ∧ c.rs.length * 16 ≤ 140737488351232
  nums : ∀ r ∈ c.rs, (0 ≤ r.1 ∧ r.1 ≤ 18446744073709551615) ∧ (0 ≤ r.2 ∧ r.2 ≤ 18446744073709551615)
theorem OwnT.in_ {w : World} {B : Nat} {F D : Nat → Prop} {c : Tr} (h : OwnT w B F D c) (hh : hpN (pureN c.root) ≤ 1099511627776) : c.In w w.heap.size := ⟨h.boot, h.len, h.res, h.nums, h.own.in_ hh⟩
theorem OwnT.lies {w : World} {B : Nat} {F D : Nat → Prop} {c : Tr} (h : OwnT w B F D c) (hh : hpN (pureN c.root) ≤ 1099511627776) : Lies w D c.root := Own.lies h.unf h.own (fun g hg => (h.hD g hg).2.2) hh

set_option maxRecDepth 20000 in
set_option maxHeartbeats 8000000 in
theorem clone_own (t : Tr) (w : World) (hin : t.In w w.heap.size) :
    Calls Tryz.prog 14 #[t.val] w fun e w' => ∃ (c : Tr) (F D : Nat → Prop), e = .returned c.val ∧ c.boot = t.boot ∧ c.rs = t.rs ∧ pureN c.root = pureN t.root ∧ OwnT w' w.heap.size F D c ∧ Below w.heap.size w w' := by
  have HI := Lib.hid hin
  have C1 := Lib.hid (fun (W : World) (h : t.In W W.heap.size) => cloneRess_own t.ra t.rc t.rs W h.row h.len.2.2)
  have C2 := Lib.hid (fun W h => cloneNode_unf t.root W h)
  have HBT := Lib.hid hin.boot
  have HLN := Lib.hid hin.len.2.2
  have HNU := Lib.hid hin.nums
  clear hin
  obtain ⟨boot, ra, rc, rs, ⟨nm, pa, pc, ps, ka, kc, ks⟩⟩ := t
  simp only [Tr.val, Tr.rv, Nd.val, Nd.pv, Nd.kv, Nd.name, Nd.pa, Nd.pc, Nd.props, Nd.ka, Nd.kc, Nd.kids] at C1 C2 HBT HLN HNU ⊢
  obtain ⟨W0, hW0⟩ : ∃ W0, ((w.alloc (.cells #[Value.int .u32 boot, .slice ra rs.length rc, .string nm, .slice pa ps.length pc, .slice ka ks.length kc] 29)).alloc (.cells #[Value.int .u32 0, .slice none 0 0, .string ⟨#[]⟩, .slice none 0 0, .slice none 0 0] 29)) = W0 := ⟨_, rfl⟩
  have HB0 : Hid (Below w.heap.size w W0) := Lib.hid (by rw [← hW0]; exact ((Below.refl w.heap.size w).alloc (Nat.le_refl _) _).alloc (by simp) _)
  have HX0 : Hid (W0.heap[w.heap.size]? = some (.cells #[Value.int .u32 boot, .slice ra rs.length rc, .string nm, .slice pa ps.length pc, .slice ka ks.length kc] 29 (0, 0)) ∧ W0.heap[w.heap.size + 1]? = some (.cells #[Value.int .u32 0, .slice none 0 0, .string ⟨#[]⟩, .slice none 0 0, .slice none 0 0] 29 (0, 0))) := Lib.hid (by rw [← hW0]; exact ⟨heap_alloc2_old _ _ _, heap_alloc2_new _ _ _⟩)
  have HS0 : Hid (W0.heap.size = w.heap.size + 2) := Lib.hid (by rw [← hW0]; simp)
  have SP : Hid (∀ V : World, V.heap[w.heap.size]? = W0.heap[w.heap.size]? → V.cell? ⟨w.heap.size, 0, none⟩ = some (.int .u32 boot) ∧ V.cell? ⟨w.heap.size, 1, none⟩ = some (.slice ra rs.length rc) ∧ V.cell? ⟨w.heap.size, 2, none⟩ = some (.string nm) ∧ V.cell? ⟨w.heap.size, 3, none⟩ = some (.slice pa ps.length pc) ∧ V.cell? ⟨w.heap.size, 4, none⟩ = some (.slice ka ks.length kc)) := Lib.hid (fun V e => by
    have e2 := e.trans HX0.out.1
    exact ⟨by rw [Lib.cell_of_heap e2]; rfl, by rw [Lib.cell_of_heap e2]; rfl, by rw [Lib.cell_of_heap e2]; rfl, by rw [Lib.cell_of_heap e2]; rfl, by rw [Lib.cell_of_heap e2]; rfl⟩)
  go_enter Tryz.func14, Tryz.ntmps14
  go_wp2_with fail
  try rw [hW0]
  clear hW0
  refine wp_region_held_drew (S := fun V => V.cell? ⟨w.heap.size, 0, none⟩ = some (.int .u32 boot) ∧ V.cell? ⟨w.heap.size, 1, none⟩ = some (.slice ra rs.length rc) ∧ V.cell? ⟨w.heap.size, 2, none⟩ = some (.string nm) ∧ V.cell? ⟨w.heap.size, 3, none⟩ = some (.slice pa ps.length pc) ∧ V.cell? ⟨w.heap.size, 4, none⟩ = some (.slice ka ks.length kc)) (by kernel_rfl) (SP.out W0 rfl) (fun hHeld => ?_)
  refine held_take 0 rfl (by kernel_rfl) (by kernel_rfl) (by kernel_rfl) (fun _ _ _ h => h) (by rfl) hHeld (v := ?_) (fun w hSw => ?_) (fun _ => ?_)
  rotate_left
  · ((try dsimp only at hSw); go_simp; (try with_reducible rfl))
  simp only [Act.put, List.setIfInBounds_toArray, List.set_cons_zero, List.set_cons_succ]
  refine held_take 1 rfl (by kernel_rfl) (by kernel_rfl) (by kernel_rfl) (fun _ _ _ h => h) (by rfl) hHeld (v := ?_) (fun w hSw => ?_) (fun _ => ?_)
  rotate_left
  · ((try dsimp only at hSw); go_simp; (try with_reducible rfl))
  simp only [Act.put, List.setIfInBounds_toArray, List.set_cons_zero, List.set_cons_succ]
  refine held_take 2 rfl (by kernel_rfl) (by kernel_rfl) (by kernel_rfl) (fun _ _ _ h => h) (by rfl) hHeld (v := ?_) (fun w hSw => ?_) (fun _ => ?_)
  rotate_left
  · ((try dsimp only at hSw); go_simp; (try with_reducible rfl))
  simp only [Act.put, List.setIfInBounds_toArray, List.set_cons_zero, List.set_cons_succ]
  refine held_take 3 rfl (by kernel_rfl) (by kernel_rfl) (by kernel_rfl) (fun _ _ _ h => h) (by rfl) hHeld (v := ?_) (fun w hSw => ?_) (fun _ => ?_)
  rotate_left
  · ((try dsimp only at hSw); go_simp; (try with_reducible rfl))
  simp only [Act.put, List.setIfInBounds_toArray, List.set_cons_zero, List.set_cons_succ]
  refine held_take 5 rfl (by kernel_rfl) (by kernel_rfl) (by kernel_rfl) (fun _ _ _ h => h) (by rfl) hHeld (v := ?_) (fun w hSw => ?_) (fun _ => ?_)
  rotate_left
  · ((try dsimp only at hSw); go_simp; (try with_reducible rfl))
  simp only [Act.put, List.setIfInBounds_toArray, List.set_cons_zero, List.set_cons_succ]
  refine held_take 6 rfl (by kernel_rfl) (by kernel_rfl) (by kernel_rfl) (fun _ _ _ h => h) (by rfl) hHeld (v := ?_) (fun w hSw => ?_) (fun _ => ?_)
  rotate_left
  · ((try dsimp only at hSw); go_simp; (try with_reducible rfl))
  simp only [Act.put, List.setIfInBounds_toArray, List.set_cons_zero, List.set_cons_succ]
  refine held_call 4 (by kernel_rfl) rfl (by rfl) (fun K hK => ?_)
  go_simp
  refine (C1.out W0.drew (HI.out.on HB0.out.drew)).mono ?_
  rintro e w1 ⟨A1, c1, rfl, p1, hb⟩
  have HB1 : Hid (Below W0.heap.size W0 w1) := Lib.hid ((Below.refl _ W0).drew.trans hb)
  have HP1 : Hid (w1.ownsRow W0.heap.size 68 2 (.slice A1 rs.length c1) rs.length (rs.flatMap resC)) := Lib.hid p1
  clear p1 hb
  dsimp only
  refine hK.out _ _ (SP.out w1 (HB1.out.block _ (by have := HS0.out; omega))) (fun hHeld => ?_)
  clear hK K
  refine held_call 7 (by kernel_rfl) rfl (by rfl) (fun K hK => ?_)
  go_simp
  refine (C2.out w1 ((HI.out.on (HB0.out.trans (HB1.out.mono HB0.out.size))).root)).mono ?_
  rintro e w2 ⟨m, F, D, rfl, q1, q2, q3, q4, q5, hb⟩
  have HB2 := Lib.hid hb
  have HQ := Lib.hid (And.intro q1 (And.intro q2 (And.intro q3 (And.intro q4 q5))))
  have HX2 := Lib.hid ((hb.block _ (by have h1 := HS0.out; have h2 := HB1.out.size; omega)).trans ((HB1.out.block _ (by have := HS0.out; omega)).trans HX0.out.2))
  clear q1 q2 q3 q4 q5 hb
  obtain ⟨mn, mpa, mpc, mps, mka, mkc, mks⟩ := m
  simp only [Nd.val, Nd.name, Nd.pv, Nd.kv, Nd.pa, Nd.pc, Nd.props, Nd.ka, Nd.kc, Nd.kids]
  refine hK.out _ _ (SP.out w2 ((HB2.out.block _ (by have h1 := HS0.out; have h2 := HB1.out.size; omega)).trans (HB1.out.block _ (by have := HS0.out; omega)))) (fun hHeld => ?_)
  clear hK K
  refine held_take 8 rfl (by kernel_rfl) (by kernel_rfl) (by kernel_rfl) (fun _ _ _ h => h) (by rfl) hHeld (v := ?_) (fun w hSw => ?_) (fun _ => ?_)
  rotate_left
  · ((try dsimp only at hSw); go_simp; (try with_reducible rfl))
  simp only [Act.put, List.setIfInBounds_toArray, List.set_cons_zero, List.set_cons_succ]
  have g0 : w2.cell? ⟨w.heap.size + 1, 0, none⟩ = some (Value.int .u32 0) := by rw [Lib.cell_of_heap HX2.out]; rfl
  have g1 : w2.cell? ⟨w.heap.size + 1, 1, none⟩ = some (Value.slice none 0 0) := by rw [Lib.cell_of_heap HX2.out]; rfl
  have g2 : w2.cell? ⟨w.heap.size + 1, 2, none⟩ = some (Value.string ⟨#[]⟩) := by rw [Lib.cell_of_heap HX2.out]; rfl
  have g3 : w2.cell? ⟨w.heap.size + 1, 3, none⟩ = some (Value.slice none 0 0) := by rw [Lib.cell_of_heap HX2.out]; rfl
  have g4 : w2.cell? ⟨w.heap.size + 1, 4, none⟩ = some (Value.slice none 0 0) := by rw [Lib.cell_of_heap HX2.out]; rfl
  have f0 := Lib.frozen_of_heap HX2.out 0
  have f1 := Lib.frozen_of_heap HX2.out 1
  have f2 := Lib.frozen_of_heap HX2.out 2
  have f3 := Lib.frozen_of_heap HX2.out 3
  have f4 := Lib.frozen_of_heap HX2.out 4
  have HCH := Lib.hid ((((((Chg.refl (fun q => q = w.heap.size + 1) w2).setCell (a := ⟨w.heap.size + 1, 0, none⟩) (.inl rfl) (.int .u32 boot)).setCell (a := ⟨w.heap.size + 1, 1, none⟩) (.inl rfl) (.slice A1 rs.length c1)).setCell (a := ⟨w.heap.size + 1, 2, none⟩) (.inl rfl) (.string mn)).setCell (a := ⟨w.heap.size + 1, 3, none⟩) (.inl rfl) (.slice mpa mps.length mpc)).setCell (a := ⟨w.heap.size + 1, 4, none⟩) (.inl rfl) (.slice mka mks.length mkc))
  have HBX := Lib.hid (heap_setCell_same _ (w.heap.size + 1) 4 _ _ (.slice mka mks.length mkc) (heap_setCell_same _ (w.heap.size + 1) 3 _ _ (.slice mpa mps.length mpc) (heap_setCell_same _ (w.heap.size + 1) 2 _ _ (.string mn) (heap_setCell_same _ (w.heap.size + 1) 1 _ _ (.slice A1 rs.length c1) (heap_setCell_same _ (w.heap.size + 1) 0 _ _ (.int .u32 boot) HX2.out)))))
  refine held_call 9 (by kernel_rfl) rfl (by rfl) (fun K hK => ?_)
  go_simp
  clear g0 g1 g2 g3 g4 f0 f1 f2 f3 f4
  obtain ⟨wf, hwf⟩ : ∃ wf, (((((w2.setCell ⟨w.heap.size + 1, 0, none⟩ (.int .u32 boot)).setCell ⟨w.heap.size + 1, 1, none⟩ (.slice A1 rs.length c1)).setCell ⟨w.heap.size + 1, 2, none⟩ (.string mn)).setCell ⟨w.heap.size + 1, 3, none⟩ (.slice mpa mps.length mpc)).setCell ⟨w.heap.size + 1, 4, none⟩ (.slice mka mks.length mkc)) = wf := ⟨_, rfl⟩
  rw [hwf] at HCH HBX ⊢
  clear hwf
  refine hK.out _ _ (SP.out wf ((HCH.out.block _ (by have h1 := HS0.out; have h2 := HB1.out.size; have h3 := HB2.out.size; omega) (fun e => by omega)).trans ((HB2.out.block _ (by have h1 := HS0.out; have h2 := HB1.out.size; omega)).trans (HB1.out.block _ (by have := HS0.out; omega))))) (fun hHeld => ?_)
  clear hK K
  refine wpAnyH_done (by kernel_rfl) ?_ _
  clear hHeld
  go_wp2_with fail
  have d0 : wf.cell? ⟨w.heap.size + 1, 0, none⟩ = some (.int .u32 boot) := by rw [Lib.cell_of_heap HBX.out]; rfl
  have d1 : wf.cell? ⟨w.heap.size + 1, 1, none⟩ = some (.slice A1 rs.length c1) := by rw [Lib.cell_of_heap HBX.out]; rfl
  have d2 : wf.cell? ⟨w.heap.size + 1, 2, none⟩ = some (.string mn) := by rw [Lib.cell_of_heap HBX.out]; rfl
  have d3 : wf.cell? ⟨w.heap.size + 1, 3, none⟩ = some (.slice mpa mps.length mpc) := by rw [Lib.cell_of_heap HBX.out]; rfl
  have d4 : wf.cell? ⟨w.heap.size + 1, 4, none⟩ = some (.slice mka mks.length mkc) := by rw [Lib.cell_of_heap HBX.out]; rfl
  refine bodyPost_ret (v := .agg #[(.int .u32 boot), (.slice A1 rs.length c1), (.string mn), (.slice mpa mps.length mpc), (.slice mka mks.length mkc)]) (by simp [results, Tryz.results14, go_sem, d0, d1, d2, d3, d4]; try rfl) rfl ?_
  obtain ⟨q1, q2, q3, q4, q5⟩ := HQ.out
  have s0 := HS0.out
  have s1 := HB1.out.size
  have s2 := HB2.out.size
  have s3 := HCH.out.size
  have row1 := own_same HP1.out (w' := wf) (fun g e => by
    have h1 := HP1.out.lt g e
    exact (HCH.out.block g (by omega) (fun e => by omega)).trans (HB2.out.block g h1.2))
  obtain ⟨_, r1, r2, r3⟩ := rrow_own row1
  refine ⟨⟨boot, A1, c1, rs, .mk mn mpa mpc mps mka mkc mks⟩, F, D, rfl, rfl, rfl, q1, ⟨q2.chg HCH.out (fun g e e' => by have := (q3 g e).1; omega) (fun g e e' => by have := (q4 g e).1; omega), fun g e => by have := q3 g e; omega, fun g e => by have := q4 g e; exact ⟨by omega, by omega, this.2.2⟩, fun g e => (q5 g e).chg HCH.out (by have := q4 g e; omega) (fun e' => by have := (q4 g e).1; omega), r3, fun h0 b o e => ?_, HBT.out, ⟨r1, r2, HLN.out⟩, HNU.out⟩, HB0.out.trans ((HB1.out.mono HB0.out.size).trans ((HB2.out.mono (Nat.le_trans HB0.out.size s1)).trans (HCH.out.below (by omega) (fun g e => by omega))))⟩
  have e' : A1 = some ⟨b, o, none⟩ := e
  have hl := HP1.out.lt b (by rw [e']; rfl)
  exact ⟨by omega, fun h => by have := (q3 b h).1; omega, fun h => by have := (q4 b h).1; omega⟩
end Go.Proofs.YtihlpcbebpnmkaaGreatDoor

/-! Which one of a row is the first of each name: a map that the call makes. -/
namespace Go.Proofs.YtihlpcbebpnmkaaGreatDoor
open Go.RowKit Go.Maps Go.WideMaps
set_option linter.unusedVariables false
set_option linter.unusedSimpArgs false

/-- The map says of each name which one is the first. -/
def FirstsM (l : List ByteArray) (D : DataW Unit) : Prop := ∀ s, Maps.has D (keyL s) = decide (0 ≤ idxOf l s) ∧ (0 ≤ idxOf l s → D.atKey (keyL s) (.lit (.int .i64 0)) = .lit (.int .i64 (idxOf l s)))
theorem keyL_inj {x s : ByteArray} (h : keyL x = keyL s) : x = s := WideShapes.bytes_inj (Lit.string.inj h)
theorem idxOf_snoc : ∀ (l : List ByteArray) (x s : ByteArray), idxOf (l ++ [x]) s = if 0 ≤ idxOf l s then idxOf l s else if x = s then (l.length : Int) else -1
  | [], x, s => by simp [idxOf]
  | y :: l, x, s => by
    rw [List.cons_append, idxOf, idxOf, idxOf_snoc l x s]
    by_cases hy : y = s
    · rw [if_pos hy, if_pos hy]; simp
    · rw [if_neg hy, if_neg hy]
      rcases idxOf_neg_or l s with h | h
      · rw [h]
        by_cases hx : x = s
        · simp [hx]; omega
        · simp [hx]
      · have e1 : ¬ idxOf l s < 0 := by omega
        simp only [h, if_true, if_neg e1]
        rw [if_pos (by omega)]
theorem firstsM_zero : FirstsM [] (.map []) := fun s => ⟨by simp [Maps.has_eq, idxOf], fun h => absurd h (by simp [idxOf])⟩
theorem firstsM_keep {l : List ByteArray} {D : DataW Unit} (h : FirstsM l D) {x : ByteArray} (hx : 0 ≤ idxOf l x) : FirstsM (l ++ [x]) D := fun s => by
  have e : idxOf (l ++ [x]) s = idxOf l s := by
    rw [idxOf_snoc]
    by_cases hs : 0 ≤ idxOf l s
    · rw [if_pos hs]
    · rw [if_neg hs, if_neg (fun (e : x = s) => hs (by rw [← e]; exact hx))]
      rcases idxOf_neg_or l s with h' | h'
      · exact h'.symm
      · exact absurd h' hs
  rw [e]
  exact h s
theorem firstsM_put {l : List ByteArray} {D : DataW Unit} (h : FirstsM l D) (hD : IsMap D) {x : ByteArray} (hx : idxOf l x < 0) : FirstsM (l ++ [x]) (D.put (keyL x) (.lit (.int .i64 l.length))) := fun s => by
  rw [idxOf_snoc]
  by_cases hs : x = s
  · subst hs
    rw [if_neg (by omega), if_pos rfl]
    have hk : WideAt.IsKeyLit (keyL x) := by trivial
    exact ⟨by rw [has_put_same hD hk]; simp, fun _ => atKey_put_same hD hk _ _⟩
  · have hk : keyL s ≠ keyL x := fun e => hs (keyL_inj e).symm
    have e : (if 0 ≤ idxOf l s then idxOf l s else if x = s then (l.length : Int) else -1) = idxOf l s := by
      by_cases h0 : 0 ≤ idxOf l s
      · rw [if_pos h0]
      · rw [if_neg h0, if_neg hs]
        rcases idxOf_neg_or l s with h' | h'
        · exact h'.symm
        · exact absurd h' h0
    rw [e, has_put_other hk, atKey_put_other hk]
    exact h s
theorem take_snoc {α : Type} {l : List α} {k : Nat} (hk : k < l.length) : l.take (k + 1) = l.take k ++ [l[k]] := by
  rw [List.take_add_one, List.getElem?_eq_getElem hk]; rfl
theorem zeroI (w : World) : (zeroValue 3).run Tryz.prog w = .ok (.int .i64 0) w := by kernel_rfl
theorem elemI {z : Int} (h0 : 0 ≤ z) (h1 : z ≤ 9223372036854775807) : plainElem (H := Unit) Tryz.prog 3 (.int .i64 z) = some (.lit (.int .i64 z), []) := plainElem_int Tryz.underlying3 (by simp [Lit.wf, IntKind.min, IntKind.max, IntKind.signed, IntKind.bits]; omega)
theorem ownsMap_same {w w' : World} {b n : Nat} {k : TypeId} {R : Value → Option (DataW Unit × List MemPlace)} {D : DataW Unit} (h : w.ownsMap Tryz.prog k R b n D) (hb : w'.heap[b]? = w.heap[b]?) : w'.ownsMap Tryz.prog k R b n D := by
  obtain ⟨es, clock, h1, h2⟩ := h
  exact ⟨es, clock, hb.trans h1, h2⟩

theorem run_makeMap_int (w : World) (n : Int) : (Instr.makeMap 164 (some (.int .i64 n))).run Tryz.prog w = .ok (.map (some w.heap.size)) (w.alloc (.map #[] 0)) := by
  simp [Instr.makeMap, run_underlying Tryz.underlying164, asInt, asIntOf, Result.andThen]

theorem mpropName_any (p : PV) (w : World) : Calls Tryz.prog 102 #[.agg #[.string p.name, p.val]] w fun e w' => e = .returned (.string p.name) ∧ Below w.heap.size w w' := by
  obtain ⟨x, a, c, zs⟩ := p
  show Calls _ _ #[.agg #[.string x, .slice a zs.length c]] _ _
  go_enter Tryz.func102, Tryz.ntmps102
  go_wp2
  go_ret
  exact ⟨rfl, (Below.refl _ _).alloc (Nat.le_refl _) _⟩
theorem mnodeName_any (n : Nd) (w : World) : Calls Tryz.prog 104 #[n.val] w fun e w' => e = .returned (.string n.name) ∧ Below w.heap.size w w' := by
  obtain ⟨nm, pa, pc, ps, ka, kc, ks⟩ := n
  show Calls _ _ #[.agg #[.string nm, .slice pa ps.length pc, .slice ka ks.length kc]] _ _
  go_enter Tryz.func104, Tryz.ntmps104
  go_wp2
  go_ret
  exact ⟨rfl, (Below.refl _ _).alloc (Nat.le_refl _) _⟩

set_option maxRecDepth 20000 in
set_option maxHeartbeats 4000000 in
theorem firstsP_any (A : Option Addr) (c : Nat) (ps : List PV) (w : World) (hrow : PRow w w.heap.size A ps) (hn : ∀ p ∈ ps, p.name.size ≤ 140737488351232) (hlen : ps.length ≤ 1099511627776) :
    Calls Tryz.prog 101 #[.slice A ps.length c, .func (.func 102) #[] #[]] w fun e w' => (∃ D, e = .returned (.map (some w.heap.size)) ∧ w.heap.size < w'.heap.size ∧ FirstsM (ps.map PV.name) D ∧ w'.ownsMap Tryz.prog 9 (plainElem Tryz.prog 3) w.heap.size ps.length D) ∧ Below w.heap.size w w' := by
  have hmm := run_makeMap_int
  have HI := Lib.hid hrow
  have HN := Lib.hid hn
  have HM := Lib.hid (show (ps.map PV.name).length = ps.length from List.length_map _)
  clear hrow hn
  go_enter Tryz.func101, Tryz.ntmps101
  go_wp2_with fail
  go_loopw [15] (fun i wr => ∃ k : Nat, k ≤ ps.length ∧ i = .int .i64 k ∧ (∃ D, FirstsM ((ps.map PV.name).take k) D ∧ wr.ownsMap Tryz.prog 9 (plainElem Tryz.prog 3) w.heap.size k D) ∧ Below w.heap.size w wr ∧ w.heap.size < wr.heap.size) (fun i _ => ps.length - (intOf i).toNat)
  case atStart => exact ⟨0, Nat.zero_le _, rfl, ⟨.map [], by rw [List.take_zero]; exact firstsM_zero, World.ownsMap_made _ _ _ _⟩, (Below.refl _ _).alloc (Nat.le_refl _) _, by simp⟩
  case round =>
    obtain ⟨k, hk, rfl, ⟨D, hfm, hown⟩, hb, hz⟩ := hrel
    have HF := Lib.hid hfm
    have HB := Lib.hid hb
    have HO := Lib.hid hown
    have HZ := Lib.hid hz
    clear hfm hb hown hz
    by_cases hlt : k < ps.length
    · obtain ⟨b, o, e, hb, hcc⟩ := (HI.out.keep (fun _ hp => HB.out.cell hp)) (by omega)
      obtain rfl : A = _ := e
      obtain ⟨c0, c1⟩ := hcc k hlt
      replace c0 : _ = some (Value.string ps[k].name) := c0
      replace c1 : _ = some (Value.slice ps[k].addr ps[k].zs.length ps[k].cap) := c1
      clear hcc
      have hxm : Hid ((ps.map PV.name)[k]'(by rw [HM.out]; exact hlt) = ps[k].name) := List.getElem_map _
      have HK := Lib.hid (key_ok (HN.out _ (List.getElem_mem hlt)))
      have HA := Lib.hid (Below.alloc (Below.refl wr.heap.size wr) (Nat.le_refl _) (.cells #[Value.string ps[k].name, .slice ps[k].addr ps[k].zs.length ps[k].cap] 61))
      have HC := Lib.hid (mpropName_any ps[k])
      have HTS : Hid ((ps.map PV.name).take (k + 1) = (ps.map PV.name).take k ++ [ps[k].name]) := by
        show (ps.map PV.name).take (k + 1) = _
        rw [take_snoc (by rw [HM.out]; exact hlt), hxm.out]
      have HTL : Hid (((ps.map PV.name).take k).length = k) := by
        show ((ps.map PV.name).take k).length = k
        rw [List.length_take, HM.out]; omega
      by_cases hmem : 0 ≤ idxOf ((ps.map PV.name).take k) ps[k].name
      · have hhas : Maps.has D (keyL ps[k].name) = true := by rw [(HF.out _).1]; simpa using hmem
        have HFK := Lib.hid (firstsM_keep HF.out hmem)
        clear hmem
        go_wp2_with fail
        refine (HC.out _).mono ?_
        rintro e w1 ⟨rfl, hb1⟩
        have HB1 := Lib.hid (HA.out.trans (hb1.mono HA.out.size))
        have HO1 := Lib.hid (ownsMap_below HO.out HB1.out HZ.out)
        clear hb1
        go_wp2_with (first | (at_lookup; refine wpList_lookup_own_ok_int _ rfl _ _ 164 rfl 9 3 .i64 lawS Tryz.underlying164 Tryz.underlying3 (zeroI _) w.heap.size k _ rfl HO1.out _ _ rfl HK.out ?_; intro cc hat hwc; clear hat hwc) | fail)
        go_roundw
        case rel => exact ⟨k + 1, by omega, by go_num, ⟨D, by rw [HTS.out]; exact HFK.out, HO1.out.mono (Nat.le_succ _)⟩, HB.out.trans (HB1.out.mono HB.out.size), by have h1 := HZ.out; have h2 := HB1.out.size; omega⟩
        case measure => simp [intOf]; omega
      · have hhas : Maps.has D (keyL ps[k].name) = false := by rw [(HF.out _).1]; simpa using hmem
        have HFP := Lib.hid (firstsM_put HF.out HO.out.isMap (by omega : idxOf ((ps.map PV.name).take k) ps[k].name < 0))
        clear hmem
        go_wp2_with fail
        refine (HC.out _).mono ?_
        rintro e w1 ⟨rfl, hb1⟩
        have HB1 := Lib.hid (HA.out.trans (hb1.mono HA.out.size))
        have HO1 := Lib.hid (ownsMap_below HO.out HB1.out HZ.out)
        have d0 : w1.cell? ⟨wr.heap.size, 0, none⟩ = some (Value.string ps[k].name) := ((hb1.cell (p := ⟨wr.heap.size, 0, none⟩) (by simp)).trans (World.cell?_alloc_new _ _ _ _))
        have d1 : w1.cell? ⟨wr.heap.size, 1, none⟩ = some (Value.slice ps[k].addr ps[k].zs.length ps[k].cap) := ((hb1.cell (p := ⟨wr.heap.size, 1, none⟩) (by simp)).trans (World.cell?_alloc_new _ _ _ _))
        clear hb1
        go_wp2_with (first | (at_lookup; refine wpList_lookup_own_ok_int _ rfl _ _ 164 rfl 9 3 .i64 lawS Tryz.underlying164 Tryz.underlying3 (zeroI _) w.heap.size k _ rfl HO1.out _ _ rfl HK.out ?_; intro cc hat hwc; clear hat hwc) | fail)
        refine (HC.out _).mono ?_
        rintro e w2 ⟨rfl, hb2⟩
        have HB2 := Lib.hid (HB1.out.trans (hb2.mono HB1.out.size))
        have HO2 := Lib.hid (ownsMap_below HO.out HB2.out HZ.out)
        clear hb2
        go_wp2_with (first | (at_mapUpdate; refine wpList_mapUpdate_own _ rfl _ _ _ 164 rfl 9 3 lawS Tryz.underlying164 (plainElem Tryz.prog 3) w.heap.size k _ rfl HO2.out (by unfold maxLen; omega) _ _ _ rfl rfl HK.out (.lit (.int .i64 k)) [] (elemI (by omega) (by omega)) ?_; intro w3 hown3 hgrow3) | fail)
        go_roundw
        case rel => exact ⟨k + 1, by omega, by go_num, ⟨_, by rw [HTS.out]; have h := HFP.out; rw [HTL.out] at h; exact h, hown3⟩, (HB.out.trans (HB2.out.mono HB.out.size)).grown hgrow3 (by have h1 := HB.out.size; have h2 := HB2.out.size; omega) (fun j hj => by cases hj; exact Nat.le_refl _), by have h1 := HZ.out; have h2 := HB2.out.size; have h3 := hgrow3.size; omega⟩
        case measure => simp [intOf]; omega
    · obtain rfl : k = ps.length := by omega
      go_wp2
      go_ret
      exact ⟨⟨D, rfl, HZ.out, by have h := HF.out; rw [List.take_of_length_le (by rw [HM.out]; exact Nat.le_refl _)] at h; exact h, HO.out⟩, HB.out⟩

set_option maxRecDepth 20000 in
set_option maxHeartbeats 4000000 in
theorem firstsN_any (A : Option Addr) (c : Nat) (ps : List Nd) (w : World) (hrow : KRow w w.heap.size A ps) (hn : ∀ p ∈ ps, p.name.size ≤ 140737488351232) (hlen : ps.length ≤ 1099511627776) :
    Calls Tryz.prog 103 #[.slice A ps.length c, .func (.func 104) #[] #[]] w fun e w' => (∃ D, e = .returned (.map (some w.heap.size)) ∧ w.heap.size < w'.heap.size ∧ FirstsM (ps.map Nd.name) D ∧ w'.ownsMap Tryz.prog 9 (plainElem Tryz.prog 3) w.heap.size ps.length D) ∧ Below w.heap.size w w' := by
  have hmm := run_makeMap_int
  have HI := Lib.hid hrow
  have HN := Lib.hid hn
  have HM := Lib.hid (show (ps.map Nd.name).length = ps.length from List.length_map _)
  clear hrow hn
  go_enter Tryz.func103, Tryz.ntmps103
  go_wp2_with fail
  go_loopw [15] (fun i wr => ∃ k : Nat, k ≤ ps.length ∧ i = .int .i64 k ∧ (∃ D, FirstsM ((ps.map Nd.name).take k) D ∧ wr.ownsMap Tryz.prog 9 (plainElem Tryz.prog 3) w.heap.size k D) ∧ Below w.heap.size w wr ∧ w.heap.size < wr.heap.size) (fun i _ => ps.length - (intOf i).toNat)
  case atStart => exact ⟨0, Nat.zero_le _, rfl, ⟨.map [], by rw [List.take_zero]; exact firstsM_zero, World.ownsMap_made _ _ _ _⟩, (Below.refl _ _).alloc (Nat.le_refl _) _, by simp⟩
  case round =>
    obtain ⟨k, hk, rfl, ⟨D, hfm, hown⟩, hb, hz⟩ := hrel
    have HF := Lib.hid hfm
    have HB := Lib.hid hb
    have HO := Lib.hid hown
    have HZ := Lib.hid hz
    clear hfm hb hown hz
    by_cases hlt : k < ps.length
    · obtain ⟨b, o, e, hb, hcc⟩ := (HI.out.keep (fun _ hp => HB.out.cell hp)) (by omega)
      obtain rfl : A = _ := e
      obtain ⟨c0, c1, c2⟩ := hcc k hlt
      replace c0 : _ = some (Value.string ps[k].name) := c0
      replace c1 : _ = some (Value.slice ps[k].pa ps[k].props.length ps[k].pc) := c1
      replace c2 : _ = some (Value.slice ps[k].ka ps[k].kids.length ps[k].kc) := c2
      clear hcc
      have hxm : Hid ((ps.map Nd.name)[k]'(by rw [HM.out]; exact hlt) = ps[k].name) := List.getElem_map _
      have HK := Lib.hid (key_ok (HN.out _ (List.getElem_mem hlt)))
      have HA := Lib.hid (Below.alloc (Below.refl wr.heap.size wr) (Nat.le_refl _) (.cells #[Value.string ps[k].name, .slice ps[k].pa ps[k].props.length ps[k].pc, .slice ps[k].ka ps[k].kids.length ps[k].kc] 27))
      have HC := Lib.hid (mnodeName_any ps[k])
      have HTS : Hid ((ps.map Nd.name).take (k + 1) = (ps.map Nd.name).take k ++ [ps[k].name]) := by
        show (ps.map Nd.name).take (k + 1) = _
        rw [take_snoc (by rw [HM.out]; exact hlt), hxm.out]
      have HTL : Hid (((ps.map Nd.name).take k).length = k) := by
        show ((ps.map Nd.name).take k).length = k
        rw [List.length_take, HM.out]; omega
      by_cases hmem : 0 ≤ idxOf ((ps.map Nd.name).take k) ps[k].name
      · have hhas : Maps.has D (keyL ps[k].name) = true := by rw [(HF.out _).1]; simpa using hmem
        have HFK := Lib.hid (firstsM_keep HF.out hmem)
        clear hmem
        go_wp2_with fail
        refine (HC.out _).mono ?_
        rintro e w1 ⟨rfl, hb1⟩
        have HB1 := Lib.hid (HA.out.trans (hb1.mono HA.out.size))
        have HO1 := Lib.hid (ownsMap_below HO.out HB1.out HZ.out)
        clear hb1
        go_wp2_with (first | (at_lookup; refine wpList_lookup_own_ok_int _ rfl _ _ 164 rfl 9 3 .i64 lawS Tryz.underlying164 Tryz.underlying3 (zeroI _) w.heap.size k _ rfl HO1.out _ _ rfl HK.out ?_; intro cc hat hwc; clear hat hwc) | fail)
        go_roundw
        case rel => exact ⟨k + 1, by omega, by go_num, ⟨D, by rw [HTS.out]; exact HFK.out, HO1.out.mono (Nat.le_succ _)⟩, HB.out.trans (HB1.out.mono HB.out.size), by have h1 := HZ.out; have h2 := HB1.out.size; omega⟩
        case measure => simp [intOf]; omega
      · have hhas : Maps.has D (keyL ps[k].name) = false := by rw [(HF.out _).1]; simpa using hmem
        have HFP := Lib.hid (firstsM_put HF.out HO.out.isMap (by omega : idxOf ((ps.map Nd.name).take k) ps[k].name < 0))
        clear hmem
        go_wp2_with fail
        refine (HC.out _).mono ?_
        rintro e w1 ⟨rfl, hb1⟩
        have HB1 := Lib.hid (HA.out.trans (hb1.mono HA.out.size))
        have HO1 := Lib.hid (ownsMap_below HO.out HB1.out HZ.out)
        have d0 : w1.cell? ⟨wr.heap.size, 0, none⟩ = some (Value.string ps[k].name) := ((hb1.cell (p := ⟨wr.heap.size, 0, none⟩) (by simp)).trans (World.cell?_alloc_new _ _ _ _))
        have d1 : w1.cell? ⟨wr.heap.size, 1, none⟩ = some (Value.slice ps[k].pa ps[k].props.length ps[k].pc) := ((hb1.cell (p := ⟨wr.heap.size, 1, none⟩) (by simp)).trans (World.cell?_alloc_new _ _ _ _))
        have d2 : w1.cell? ⟨wr.heap.size, 2, none⟩ = some (Value.slice ps[k].ka ps[k].kids.length ps[k].kc) := ((hb1.cell (p := ⟨wr.heap.size, 2, none⟩) (by simp)).trans (World.cell?_alloc_new _ _ _ _))
        clear hb1
        go_wp2_with (first | (at_lookup; refine wpList_lookup_own_ok_int _ rfl _ _ 164 rfl 9 3 .i64 lawS Tryz.underlying164 Tryz.underlying3 (zeroI _) w.heap.size k _ rfl HO1.out _ _ rfl HK.out ?_; intro cc hat hwc; clear hat hwc) | fail)
        refine (HC.out _).mono ?_
        rintro e w2 ⟨rfl, hb2⟩
        have HB2 := Lib.hid (HB1.out.trans (hb2.mono HB1.out.size))
        have HO2 := Lib.hid (ownsMap_below HO.out HB2.out HZ.out)
        clear hb2
        go_wp2_with (first | (at_mapUpdate; refine wpList_mapUpdate_own _ rfl _ _ _ 164 rfl 9 3 lawS Tryz.underlying164 (plainElem Tryz.prog 3) w.heap.size k _ rfl HO2.out (by unfold maxLen; omega) _ _ _ rfl rfl HK.out (.lit (.int .i64 k)) [] (elemI (by omega) (by omega)) ?_; intro w3 hown3 hgrow3) | fail)
        go_roundw
        case rel => exact ⟨k + 1, by omega, by go_num, ⟨_, by rw [HTS.out]; have h := HFP.out; rw [HTL.out] at h; exact h, hown3⟩, (HB.out.trans (HB2.out.mono HB.out.size)).grown hgrow3 (by have h1 := HB.out.size; have h2 := HB2.out.size; omega) (fun j hj => by cases hj; exact Nat.le_refl _), by have h1 := HZ.out; have h2 := HB2.out.size; have h3 := hgrow3.size; omega⟩
        case measure => simp [intOf]; omega
    · obtain rfl : k = ps.length := by omega
      go_wp2
      go_ret
      exact ⟨⟨D, rfl, HZ.out, by have h := HF.out; rw [List.take_of_length_le (by rw [HM.out]; exact Nat.le_refl _)] at h; exact h, HO.out⟩, HB.out⟩
end Go.Proofs.YtihlpcbebpnmkaaGreatDoor

/-! A node at a place, of the call's own, while properties are laid over it. -/
namespace Go.Proofs.YtihlpcbebpnmkaaGreatDoor
open Go.RowKit
set_option linter.unusedVariables false
set_option linter.unusedSimpArgs false

/-- The node n at ⟨pb, o⟩ of w has other properties in W. -/
structure Lay1 (w : World) (pb o : Nat) (t : TypeId) (cur : Array Value) (n : Nd) (F D : Nat → Prop) (W : World) (A' : Option Addr) (c' : Nat) (P' : List PV) (F' D' : Nat → Prop) : Prop where
  own : Own W F' D' (.mk n.name A' c' P' n.ka n.kc n.kids)
  hF : ∀ g, F g → F' g
  hF' : ∀ g, F' g → (F g ∨ w.heap.size ≤ g) ∧ g < W.heap.size
  hD : ∀ g, D g → D' g
  hD' : ∀ g, D' g → (D g ∨ w.heap.size ≤ g) ∧ g < W.heap.size ∧ ¬ F' g
  box : W.heap[pb]? = some (.cells (cur.setIfInBounds (o + 1) (.slice A' P'.length c')) t (0, 0))
  chg : Chg (fun g => F g ∨ g = pb) w W
  pbw : pb < w.heap.size
  pbF : ¬ F pb
  pbD : ¬ D pb
  oin : o + 1 < cur.size
section
variable {w W W2 : World} {pb o c' : Nat} {t : TypeId} {cur : Array Value} {n : Nd} {F D F' D' E : Nat → Prop} {A' : Option Addr} {P' : List PV}
theorem Lay1.pbF' (h : Lay1 w pb o t cur n F D W A' c' P' F' D') : ¬ F' pb := fun e => (h.hF' pb e).1.elim h.pbF (fun e' => by have := h.pbw; omega)
theorem Lay1.pbD' (h : Lay1 w pb o t cur n F D W A' c' P' F' D') : ¬ D' pb := fun e => (h.hD' pb e).1.elim h.pbD (fun e' => by have := h.pbw; omega)
theorem Lay1.start (hown : Own w F D n) (hb : ∀ g, F g → g < w.heap.size) (hdb : ∀ g, D g → g < w.heap.size ∧ ¬ F g) (hbox : w.heap[pb]? = some (.cells cur t (0, 0))) (hc : cur[o + 1]? = some n.pv) (hpF : ¬ F pb) (hpD : ¬ D pb) :
    Lay1 w pb o t cur n F D w n.pa n.pc n.props F D := by
  have ho : o + 1 < cur.size := (Array.getElem?_eq_some_iff.1 hc).1
  refine ⟨by cases n; exact hown, fun _ h => h, fun g h => ⟨.inl h, hb g h⟩, fun _ h => h, fun g h => ⟨.inl h, (hdb g h).1, (hdb g h).2⟩, ?_, Chg.refl _ _, (Array.getElem?_eq_some_iff.1 hbox).1, hpF, hpD, ho⟩
  have : cur.setIfInBounds (o + 1) (.slice n.pa n.props.length n.pc) = cur := by
    apply Array.ext_getElem?
    intro i
    by_cases hi : o + 1 = i
    · subst hi
      rw [Array.getElem?_setIfInBounds_self_of_lt ho, hc]; rfl
    · rw [Array.getElem?_setIfInBounds_ne hi]
  rw [this]
  exact hbox
theorem Lay1.kept (h : Lay1 w pb o t cur n F D W A' c' P' F' D') (hc : Chg E W W2) (hE : ∀ g, E g → w.heap.size ≤ g ∧ ¬ F' g ∧ ¬ D' g) : Lay1 w pb o t cur n F D W2 A' c' P' F' D' :=
  ⟨h.own.chg hc (fun g e e' => (hE g e').2.1 e) (fun g e e' => (hE g e').2.2 e), h.hF, fun g e => ⟨(h.hF' g e).1, Nat.lt_of_lt_of_le (h.hF' g e).2 hc.size⟩, h.hD, fun g e => ⟨(h.hD' g e).1, Nat.lt_of_lt_of_le (h.hD' g e).2.1 hc.size, (h.hD' g e).2.2⟩,
    (hc.block pb (Nat.lt_of_lt_of_le h.pbw h.chg.size) (fun e => by have := (hE pb e).1; have := h.pbw; omega)).trans h.box, h.chg.trans hc (fun g hg e => by have := (hE g e).1; omega), h.pbw, h.pbF, h.pbD, h.oin⟩
theorem Lay1.on (h : Lay1 w pb o t cur n F D W A' c' P' F' D') (hb : Below W.heap.size W W2) : Lay1 w pb o t cur n F D W2 A' c' P' F' D' := h.kept (E := fun _ => False) (Chg.ofBelow hb) (fun _ e => e.elim)
theorem Lay1.cell (h : Lay1 w pb o t cur n F D W A' c' P' F' D') : W.cell? ⟨pb, o + 1, none⟩ = some (.slice A' P'.length c') ∧ W.frozen? ⟨pb, o + 1, none⟩ = false := by
  refine ⟨?_, frozen_of_row W pb _ _ _ h.box⟩
  rw [cell_of_row W pb (o + 1) _ _ _ h.box, Array.getElem?_setIfInBounds_self_of_lt h.oin]
theorem Lay1.caps (h : Lay1 w pb o t cur n F D W A' c' P' F' D') : P'.length ≤ c' ∧ c' ≤ 9223372036854775807 := by
  obtain ⟨_, hp, _⟩ := h.own.parts
  exact ⟨(prow_own hp).2.1, (prow_own hp).2.2.1⟩
/-- The j-th property's place. -/
theorem Lay1.at_ (h : Lay1 w pb o t cur n F D W A' c' P' F' D') {j : Nat} (hj : j < P'.length) : ∃ gp, A' = some ⟨gp, 0, none⟩ ∧ F' gp ∧ gp ≠ pb ∧ gp < W.heap.size ∧ (∀ i, W.frozen? ⟨gp, i, none⟩ = false) ∧ W.cell? ⟨gp, j * 2, none⟩ = some (.string P'[j].name) ∧ W.cell? ⟨gp, j * 2 + 1, none⟩ = some P'[j].val := by
  obtain ⟨_, hp, _, fp, _⟩ := h.own.parts
  replace hp : W.ownsRow 0 61 2 (.slice A' P'.length c') P'.length (P'.flatMap pC) := hp
  obtain ⟨_, _, _, hr⟩ := prow_own hp
  obtain ⟨g, o', e, hg, hc⟩ := hr (by omega)
  have e0 : o' = 0 := by
    rcases hp.2 with ⟨e1, _⟩ | ⟨g1, cap, cur1, e1, _⟩
    · rw [e] at e1; simp at e1
    · rw [e] at e1; simp at e1; omega
  subst e0
  subst e
  have hF := fp g rfl
  obtain ⟨c0, c1⟩ := hc j hj
  rw [Nat.zero_add] at c0 c1
  exact ⟨g, rfl, hF, fun e => h.pbF' (e ▸ hF), hg, fun i => World.ownsRow.frozenAt hp i, c0, c1⟩
/-- A value takes the place of the j-th property's. -/
theorem Lay1.put {W1 : World} (h1 : Lay1 w pb o t cur n F D W1 A' c' P' F' D') (hb : Below W1.heap.size W1 W) {j gp : Nat} (hj : j < P'.length) (hA : A' = some ⟨gp, 0, none⟩) {q : PV} (hq : q.In W W.heap.size) (ha : q.At (fun g => W1.heap.size ≤ g)) (hn : q.name = P'[j].name) :
    Lay1 w pb o t cur n F D (W.setCell ⟨gp, j * 2 + 1, none⟩ q.val) A' c' (P'.set j q) F' (fun g => D' g ∨ (W1.heap.size ≤ g ∧ g < W.heap.size)) := by
  have h := h1.on hb
  subst hA
  obtain ⟨_, hp, _, fp, _, hv, _⟩ := h.own.parts
  replace hp : W.ownsRow 0 61 2 (.slice (some ⟨gp, 0, none⟩) P'.length c') P'.length (P'.flatMap pC) := hp
  have hFg : F' gp := fp gp rfl
  have hgp : gp ≠ pb := fun e => h.pbF' (e ▸ hFg)
  obtain ⟨o1, g1⟩ := hp.stored (j * 2 + 1) q.val
  rw [pC_set1 P' j hj q hn] at o1
  have hc : Chg (fun g => g = gp) W (W.setCell ⟨gp, j * 2 + 1, none⟩ q.val) := Chg.ofGrown g1 (fun g e => by injection e with e; exact e.symm)
  have ng : ∀ g, (D' g ∨ (W1.heap.size ≤ g ∧ g < W.heap.size)) → ¬ g = gp := fun g e e' => by
    subst e'
    rcases e with e | e
    · exact (h.hD' g e).2.2 hFg
    · have := (h1.hF' g hFg).2
      omega
  have hq2 : q.At (fun g => D' g ∨ (W1.heap.size ≤ g ∧ g < W.heap.size)) := (PV.At.lows hq ha).mono' (fun g e => .inr e)
  have hs := h1.chg.size
  refine ⟨?_, h.hF, fun g e => ⟨(h.hF' g e).1, Nat.lt_of_lt_of_le (h.hF' g e).2 hc.size⟩, fun g e => .inl (h.hD g e), fun g e => ⟨?_, ?_, fun e' => ?_⟩, ?_, h.chg.trans hc (fun g hg e => ?_), h.pbw, h.pbF, h.pbD, h.oin⟩
  · have l : (P'.set j q).length = P'.length := List.length_set
    refine h.own.props (E := fun g => g = gp) (fun g e => (h.hF' g e).2) hc (fun g e => ⟨fun e' => ng g (.inl e') e, fun _ => by rw [e]; rfl⟩) (by rw [l]; exact o1) (fun g e => ?_) (fun p hp' => ?_) (fun _ e => e) (fun _ e => .inl e)
    · have e' : gp = g := by simpa [Value.ownBlock] using e
      subst e'
      exact ⟨hFg, .inl rfl⟩
    · rcases List.mem_or_eq_of_mem_set hp' with hm | rfl
      · exact ⟨(hv p hm).1.chg (hv p hm).2 hc (fun g e => ng g (.inl e)), (hv p hm).2.mono' (fun _ e => .inl e)⟩
      · exact ⟨hq.chg hq2 hc ng, hq2⟩
  · rcases e with e | e
    · exact (h.hD' g e).1
    · exact .inr (by omega)
  · have := hc.size
    rcases e with e | e
    · have := (h.hD' g e).2.1; omega
    · omega
  · rcases e with e | e
    · exact (h.hD' g e).2.2 e'
    · have := (h1.hF' g e').2; omega
  · rw [List.length_set]
    exact (hc.block pb (Nat.lt_of_lt_of_le h.pbw h.chg.size) (fun e => hgp e.symm)).trans h.box
  · subst e
    rcases (h.hF' g hFg).1 with e' | e'
    · exact .inl e'
    · omega
/-- A new property comes behind the others. -/
theorem Lay1.app (h : Lay1 w pb o t cur n F D W A' c' P' F' D') (nm : ByteArray) (hnm : nm.size ≤ 140737488351232) (hbig : P'.length ≤ 1099511627776) (ty : TypeId) :
    ∃ g' c'' w2, (Builtin.append_ #[24, 24] ty #[.slice A' P'.length c', .slice (some ⟨W.heap.size, 0, none⟩) 1 1]).run Tryz.prog (W.alloc (.cells #[.string nm, .slice none 0 0] 61)) = .ok (.slice (some ⟨g', 0, none⟩) (P'.length + 1) c'') w2 ∧
      Chg F' W w2 ∧ w2.cell? ⟨pb, o + 1, none⟩ = some (.slice A' P'.length c') ∧ w2.frozen? ⟨pb, o + 1, none⟩ = false ∧
      Lay1 w pb o t cur n F D (w2.setCell ⟨pb, o + 1, none⟩ (.slice (some ⟨g', 0, none⟩) (P'.length + 1) c'')) (some ⟨g', 0, none⟩) c'' (P' ++ [⟨nm, none, 0, []⟩]) (fun g => F' g ∨ g = g') D' ∧ (F' g' ∨ g' = W.heap.size + 1) := by
  obtain ⟨i0, hi0, hz0, hz1, hz2⟩ := info_any info_prop
  obtain ⟨_, hp, _, fp, fk, hv, _⟩ := h.own.parts
  replace hp : W.ownsRow 0 61 2 (.slice A' P'.length c') P'.length (P'.flatMap pC) := hp
  have hr : W.ownsRow 0 61 2 (.slice A' P'.length c') P'.length (flat2 (P'.map (fun p : PV => (Value.string p.name, p.val)))) := by rw [flat_pr2]; exact hp
  obtain ⟨A2, c'', w2, run, o2, b2, g2, e2⟩ := app_pair Tryz.underlying24 hi0 hz0 hz1 hz2 rfl hr (.string nm, .slice none 0 0) rfl rfl (by omega) (by omega) (Nat.zero_le _) ty
  obtain ⟨g', cp, ef⟩ := Joins.ownsRow_form o2 (Nat.succ_pos _)
  simp only [Value.slice.injEq, true_and] at ef
  obtain ⟨rfl, rfl⟩ := ef
  rw [show (P'.map (fun p : PV => (Value.string p.name, p.val)) ++ [(.string nm, .slice none 0 0)]) = (P' ++ [(⟨nm, none, 0, []⟩ : PV)]).map (fun p : PV => (Value.string p.name, p.val)) by rw [List.map_append]; rfl, flat_pr2] at o2
  have e3 : F' g' ∨ g' = W.heap.size + 1 := by
    rcases e2 with e | e
    · exact .inl (fp g' (by show (Value.slice A' P'.length c').ownBlock = _; rw [← e]; rfl))
    · exact .inr (by simpa [Value.ownBlock] using e)
  have e4 : (Value.slice A' P'.length c').ownBlock = some g' ∨ W.heap.size ≤ g' := by
    rcases e2 with e | e
    · exact .inl (by rw [← e]; rfl)
    · exact .inr (by have : g' = W.heap.size + 1 := by simpa [Value.ownBlock] using e
                     omega)
  have hgp : g' ≠ pb := fun e => by
    rcases e3 with e' | e'
    · exact h.pbF' (e ▸ e')
    · have := h.pbw; have := h.chg.size; omega
  have g2s : g' < w2.heap.size := (o2.lt g' rfl).2
  have c2 : Chg F' W w2 := Chg.ofGrown g2 (fun g e => fp g e)
  have pbW : pb < W.heap.size := Nat.lt_of_lt_of_le h.pbw h.chg.size
  have box2 := (c2.block pb pbW h.pbF').trans h.box
  have box3 := heap_setCell_same w2 pb (o + 1) _ _ (.slice (some ⟨g', 0, none⟩) (P'.length + 1) c'') box2
  have c3 : Chg (fun g => (Value.slice A' P'.length c').ownBlock = some g ∨ g = pb) W (w2.setCell ⟨pb, o + 1, none⟩ (.slice (some ⟨g', 0, none⟩) (P'.length + 1) c'')) := (Chg.ofGrown g2 (fun g e => .inl e)).setCell (.inl (.inr rfl)) _
  have zin : ∀ V : World, (⟨nm, none, 0, []⟩ : PV).In V V.heap.size := fun V => ⟨⟨hnm, by simp⟩, Shows.nil _ _, Nat.le_refl _, by simp⟩
  have zat : ∀ E : Nat → Prop, (⟨nm, none, 0, []⟩ : PV).At E := fun E h0 => absurd h0 (by simp)
  refine ⟨g', c'', w2, run, c2, by rw [cell_of_row w2 pb _ _ _ (0, 0) box2, Array.getElem?_setIfInBounds_self_of_lt h.oin], frozen_of_row w2 pb _ _ _ box2, ⟨?_, fun g e => .inl (h.hF g e), fun g e => ?_, h.hD, fun g e => ⟨(h.hD' g e).1, Nat.lt_of_lt_of_le (h.hD' g e).2.1 c3.size, fun e' => ?_⟩, ?_, h.chg.trans c3 (fun g hg e => ?_), h.pbw, h.pbF, h.pbD, h.oin⟩, e3⟩
  · have l : (P' ++ [(⟨nm, none, 0, []⟩ : PV)]).length = P'.length + 1 := by simp
    refine h.own.props (fun g e => (h.hF' g e).2) c3 (fun g e => ⟨fun e' => ?_, fun e' => ?_⟩) (by
      rw [l]
      exact own_same o2 (fun g e => heap_setCell_other _ _ _ _ (fun e' => hgp (by
        have : g' = g := by simpa [Value.ownBlock] using e
        rw [this, e'])))) (fun g e => ?_) (fun p hp' => ?_) (fun _ e => .inl e) (fun _ e => e)
    · rcases e with e | rfl
      · exact (h.hD' g e').2.2 (fp g e)
      · exact h.pbD' e'
    · rcases e with e | rfl
      · exact e
      · exact absurd e' h.pbF'
    · have : g' = g := by simpa [Value.ownBlock] using e
      subst this
      exact ⟨.inr rfl, e4⟩
    · rcases List.mem_append.1 hp' with hm | hm
      · exact ⟨(hv p hm).1.chg (hv p hm).2 c3 (fun g e e' => by
          rcases e' with e' | rfl
          · exact (h.hD' g e).2.2 (fp g e')
          · exact h.pbD' e), (hv p hm).2⟩
      · rw [List.mem_singleton.1 hm]
        exact ⟨zin _, zat _⟩
  · rcases e with e | rfl
    · exact ⟨(h.hF' g e).1, Nat.lt_of_lt_of_le (h.hF' g e).2 c3.size⟩
    · refine ⟨?_, by simpa using g2s⟩
      rcases e3 with e' | e'
      · exact (h.hF' g e').1
      · have := h.chg.size; exact .inr (by omega)
  · rcases e' with e' | rfl
    · exact (h.hD' g e).2.2 e'
    · rcases e3 with e' | e'
      · exact (h.hD' g e).2.2 e'
      · have := (h.hD' g e).2.1; omega
  · rw [box3, Array.setIfInBounds_setIfInBounds, List.length_append]
    rfl
  · rcases e with e | e
    · rcases (h.hF' g (fp g e)).1 with e' | e'
      · exact .inl e'
      · omega
    · exact .inr e
end
end Go.Proofs.YtihlpcbebpnmkaaGreatDoor
