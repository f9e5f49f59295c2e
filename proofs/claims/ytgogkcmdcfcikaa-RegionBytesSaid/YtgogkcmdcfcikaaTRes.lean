/-
  Layer 3: a tree as it lies in memory; whether there are too many.
-/
import Derived.Test.YtgogkcmdcfcikaaTCount
import Derived.Test.YtgogkcmdcfcikaaTAlone
import Derived.BigQuiet
namespace Go.Proofs.Ytgogkcmdcfcikaa
open Go.RowKit Go.ChangeShapes Go.WideShapes Go.Deep
set_option linter.unusedVariables false
set_option linter.unusedSimpArgs false

/-- A tree as it lies: its reserves' slice, and its root. -/
structure Tr where
  boot : Int
  ra : Option Addr
  rc : Nat
  rs : List (Int × Int)
  root : Nd

def Tr.rv (t : Tr) : Value := .slice t.ra t.rs.length t.rc
def Tr.val (t : Tr) : Value := .agg #[.int .u32 t.boot, t.rv, .string t.root.name, t.root.pv, t.root.kv]

/-- The cells of a row of reserves. -/
def RRow (w : World) (B : Nat) (a : Option Addr) (l : List (Int × Int)) : Prop :=
  0 < l.length → ∃ b o, a = some ⟨b, o, none⟩ ∧ b < B ∧ ∀ i (h : i < l.length), w.cell? ⟨b, o + i * 2, none⟩ = some (.int .u64 l[i].1) ∧ w.cell? ⟨b, o + i * 2 + 1, none⟩ = some (.int .u64 l[i].2)

structure Tr.In (w : World) (B : Nat) (t : Tr) : Prop where
  boot : 0 ≤ t.boot ∧ t.boot ≤ 4294967295
  len : t.rs.length ≤ t.rc ∧ t.rc ≤ 9223372036854775807 ∧ t.rs.length * 16 ≤ 140737488351232
  row : RRow w B t.ra t.rs
  nums : ∀ r ∈ t.rs, (0 ≤ r.1 ∧ r.1 ≤ 18446744073709551615) ∧ (0 ≤ r.2 ∧ r.2 ≤ 18446744073709551615)
  root : t.root.In w B

section
variable {w w' : World} {B B' : Nat}
theorem RRow.keep {a : Option Addr} {l : List (Int × Int)} (h : RRow w B a l) (hk : ∀ a : Addr, a.block < B → w'.cell? a = w.cell? a) : RRow w' B a l := fun h0 => by
  obtain ⟨b, o, e, hb, hc⟩ := h h0
  exact ⟨b, o, e, hb, fun i hi => ⟨(hk _ hb).trans (hc i hi).1, (hk _ hb).trans (hc i hi).2⟩⟩
theorem RRow.more {a : Option Addr} {l : List (Int × Int)} (h : RRow w B a l) (hB : B ≤ B') : RRow w B' a l := fun h0 => by
  obtain ⟨b, o, e, hb, hc⟩ := h h0
  exact ⟨b, o, e, by omega, hc⟩
theorem Tr.In.under {t : Tr} (h : t.In w B) (hb : Below B w w') : t.In w' B := ⟨h.boot, h.len, h.row.keep (fun _ hp => hb.cell hp), h.nums, h.root.under hb⟩
theorem Tr.In.more {t : Tr} (h : t.In w B) (hB : B ≤ B') : t.In w B' := ⟨h.boot, h.len, h.row.more hB, h.nums, h.root.more hB⟩
theorem Tr.In.on {t : Tr} (h : t.In w w.heap.size) (hb : Below w.heap.size w w') : t.In w' w'.heap.size := (h.under hb).more hb.size
theorem Tr.In.rcell {t : Tr} (h : t.In w B) {i : Nat} (hi : i < t.rs.length) : ∃ b o, t.ra = some ⟨b, o, none⟩ ∧ b < B ∧ w.cell? ⟨b, o + i * 2, none⟩ = some (.int .u64 t.rs[i].1) ∧ w.cell? ⟨b, o + i * 2 + 1, none⟩ = some (.int .u64 t.rs[i].2) := by
  obtain ⟨b, o, e, hb, hc⟩ := h.row (by omega)
  exact ⟨b, o, e, hb, hc i hi⟩
end

theorem Try.cellsRes : Try.prog.cellsOf 102 = 2 := by kernel_rfl
theorem Try.cellsRess : Try.prog.cellsOf 52 = 1 := by kernel_rfl
theorem Try.cellsU64 : Try.prog.cellsOf 39 = 1 := by kernel_rfl
theorem Try.cellsU32 : Try.prog.cellsOf 51 = 1 := by kernel_rfl
theorem Try.cellsTree : Try.prog.cellsOf 54 = 5 := by kernel_rfl
theorem Try.bytesRes : Try.prog.bytesOf 102 = 16 := by kernel_rfl

section
variable {H : Type} {enc : TypeId × Value → H} {w : World} {base : Nat} {spare : Nat → Bool} {held : Bool}

theorem open_res {fuel : Nat} {cs : List Value} {x : DataW H × List MemPlace} (h : DataW.trod enc Try.prog w base spare held fuel 102 cs = some x) :
    ∃ r : Int × Int, cs = [.int .u64 r.1, .int .u64 r.2] ∧ (0 ≤ r.1 ∧ r.1 ≤ 18446744073709551615) ∧ (0 ≤ r.2 ∧ r.2 ≤ 18446744073709551615) := by
  obtain ⟨y0, y1, n, rfl, hl, h0, h1⟩ := trod_struct2 Try.underlying102 h
  rw [Try.cellsRes] at hl
  obtain ⟨c0, c1, rfl⟩ : ∃ c0 c1, cs = [c0, c1] := by
    exact two_of hl
  rw [Try.cellsU64] at h0 h1
  obtain ⟨a, e0, _, w0⟩ := DataW.trod_int Try.underlying39 h0
  obtain ⟨c, e1, _, w1⟩ := DataW.trod_int Try.underlying39 h1
  simp only [List.drop_succ_cons, List.drop_zero, List.take_succ_cons, List.take_zero, List.cons.injEq, and_true] at e0 e1
  subst e0 e1
  exact ⟨(a, c), rfl, bounds_u64 w0, bounds_u64 w1⟩

/-- A tree that came in is such a tree. -/
theorem open_tr {fuel : Nat} {cs : List Value} {x : DataW H × List MemPlace} (h : DataW.trod enc Try.prog w base spare held fuel 54 cs = some x) (hw : ∀ z ∈ DataW.weights Try.prog 54 x.1, z ≤ 140737488351232) :
    ∃ t : Tr, cs = [.int .u32 t.boot, t.rv, .string t.root.name, t.root.pv, t.root.kv] ∧ t.In w w.heap.size := by
  obtain ⟨y0, y1, y2, n, rfl, hl, h0, h1, h2⟩ := trod_struct3 Try.underlying54 h
  rw [Try.cellsTree] at hl
  obtain ⟨c0, c1, c2, c3, c4, rfl⟩ : ∃ c0 c1 c2 c3 c4, cs = [c0, c1, c2, c3, c4] := by
    exact five_of hl
  rw [Try.cellsU32] at h0
  rw [Try.cellsRess] at h1
  rw [Try.cellsNode] at h2
  simp only [List.drop_zero, List.drop_succ_cons, List.take_succ_cons, List.take_zero] at h0 h1 h2
  simp only [DataW.weights, DataW.weightsEach, Try.underlying54, List.map_cons, List.map_nil] at hw
  have hw1 := fun z hz => hw z (List.mem_append_right _ (List.mem_append_left _ hz))
  have hw2 := fun z hz => hw z (List.mem_append_right _ (List.mem_append_right _ (List.mem_append_left _ hz)))
  obtain ⟨boot, e0, _, wb⟩ := DataW.trod_int Try.underlying51 h0
  obtain ⟨ra, rc, rs, e1, hr1, hr2, hr3, hrg, hrow⟩ := open_row (c := 2) (fun r : Int × Int => [.int .u64 r.1, .int .u64 r.2]) (fun r => (0 ≤ r.1 ∧ r.1 ≤ 18446744073709551615) ∧ (0 ≤ r.2 ∧ r.2 ≤ 18446744073709551615)) Try.underlying52 Try.cellsRes (by omega) (fun _ => rfl) (fun n cs y _ hy _ => open_res hy) h1 hw1
  obtain ⟨root, e2, hin⟩ := open_nd _ n _ _ (Nat.le_refl _) h2 hw2
  simp only [List.cons.injEq, and_true] at e0 e1 e2
  obtain ⟨rfl, rfl, rfl⟩ := e2
  subst e0 e1
  rw [Try.bytesRes] at hr3
  exact ⟨⟨boot, ra, rc, rs, root⟩, rfl, bounds_u32 wb, ⟨hr1, hr2, hr3⟩, fun h0 => by
    obtain ⟨b, o, e, hb, hc⟩ := hrow h0
    exact ⟨b, o, e, hb, fun i hi => ⟨hc i hi 0 (by omega), hc i hi 1 (by omega)⟩⟩, hrg, hin⟩
end

/-- A reserve of noughts. -/
def zeroR (r : Int × Int) : Bool := decide (r.1 = 0) && decide (r.2 = 0)

/-- Are there too many? -/
def manyE (t : Tr) : Int := if 4096 < wrap64 (nodesN t.root) ∨ 8192 < wrap64 (propsN t.root) ∨ 64 < t.rs.length then 7 else if t.rs.any zeroR = true then 7 else 0

end Go.Proofs.Ytgogkcmdcfcikaa
