/-
  Base, part 2: what the proofs of this claim lean on.
-/
import Derived.Test.YtapfcbcojnplaaaBase1
import Derived.Deep.Strs
import Derived.Lib.SmallJoins
import Derived.Below
import Derived.BigQuiet
import Derived.Deep.QuietTactic
import Derived.Maps.Own
import Derived.Maps.OwnSet
import Derived.Maps.OwnOps
import Derived.Maps.Views
import Derived.Test.YtapfcbcojnplaaaChecked
import Derived.WalkKit
import Derived.WalkLawsBesides
import Derived.WalkSpells
import Derived.Lib.Hide
import Derived.Lib.IndexLaws
import Derived.IntWalk
import Derived.OpenShut
import Derived.Test.YtapfcbcojnplaaaShelf
import Derived.Laws.Strings3
import Derived.Lib.Strings
import Derived.Lib.Slices
import Derived.BigCall
import Derived.BigGuard
import Derived.Deep.Draws

/-! Layer 3: a node as it lies in memory: its name, its properties, the nodes right below it, with their addresses. -/
namespace Go.Proofs.Ytapfcbcojnplaaa
open Go.RowKit Go.ChangeShapes Go.WideShapes Go.Deep
set_option linter.unusedVariables false

/-- A property as it lies: its name, and the slice that is its value. -/
structure PV where
  name : ByteArray
  addr : Option Addr
  cap : Nat
  zs : List Int

def PV.val (p : PV) : Value := .slice p.addr p.zs.length p.cap

inductive Nd where
  | mk (name : ByteArray) (pa : Option Addr) (pc : Nat) (props : List PV) (ka : Option Addr) (kc : Nat) (kids : List Nd)

namespace Nd
def name : Nd → ByteArray | .mk n _ _ _ _ _ _ => n
def pa : Nd → Option Addr | .mk _ a _ _ _ _ _ => a
def pc : Nd → Nat | .mk _ _ c _ _ _ _ => c
def props : Nd → List PV | .mk _ _ _ l _ _ _ => l
def ka : Nd → Option Addr | .mk _ _ _ _ a _ _ => a
def kc : Nd → Nat | .mk _ _ _ _ _ c _ => c
def kids : Nd → List Nd | .mk _ _ _ _ _ _ l => l
def pv (n : Nd) : Value := .slice n.pa n.props.length n.pc
def kv (n : Nd) : Value := .slice n.ka n.kids.length n.kc
def val (n : Nd) : Value := .agg #[.string n.name, n.pv, n.kv]

theorem ind {p : Nd → Prop} (h : ∀ n, (∀ k ∈ n.kids, p k) → p n) (n : Nd) : p n := by
  have : ∀ m : Nat, ∀ n : Nd, SizeOf.sizeOf n ≤ m → p n := by
    intro m
    induction m with
    | zero => intro n hn; cases n; simp at hn
    | succ m ih =>
      intro n hn
      refine h n fun k hk => ih k ?_
      have h1 := List.sizeOf_lt_of_mem hk
      cases n with
      | mk a b c d e f g => simp only [Nd.mk.sizeOf_spec] at hn; simp only [kids] at h1; omega
  exact this _ n (Nat.le_refl _)
end Nd

/-- The property's name is a text, its value's bytes lie below block B. -/
def PV.In (w : World) (B : Nat) (p : PV) : Prop := (p.name.size ≤ 140737488351232 ∧ p.zs.length ≤ 140737488351232) ∧ Shows w B p.addr p.zs.length p.zs ∧ p.zs.length ≤ p.cap ∧ p.cap ≤ 9223372036854775807

/-- The cells of a row of properties. -/
def PRow (w : World) (B : Nat) (a : Option Addr) (l : List PV) : Prop :=
  0 < l.length → ∃ b o, a = some ⟨b, o, none⟩ ∧ b < B ∧ ∀ i (h : i < l.length), w.cell? ⟨b, o + i * 2, none⟩ = some (.string l[i].name) ∧ w.cell? ⟨b, o + i * 2 + 1, none⟩ = some l[i].val
def KRow (w : World) (B : Nat) (a : Option Addr) (l : List Nd) : Prop :=
  0 < l.length → ∃ b o, a = some ⟨b, o, none⟩ ∧ b < B ∧ ∀ i (h : i < l.length), w.cell? ⟨b, o + i * 3, none⟩ = some (.string l[i].name) ∧ w.cell? ⟨b, o + i * 3 + 1, none⟩ = some l[i].pv ∧ w.cell? ⟨b, o + i * 3 + 2, none⟩ = some l[i].kv

/-- The node lies in w, below block B. -/
inductive Nd.In (w : World) (B : Nat) : Nd → Prop where
  | mk (n : Nd) (h1 : n.name.size ≤ 140737488351232 ∧ n.props.length * 40 ≤ 140737488351232 ∧ n.kids.length * 64 ≤ 140737488351232) (h2 : n.props.length ≤ n.pc) (h3 : n.pc ≤ 9223372036854775807) (h4 : n.kids.length ≤ n.kc) (h5 : n.kc ≤ 9223372036854775807)
      (hp : PRow w B n.pa n.props) (hv : ∀ p ∈ n.props, p.In w B) (hk : KRow w B n.ka n.kids) (hk' : ∀ k ∈ n.kids, Nd.In w B k) : Nd.In w B n

section
variable {w w' : World} {B B' : Nat}
theorem PV.In.keep {p : PV} (h : p.In w B) (hk : ∀ a : Addr, a.block < B → w'.cell? a = w.cell? a) : p.In w' B := ⟨h.1, h.2.1.keep hk, h.2.2⟩
theorem PV.In.more {p : PV} (h : p.In w B) (hB : B ≤ B') : p.In w B' := ⟨h.1, h.2.1.more hB, h.2.2⟩
theorem PRow.keep {a : Option Addr} {l : List PV} (h : PRow w B a l) (hk : ∀ a : Addr, a.block < B → w'.cell? a = w.cell? a) : PRow w' B a l := fun h0 => by
  obtain ⟨b, o, e, hb, hc⟩ := h h0
  exact ⟨b, o, e, hb, fun i hi => ⟨(hk _ hb).trans (hc i hi).1, (hk _ hb).trans (hc i hi).2⟩⟩
theorem KRow.keep {a : Option Addr} {l : List Nd} (h : KRow w B a l) (hk : ∀ a : Addr, a.block < B → w'.cell? a = w.cell? a) : KRow w' B a l := fun h0 => by
  obtain ⟨b, o, e, hb, hc⟩ := h h0
  exact ⟨b, o, e, hb, fun i hi => ⟨(hk _ hb).trans (hc i hi).1, (hk _ hb).trans (hc i hi).2.1, (hk _ hb).trans (hc i hi).2.2⟩⟩
theorem PRow.more {a : Option Addr} {l : List PV} (h : PRow w B a l) (hB : B ≤ B') : PRow w B' a l := fun h0 => by
  obtain ⟨b, o, e, hb, hc⟩ := h h0
  exact ⟨b, o, e, by omega, hc⟩
theorem KRow.more {a : Option Addr} {l : List Nd} (h : KRow w B a l) (hB : B ≤ B') : KRow w B' a l := fun h0 => by
  obtain ⟨b, o, e, hb, hc⟩ := h h0
  exact ⟨b, o, e, by omega, hc⟩

theorem Nd.In.name_le {n : Nd} (h : n.In w B) : n.name.size ≤ 140737488351232 ∧ n.props.length * 40 ≤ 140737488351232 ∧ n.kids.length * 64 ≤ 140737488351232 := by cases h; assumption
theorem Nd.In.plen {n : Nd} (h : n.In w B) : n.props.length ≤ n.pc ∧ n.pc ≤ 9223372036854775807 := by cases h; exact ⟨by assumption, by assumption⟩
theorem Nd.In.klen {n : Nd} (h : n.In w B) : n.kids.length ≤ n.kc ∧ n.kc ≤ 9223372036854775807 := by cases h; exact ⟨by assumption, by assumption⟩
theorem Nd.In.prow {n : Nd} (h : n.In w B) : PRow w B n.pa n.props := by cases h; assumption
theorem Nd.In.krow {n : Nd} (h : n.In w B) : KRow w B n.ka n.kids := by cases h; assumption
theorem Nd.In.prop {n : Nd} (h : n.In w B) {p : PV} (hp : p ∈ n.props) : p.In w B := by cases h with | mk _ h1 h2 h3 h4 h5 h6 h7 h8 h9 => exact h7 p hp
theorem Nd.In.kid {n : Nd} (h : n.In w B) {k : Nd} (hk : k ∈ n.kids) : k.In w B := by cases h with | mk _ h1 h2 h3 h4 h5 h6 h7 h8 h9 => exact h9 k hk

theorem Nd.In.keep {n : Nd} (hk : ∀ a : Addr, a.block < B → w'.cell? a = w.cell? a) : n.In w B → n.In w' B :=
  Nd.ind (p := fun n => n.In w B → n.In w' B) (fun n ih h => .mk n h.name_le h.plen.1 h.plen.2 h.klen.1 h.klen.2 (h.prow.keep hk) (fun p hp => (h.prop hp).keep hk) (h.krow.keep hk) (fun k hk' => ih k hk' (h.kid hk'))) n
theorem Nd.In.more {n : Nd} (hB : B ≤ B') : n.In w B → n.In w B' :=
  Nd.ind (p := fun n => n.In w B → n.In w B') (fun n ih h => .mk n h.name_le h.plen.1 h.plen.2 h.klen.1 h.klen.2 (h.prow.more hB) (fun p hp => (h.prop hp).more hB) (h.krow.more hB) (fun k hk' => ih k hk' (h.kid hk'))) n
theorem Nd.In.under {n : Nd} (h : n.In w B) (hb : Below B w w') : n.In w' B := h.keep fun _ hp => hb.cell hp
/-- What a call that lays only new blocks leaves of a node. -/
theorem Nd.In.on {n : Nd} (h : n.In w w.heap.size) (hb : Below w.heap.size w w') : n.In w' w'.heap.size := (h.under hb).more hb.size

/-- The i-th property's cells. -/
theorem Nd.In.pcell {n : Nd} (h : n.In w B) {i : Nat} (hi : i < n.props.length) : ∃ b o, n.pa = some ⟨b, o, none⟩ ∧ b < B ∧ w.cell? ⟨b, o + i * 2, none⟩ = some (.string n.props[i].name) ∧ w.cell? ⟨b, o + i * 2 + 1, none⟩ = some n.props[i].val := by
  obtain ⟨b, o, e, hb, hc⟩ := h.prow (by omega)
  exact ⟨b, o, e, hb, hc i hi⟩
theorem Nd.In.kcell {n : Nd} (h : n.In w B) {i : Nat} (hi : i < n.kids.length) : ∃ b o, n.ka = some ⟨b, o, none⟩ ∧ b < B ∧ w.cell? ⟨b, o + i * 3, none⟩ = some (.string n.kids[i].name) ∧ w.cell? ⟨b, o + i * 3 + 1, none⟩ = some n.kids[i].pv ∧ w.cell? ⟨b, o + i * 3 + 2, none⟩ = some n.kids[i].kv := by
  obtain ⟨b, o, e, hb, hc⟩ := h.krow (by omega)
  exact ⟨b, o, e, hb, hc i hi⟩
end

/-! ### A value that came in is such a node -/

theorem two_of {α : Type} {l : List α} (h : l.length = 2) : ∃ a b, l = [a, b] := by
  match l, h with
  | [a, b], _ => exact ⟨a, b, rfl⟩
theorem three_of {α : Type} {l : List α} (h : l.length = 3) : ∃ a b c, l = [a, b, c] := by
  match l, h with
  | [a, b, c], _ => exact ⟨a, b, c, rfl⟩
theorem five_of {α : Type} {l : List α} (h : l.length = 5) : ∃ a b c d e, l = [a, b, c, d, e] := by
  match l, h with
  | [a, b, c, d, e], _ => exact ⟨a, b, c, d, e, rfl⟩

theorem Try.cellsNode : Try.prog.cellsOf 27 = 3 := by kernel_rfl
theorem Try.cellsProp : Try.prog.cellsOf 81 = 2 := by kernel_rfl
theorem Try.cellsStr : Try.prog.cellsOf 9 = 1 := by kernel_rfl
theorem Try.cellsByte : Try.prog.cellsOf 5 = 1 := by kernel_rfl
theorem Try.cellsBytes : Try.prog.cellsOf 79 = 1 := by kernel_rfl
theorem Try.cellsProps : Try.prog.cellsOf 24 = 1 := by kernel_rfl
theorem Try.cellsNodes : Try.prog.cellsOf 25 = 1 := by kernel_rfl

instance : Inhabited PV := ⟨⟨⟨#[]⟩, none, 0, []⟩⟩
instance : Inhabited Nd := ⟨.mk ⟨#[]⟩ none 0 [] none 0 []⟩

section
variable {H : Type} {enc : TypeId × Value → H} {w : World} {base : Nat} {spare : Nat → Bool} {held : Bool}

theorem weights_mem {P : Program} {e : TypeId} {d : DataW H} : ∀ {l : List (DataW H)}, d ∈ l → ∀ {z : Nat}, z ∈ DataW.weights P e d → z ∈ DataW.weightsAll P e l
  | x :: l, hd, z, hz => by
    rw [DataW.weightsAll]
    rcases List.mem_cons.1 hd with rfl | h
    · exact List.mem_append_left _ hz
    · exact List.mem_append_right _ (weights_mem h hz)

theorem open_pv {fuel : Nat} {cs : List Value} {x : DataW H × List MemPlace} (h : DataW.trod enc Try.prog w base spare held fuel 81 cs = some x) (hw : ∀ z ∈ DataW.weights Try.prog 81 x.1, z ≤ 140737488351232) :
    ∃ p : PV, cs = [.string p.name, p.val] ∧ p.In w w.heap.size := by
  obtain ⟨y0, y1, n, rfl, hl, h0, h1⟩ := trod_struct2 Try.underlying81 h
  rw [Try.cellsProp] at hl
  obtain ⟨c0, c1, rfl⟩ : ∃ c0 c1, cs = [c0, c1] := by
    exact two_of hl
  rw [Try.cellsStr] at h0
  rw [Try.cellsBytes] at h1
  obtain ⟨s, e0, rfl, hs⟩ := DataW.trod_string Try.underlying9 h0
  simp only [List.drop_zero, List.take_succ_cons, List.take_zero, List.cons.injEq, and_true] at e0
  subst e0
  have hs' : s.size ≤ 140737488351232 := hw s.size (by
    simp only [DataW.weights, DataW.weightsEach, Try.underlying81, List.map_cons, List.map_nil]
    exact List.mem_append_left _ (by simp))
  rcases open_ints Try.underlying79 Try.underlying5 Try.cellsByte h1 with ⟨e1, _⟩ | ⟨a, len, cap, zs, e1, hb, hlc, hm, hz, rfl, hcell, hwf⟩
  · simp only [List.drop_succ_cons, List.drop_zero, List.take_succ_cons, List.take_zero, List.cons.injEq, and_true] at e1
    subst e1
    exact ⟨⟨s, none, 0, []⟩, rfl, ⟨hs', by simp⟩, Shows.nil _ _, Nat.le_refl _, by simp⟩
  · simp only [List.drop_succ_cons, List.drop_zero, List.take_succ_cons, List.take_zero, List.cons.injEq, and_true] at e1
    subst e1
    have hle : len ≤ zs.length := by rw [hz]; split <;> omega
    have hl' : (zs.take len).length = len := by rw [List.length_take]; omega
    have hb' : zs.length * Try.prog.bytesOf 5 ≤ 140737488351232 := hw _ (by
      simp only [DataW.weights, DataW.weightsEach, Try.underlying81, Try.underlying79, List.map_cons, List.map_nil]
      refine List.mem_append_right _ (List.mem_append_left _ (List.mem_cons.2 (.inl ?_)))
      simp only [lits, List.length_map, List.length_take, List.length_drop]
      congr 1
      omega)
    have e1 : Try.prog.bytesOf 5 = 1 := by kernel_rfl
    rw [e1] at hb'
    refine ⟨⟨s, some a, cap, zs.take len⟩, by rw [PV.val, hl'], ⟨hs', by simp only [hl']; omega⟩, ?_, by rw [hl']; exact hlc, hm⟩
    refine ⟨rfl, fun z hz' => ?_, fun hn => ?_⟩
    · have h2 := bounds_u8 (hwf z (List.mem_of_mem_take hz'))
      omega
    · rw [hl'] at hn
      obtain ⟨b, o, spot⟩ := a
      have hc := hcell 0 (by omega)
      have hspot : spot = none := by simpa [Addr.add] using World.cell?_spot hc
      subst hspot
      refine ⟨b, o, rfl, ?_, fun i hi => ?_⟩
      · rw [addr_add] at hc
        exact World.block_lt_of_cell? w _ hc
      · rw [hl'] at hi
        have hci := hcell i (by omega)
        rw [addr_add] at hci
        rw [hci]
        refine congrArg (fun z => some (Value.int .u8 z)) ?_
        simp [List.getD, List.getElem?_take_of_lt hi]

/-- The elements of a row that came in, one by one. -/
theorem open_row {α : Type} [Inhabited α] {t e : TypeId} {c : Nat} (f : α → List Value) (good : α → Prop) {fuel : Nat} {cs : List Value} {x : DataW H × List MemPlace} (ht : Try.prog.underlying t = some (.slice e)) (hc : Try.prog.cellsOf e = c) (hc0 : 0 < c)
    (hlen : ∀ p, (f p).length = c) (each : ∀ (n : Nat) (cs : List Value) (y : DataW H × List MemPlace), SizeOf.sizeOf y.1 < SizeOf.sizeOf x.1 → DataW.trod enc Try.prog w base spare held n e cs = some y → (∀ z ∈ DataW.weights Try.prog e y.1, z ≤ 140737488351232) → ∃ p : α, cs = f p ∧ good p)
    (h : DataW.trod enc Try.prog w base spare held fuel t cs = some x) (hw : ∀ z ∈ DataW.weights Try.prog t x.1, z ≤ 140737488351232) :
    ∃ (a : Option Addr) (cap : Nat) (l : List α), cs = [.slice a l.length cap] ∧ l.length ≤ cap ∧ cap ≤ 9223372036854775807 ∧ l.length * Try.prog.bytesOf e ≤ 140737488351232 ∧ (∀ p ∈ l, good p) ∧
      (0 < l.length → ∃ b o, a = some ⟨b, o, none⟩ ∧ b < w.heap.size ∧ ∀ i (h : i < l.length), ∀ j, j < c → w.cell? ⟨b, o + i * c + j, none⟩ = (f l[i])[j]?) := by
  rcases open_slice ht h with ⟨rfl, _⟩ | ⟨a, len, cap, m, n, D, Pl, rfl, hb, hl, hm, hmm, rfl, hi⟩
  · exact ⟨none, 0, [], rfl, Nat.le_refl _, by simp, by simp, by simp, fun h => absurd h (by simp)⟩
  · have hlm : len ≤ m := by rw [hmm]; split <;> omega
    have sz : ∀ i, i < len → SizeOf.sizeOf (D i) < SizeOf.sizeOf (DataW.slice ((List.range len).map D) ((List.range (m - len)).map fun j => D (len + j))) := fun i hi' => by
      have hmem : D i ∈ (List.range len).map D := List.mem_map.2 ⟨i, List.mem_range.2 hi', rfl⟩
      have := List.sizeOf_lt_of_mem hmem
      simp only [DataW.slice.sizeOf_spec]
      omega
    have hw1 : (len + (m - len)) * Try.prog.bytesOf e ≤ 140737488351232 := hw _ (by
      simp only [DataW.weights, ht]
      refine List.mem_cons.2 (.inl ?_)
      simp)
    have hw2 : len * Try.prog.bytesOf e ≤ 140737488351232 := Nat.le_trans (Nat.mul_le_mul_right _ (by omega)) hw1
    have hwi : ∀ i, i < len → ∀ z ∈ DataW.weights Try.prog e (D i), z ≤ 140737488351232 := fun i hi' z hz => hw z (by
      simp only [DataW.weights, ht]
      exact List.mem_cons.2 (.inr (List.mem_append_left _ (weights_mem (List.mem_map.2 ⟨i, List.mem_range.2 hi', rfl⟩) hz))))
    obtain ⟨F, hF⟩ := choose_lt (α := α) (n := len) (p := fun i p => w.cells? base (a.add (i * Try.prog.cellsOf e)) (Try.prog.cellsOf e) = some (f p) ∧ good p) (fun i hi' => by
      obtain ⟨cs', h1, h2⟩ := hi i (by omega)
      obtain ⟨p, rfl, hg⟩ := each n cs' _ (sz i hi') h2 (hwi i hi')
      exact ⟨p, h1, hg⟩)
    refine ⟨some a, cap, (List.range len).map F, by simp, by simpa using hl, hm, by simpa using hw2, ?_, fun h0 => ?_⟩
    · intro p hp
      obtain ⟨i, hi', rfl⟩ := List.mem_map.1 hp
      exact (hF i (List.mem_range.1 hi')).2
    · simp only [List.length_map, List.length_range] at h0 ⊢
      obtain ⟨b, o, spot⟩ := a
      have cell : ∀ i, i < len → ∀ j, j < c → w.cell? ((⟨b, o, spot⟩ : Addr).add (i * c + j)) = (f (F i))[j]? := fun i hi' j hj => by
        obtain ⟨_, _, h3⟩ := World.cells?_some (hF i hi').1
        rw [hc] at h3
        rw [← Go.Deep.add_add]
        exact h3 j hj
      have c0 := cell 0 h0 0 hc0
      rw [List.getElem?_eq_getElem (by rw [hlen]; exact hc0)] at c0
      have hspot : spot = none := by simpa [Addr.add] using World.cell?_spot c0
      subst hspot
      refine ⟨b, o, rfl, World.block_lt_of_cell? w _ (by rw [addr_add] at c0; exact c0), fun i hi' j hj => ?_⟩
      have := cell i hi' j hj
      rw [addr_add, ← Nat.add_assoc] at this
      simpa using this

theorem Try.bytesNode : Try.prog.bytesOf 27 = 64 := by kernel_rfl
theorem Try.bytesProp : Try.prog.bytesOf 81 = 40 := by kernel_rfl

theorem open_nd : ∀ (m fuel : Nat) (cs : List Value) (x : DataW H × List MemPlace), SizeOf.sizeOf x.1 ≤ m → DataW.trod enc Try.prog w base spare held fuel 27 cs = some x →
    (∀ z ∈ DataW.weights Try.prog 27 x.1, z ≤ 140737488351232) → ∃ n : Nd, cs = [.string n.name, n.pv, n.kv] ∧ n.In w w.heap.size := by
  intro m
  induction m with
  | zero => intro fuel cs x hx; exfalso; obtain ⟨d, pl⟩ := x; cases d <;> simp at hx
  | succ m ih =>
    intro fuel cs x hx h hw
    obtain ⟨y0, y1, y2, n, rfl, hl, h0, h1, h2⟩ := trod_struct3 Try.underlying27 h
    rw [Try.cellsNode] at hl
    obtain ⟨c0, c1, c2, rfl⟩ : ∃ c0 c1 c2, cs = [c0, c1, c2] := by
      exact three_of hl
    rw [Try.cellsStr] at h0
    rw [Try.cellsProps] at h1
    rw [Try.cellsNodes] at h2
    simp only [List.drop_zero, List.drop_succ_cons, List.take_succ_cons, List.take_zero] at h0 h1 h2
    simp only [DataW.weights, DataW.weightsEach, Try.underlying27, List.map_cons, List.map_nil] at hw
    have hw0 := fun z hz => hw z (List.mem_append_left _ hz)
    have hw1 := fun z hz => hw z (List.mem_append_right _ (List.mem_append_left _ hz))
    have hw2 := fun z hz => hw z (List.mem_append_right _ (List.mem_append_right _ (List.mem_append_left _ hz)))
    obtain ⟨s, e0, rfl, hs⟩ := DataW.trod_string Try.underlying9 h0
    simp only [List.cons.injEq, and_true] at e0
    subst e0
    have hs' : s.size ≤ 140737488351232 := hw0 s.size (by simp [DataW.weights])
    obtain ⟨pa, pc, props, e1, hp1, hp2, hp3, hpg, hprow⟩ := open_row (c := 2) (fun p : PV => [.string p.name, p.val]) (fun p => p.In w w.heap.size) Try.underlying24 Try.cellsProp (by omega) (fun _ => rfl) (fun n cs y _ hy hwy => open_pv hy hwy) h1 hw1
    obtain ⟨ka, kc, kids, e2, hk1, hk2, hk3, hkg, hkrow⟩ := open_row (c := 3) (fun k : Nd => [.string k.name, k.pv, k.kv]) (fun k => k.In w w.heap.size) Try.underlying25 Try.cellsNode (by omega) (fun _ => rfl)
      (fun n cs y hy hy' hwy => ih n cs y (by simp only [DataW.agg.sizeOf_spec, List.cons.sizeOf_spec] at hx; omega) hy' hwy) h2 hw2
    simp only [List.cons.injEq, and_true] at e1 e2
    subst e1 e2
    rw [Try.bytesProp] at hp3
    rw [Try.bytesNode] at hk3
    refine ⟨.mk s pa pc props ka kc kids, rfl, .mk _ ⟨hs', hp3, hk3⟩ hp1 hp2 hk1 hk2 (fun h0 => ?_) hpg (fun h0 => ?_) hkg⟩
    · obtain ⟨b, o, e, hb, hc⟩ := hprow h0
      exact ⟨b, o, e, hb, fun i hi => ⟨hc i hi 0 (by omega), hc i hi 1 (by omega)⟩⟩
    · obtain ⟨b, o, e, hb, hc⟩ := hkrow h0
      exact ⟨b, o, e, hb, fun i hi => ⟨hc i hi 0 (by omega), hc i hi 1 (by omega), hc i hi 2 (by omega)⟩⟩
end
end Go.Proofs.Ytapfcbcojnplaaa

/-! Layer 3: how many nodes and properties there are; how much a node has. -/
namespace Go.Proofs.Ytapfcbcojnplaaa
open Go.RowKit
set_option linter.unusedVariables false
set_option linter.unusedSimpArgs false

mutual
def nodesN : Nd → Nat
  | .mk _ _ _ _ _ _ ks => 1 + nodesL ks
def nodesL : List Nd → Nat
  | [] => 0
  | k :: l => nodesN k + nodesL l
end
mutual
def propsN : Nd → Nat
  | .mk _ _ _ ps _ _ ks => ps.length + propsL ks
def propsL : List Nd → Nat
  | [] => 0
  | k :: l => propsN k + propsL l
end
theorem nodesL_append : ∀ a b : List Nd, nodesL (a ++ b) = nodesL a + nodesL b
  | [], b => by simp [nodesL]
  | x :: a, b => by simp only [List.cons_append, nodesL, nodesL_append a b]; omega
theorem propsL_append : ∀ a b : List Nd, propsL (a ++ b) = propsL a + propsL b
  | [], b => by simp [propsL]
  | x :: a, b => by simp only [List.cons_append, propsL, propsL_append a b]; omega
theorem take_next {α : Type} (l : List α) (j : Nat) (h : j < l.length) : l.take (j + 1) = l.take j ++ [l[j]] := by
  rw [List.take_add_one, List.getElem?_eq_getElem h]; rfl
theorem nodesL_next (l : List Nd) (j : Nat) (h : j < l.length) : nodesL (l.take (j + 1)) = nodesL (l.take j) + nodesN l[j] := by
  rw [take_next l j h, nodesL_append]; simp [nodesL]
theorem propsL_next (l : List Nd) (j : Nat) (h : j < l.length) : propsL (l.take (j + 1)) = propsL (l.take j) + propsN l[j] := by
  rw [take_next l j h, propsL_append]; simp [propsL]

theorem wrap_add (a b : Int) : wrap64 (wrap64 a + wrap64 b) = wrap64 (a + b) := by simp only [wrap64]; omega
theorem wrap_add_of {a b c d : Int} (h1 : a = wrap64 c) (h2 : b = wrap64 d) : wrap64 (a + b) = wrap64 (c + d) := by rw [h1, h2, wrap_add]
theorem wrap_small {a : Int} (h0 : -9223372036854775808 ≤ a) (h1 : a ≤ 9223372036854775807) : wrap64 a = a := by simp only [wrap64]; omega

/-- What both functions that count answer of a node. -/
def Counted (e : Ending) (n : Nd) : Prop := e = .returned (.tuple #[.int .i64 (wrap64 (nodesN n)), .int .i64 (wrap64 (propsN n))])

set_option maxHeartbeats 1000000 in
theorem refcount_any : ∀ (n : Nd) (w : World), n.In w w.heap.size → Calls Try.prog 23 #[n.val] w fun e w' => Counted e n ∧ Below w.heap.size w w' := by
  refine Nd.ind ?_
  intro n ih w hin
  obtain ⟨nm, pa, pc, ps, ka, kc, ks⟩ := n
  have HI := Lib.hid hin
  have IH := Lib.hid ih
  obtain ⟨hl, hm⟩ : ks.length ≤ kc ∧ kc ≤ 9223372036854775807 := hin.klen
  obtain ⟨hl2, hm2⟩ : ps.length ≤ pc ∧ pc ≤ 9223372036854775807 := hin.plen
  clear hin ih
  show Calls _ _ #[.agg #[.string nm, .slice pa ps.length pc, .slice ka ks.length kc]] _ _
  go_enter Try.func23, Try.ntmps23
  go_wp2_with fail
  go_region
  go_wp2_with fail
  go_loopw [4, 5, 15] (fun x y i wr => ∃ k : Nat, k ≤ ks.length ∧ i = .int .i64 k ∧ (∃ a b : Int, x = .int .i64 a ∧ y = .int .i64 b ∧ Hid (a = wrap64 (1 + nodesL (ks.take k)) ∧ b = wrap64 (ps.length + propsL (ks.take k)))) ∧
      Below (w.heap.size + 1) (w.alloc (.cells #[Value.string nm, .slice pa ps.length pc, .slice ka ks.length kc] 27)) wr) (fun _ _ i _ => ks.length - (intOf i).toNat)
  case atStart => exact ⟨0, Nat.zero_le _, rfl, ⟨1, ps.length, rfl, rfl, by simp only [List.take_zero, nodesL]; exact (wrap_small (by omega) (by omega)).symm, by simp only [List.take_zero, propsL]; exact (wrap_small (by omega) (by omega)).symm⟩, (Below.refl _ _).drew⟩
  case round =>
    obtain ⟨k, hk, rfl, ⟨a, c, rfl, rfl, hac⟩, hb⟩ := hrel
    have HB0 := Lib.hid hb
    have HB := Lib.hid (((Below.refl w.heap.size w).alloc (Nat.le_refl _) _).trans (hb.mono (Nat.le_succ _)))
    clear hb
    by_cases hlt : k < ks.length
    · obtain ⟨b, o, e, hb, c0, c1, c2⟩ := (HI.out.under HB.out).kcell (i := k) hlt
      obtain rfl : ka = _ := e
      replace c0 : _ = some (Value.string ks[k].name) := c0
      replace c1 : _ = some (Value.slice ks[k].pa ks[k].props.length ks[k].pc) := c1
      replace c2 : _ = some (Value.slice ks[k].ka ks[k].kids.length ks[k].kc) := c2
      have hbox : wr.cell? ⟨w.heap.size, 2, none⟩ = some (.slice (some ⟨b, o, none⟩) ks.length kc) := (HB0.out.cell (Nat.lt_succ_self _)).trans (World.cell?_alloc_new _ _ _ _)
      go_wp2_with fail
      refine (IH.out ks[k] (List.getElem_mem hlt) _ (((HI.out.kid (List.getElem_mem hlt)).under HB.out).more HB.out.size)).mono ?_
      rintro e w' ⟨he, hb'⟩
      obtain rfl := he
      have HB3 := Lib.hid (HB0.out.trans (hb'.mono (by have := HB0.out.size; simpa using this)))
      clear hb'
      go_wp2
      go_roundw
      case rel => exact ⟨k + 1, by omega, by go_num, ⟨_, _, rfl, rfl, by rw [nodesL_next _ _ hlt, wrap_add_of hac.1 rfl]; congr 1; omega, by rw [propsL_next _ _ hlt, wrap_add_of hac.2 rfl]; congr 1; omega⟩, HB3.out⟩
      case measure => simp [intOf]; omega
    · have he : k = ks.length := by omega
      have HE := Lib.hid he
      clear he
      go_wp2
      go_ret2
      refine ⟨?_, HB.out⟩
      have h1 := hac.1
      have h2 := hac.2
      rw [HE.out, List.take_length] at h1 h2
      rw [Counted, h1, h2, nodesN, propsN]
      congr 5

set_option maxHeartbeats 2000000 in
theorem size_any : ∀ (n : Nd) (d : Int) (w : World), n.In w w.heap.size → 0 ≤ d → d ≤ 21 → Calls Try.prog 21 #[n.val, .int .i64 d] w fun e w' => (∃ x : Int, e = .returned (.int .i64 x)) ∧ Below w.heap.size w w' := by
  refine Nd.ind ?_
  intro n ih d w hin hd0 hd1
  obtain ⟨nm, pa, pc, ps, ka, kc, ks⟩ := n
  have HI := Lib.hid hin
  have IH := Lib.hid ih
  obtain ⟨hl, hm⟩ : ks.length ≤ kc ∧ kc ≤ 9223372036854775807 := hin.klen
  obtain ⟨hl2, hm2⟩ : ps.length ≤ pc ∧ pc ≤ 9223372036854775807 := hin.plen
  obtain ⟨hn, _⟩ : nm.size ≤ 140737488351232 ∧ _ := hin.name_le
  clear hin ih
  show Calls _ _ #[.agg #[.string nm, .slice pa ps.length pc, .slice ka ks.length kc], .int .i64 d] _ _
  go_enter Try.func21, Try.ntmps21
  go_wp2_with fail
  go_loopw [5, 15] (fun x i wr => ∃ k : Nat, k ≤ ps.length ∧ i = .int .i64 k ∧ (∃ a : Int, x = .int .i64 a) ∧ Below (w.heap.size + 1) (w.alloc (.cells #[Value.string nm, .slice pa ps.length pc, .slice ka ks.length kc] 27)) wr) (fun _ i _ => ps.length - (intOf i).toNat)
  case atStart => exact ⟨0, Nat.zero_le _, rfl, ⟨_, rfl⟩, Below.refl _ _⟩
  case round =>
    obtain ⟨k, hk, rfl, ⟨a, rfl⟩, hb⟩ := hrel
    have HB0 := Lib.hid hb
    have HB := Lib.hid (((Below.refl w.heap.size w).alloc (Nat.le_refl _) _).trans (hb.mono (Nat.le_succ _)))
    clear hb
    by_cases hlt : k < ps.length
    · obtain ⟨b, o, e, hb, c0, c1⟩ := (HI.out.under HB.out).pcell (i := k) hlt
      obtain rfl : pa = _ := e
      replace c0 : _ = some (Value.string ps[k].name) := c0
      replace c1 : _ = some (Value.slice ps[k].addr ps[k].zs.length ps[k].cap) := c1
      have hbox : wr.cell? ⟨w.heap.size, 1, none⟩ = some (.slice (some ⟨b, o, none⟩) ps.length pc) := (HB0.out.cell (Nat.lt_succ_self _)).trans (World.cell?_alloc_new _ _ _ _)
      go_wp2_with fail
      go_region
      go_wp2
      go_roundw
      case rel => exact ⟨k + 1, by omega, by go_num, ⟨_, rfl⟩, HB0.out.drew⟩
      case measure => simp [intOf]; omega
    · have hbox : wr.cell? ⟨w.heap.size, 2, none⟩ = some (.slice ka ks.length kc) := (HB0.out.cell (Nat.lt_succ_self _)).trans (World.cell?_alloc_new _ _ _ _)
      go_wp2_with fail
      clear hbox
      go_loopw [5, 40] (fun x i wr => ∃ k : Nat, k ≤ ks.length ∧ i = .int .i64 k ∧ (∃ a : Int, x = .int .i64 a) ∧ Below (w.heap.size + 1) (w.alloc (.cells #[Value.string nm, .slice pa ps.length pc, .slice ka ks.length kc] 27)) wr) (fun _ i _ => ks.length - (intOf i).toNat)
      case atStart => exact ⟨0, Nat.zero_le _, rfl, ⟨_, rfl⟩, HB0.out⟩
      case round =>
        clear HB HB0
        obtain ⟨k, hk, rfl, ⟨a, rfl⟩, hb⟩ := hrel
        have HB0 := Lib.hid hb
        have HB := Lib.hid (((Below.refl w.heap.size w).alloc (Nat.le_refl _) _).trans (hb.mono (Nat.le_succ _)))
        clear hb
        by_cases hlt' : k < ks.length
        · obtain ⟨b, o, e, hb, c0, c1, c2⟩ := (HI.out.under HB.out).kcell (i := k) hlt'
          obtain rfl : ka = _ := e
          replace c0 : _ = some (Value.string ks[k].name) := c0
          replace c1 : _ = some (Value.slice ks[k].pa ks[k].props.length ks[k].pc) := c1
          replace c2 : _ = some (Value.slice ks[k].ka ks[k].kids.length ks[k].kc) := c2
          have hbox : wr.cell? ⟨w.heap.size, 2, none⟩ = some (.slice (some ⟨b, o, none⟩) ks.length kc) := (HB0.out.cell (Nat.lt_succ_self _)).trans (World.cell?_alloc_new _ _ _ _)
          by_cases hd : 20 < d
          · go_wp2
            go_ret
            exact ⟨⟨_, rfl⟩, HB.out⟩
          · by_cases ha : 100000 < a
            · go_wp2
              go_ret
              exact ⟨⟨_, rfl⟩, HB.out⟩
            · go_wp2_with fail
              refine (IH.out ks[k] (List.getElem_mem hlt') _ _ (((HI.out.kid (List.getElem_mem hlt')).under HB.out).more HB.out.size) (by omega) (by omega)).mono ?_
              rintro e w' ⟨⟨x, rfl⟩, hb'⟩
              have HB3 := Lib.hid (HB0.out.trans (hb'.mono (by have := HB0.out.size; simpa using this)))
              clear hb'
              go_wp2
              go_roundw
              case rel => exact ⟨k + 1, by omega, by go_num, ⟨_, rfl⟩, HB3.out⟩
              case measure => simp [intOf]; omega
        · go_wp2
          go_ret
          exact ⟨⟨_, rfl⟩, HB.out⟩
end Go.Proofs.Ytapfcbcojnplaaa

/-! The place of the first name that is s, in a list of names. -/
namespace Go.Proofs.Ytapfcbcojnplaaa
open Go.RowKit
set_option linter.unusedVariables false
set_option linter.unusedSimpArgs false

/-- The place of the first name that is s; -1: none. -/
def idxOf : List ByteArray → ByteArray → Int
  | [], _ => -1
  | x :: l, s => if x = s then 0 else if idxOf l s < 0 then -1 else idxOf l s + 1

theorem idxOf_hit : ∀ (l : List ByteArray) (s : ByteArray) (k : Nat) (hk : k < l.length), l[k] = s → (∀ j (hj : j < k), l[j] ≠ s) → idxOf l s = k
  | x :: l, s, 0, hk, h, _ => by simp only [List.getElem_cons_zero] at h; simp [idxOf, h]
  | x :: l, s, k + 1, hk, h, h' => by
    have h0 : x ≠ s := by have := h' 0 (by omega); simpa using this
    have ih := idxOf_hit l s k (by simpa using hk) (by simpa using h) (fun j hj => by have := h' (j + 1) (by omega); simpa using this)
    rw [idxOf, if_neg h0, ih, if_neg (by omega)]
    omega
theorem idxOf_miss : ∀ (l : List ByteArray) (s : ByteArray), (∀ j (hj : j < l.length), l[j] ≠ s) → idxOf l s = -1
  | [], s, _ => rfl
  | x :: l, s, h => by
    have h0 : x ≠ s := by have := h 0 (by simp); simpa using this
    have ih := idxOf_miss l s (fun j hj => by have := h (j + 1) (by simpa using hj); simpa using this)
    rw [idxOf, if_neg h0, ih, if_pos (by omega)]

/-- None of the first k names is s. -/
def Missed (l : List ByteArray) (s : ByteArray) (k : Nat) : Prop := k ≤ l.length ∧ ∀ j (hj : j < l.length), j < k → l[j] ≠ s

theorem Missed.zero (l : List ByteArray) (s : ByteArray) : Missed l s 0 := ⟨Nat.zero_le _, fun _ _ h => absurd h (Nat.not_lt_zero _)⟩
theorem Missed.succ {l : List ByteArray} {s : ByteArray} {k : Nat} (h : Missed l s k) (hk : k < l.length) (hne : l[k] ≠ s) : Missed l s (k + 1) :=
  ⟨hk, fun j hj hlt => by
    rcases Nat.lt_succ_iff_lt_or_eq.1 hlt with h1 | rfl
    · exact h.2 j hj h1
    · exact hne⟩
theorem Missed.hit {l : List ByteArray} {s : ByteArray} {k : Nat} (h : Missed l s k) (hk : k < l.length) (he : l[k] = s) : idxOf l s = k := idxOf_hit l s k hk he (fun j hj => h.2 j (by omega) hj)
theorem Missed.all {l : List ByteArray} {s : ByteArray} {k : Nat} (h : Missed l s k) (hk : ¬ k < l.length) : idxOf l s = -1 := idxOf_miss l s (fun j hj => h.2 j hj (by omega))

theorem str_ne {x s : ByteArray} (h : x ≠ s) : (x.toList == s.toList) = false := by
  rw [beq_eq_false_iff_ne]
  intro e
  rw [Lib.toList_data, Lib.toList_data] at e
  exact h (WideShapes.bytes_inj e)

end Go.Proofs.Ytapfcbcojnplaaa

/-! The document's blob: the names of properties, each once, in order. -/
namespace Go.Proofs.Ytapfcbcojnplaaa
open Go.RowKit
set_option linter.unusedVariables false
set_option linter.unusedSimpArgs false

/-- Is a name there? -/
def hasT (l : List ByteArray) (s : ByteArray) : Bool := l.any fun x => decide (x = s)
theorem hasT_next (l : List ByteArray) (s : ByteArray) (j : Nat) (h : j < l.length) : hasT (l.take (j + 1)) s = (hasT (l.take j) s || decide (l[j] = s)) := by
  unfold hasT
  rw [take_next l j h, List.any_append]
  simp
/-- A name behind those ahead, if it isn't there. -/
def addT (l : List ByteArray) (s : ByteArray) : List ByteArray := if hasT l s = true then l else l ++ [s]
mutual
def textsN : Nd → List ByteArray → List ByteArray
  | .mk _ _ _ ps _ _ ks, l => textsL ks ((ps.map PV.name).foldl addT l)
def textsL : List Nd → List ByteArray → List ByteArray
  | [], l => l
  | k :: r, l => textsL r (textsN k l)
end
theorem textsL_append : ∀ (a b : List Nd) (l : List ByteArray), textsL (a ++ b) l = textsL b (textsL a l)
  | [], b, l => by simp [textsL]
  | x :: a, b, l => by simp only [List.cons_append, textsL, textsL_append a b]
theorem textsL_next (ks : List Nd) (j : Nat) (h : j < ks.length) (l : List ByteArray) : textsL (ks.take (j + 1)) l = textsN ks[j] (textsL (ks.take j) l) := by
  rw [take_next ks j h, textsL_append]; simp [textsL]
theorem addT_length (l : List ByteArray) (s : ByteArray) : (addT l s).length ≤ l.length + 1 := by
  unfold addT; split <;> simp
theorem fold_length : ∀ (ns l : List ByteArray), (ns.foldl addT l).length ≤ l.length + ns.length
  | [], l => by simp
  | s :: ns, l => by
    have h1 := addT_length l s
    have h2 := fold_length ns (addT l s)
    simp only [List.foldl_cons, List.length_cons]
    omega
theorem texts_length_all (l0 : List ByteArray) : True := trivial
theorem textsN_length : ∀ (n : Nd) (l : List ByteArray), (textsN n l).length ≤ l.length + propsN n := by
  refine Nd.ind ?_
  intro n ih l
  obtain ⟨nm, pa, pc, ps, ka, kc, ks⟩ := n
  have hl : ∀ (r : List Nd), (∀ k ∈ r, k ∈ ks) → ∀ l, (textsL r l).length ≤ l.length + propsL r := by
    intro r
    induction r with
    | nil => intro _ l; simp [textsL]
    | cons k r ihr =>
      intro hr l
      have h1 := ih k (hr k (by simp)) l
      have h2 := ihr (fun x hx => hr x (by simp [hx])) (textsN k l)
      simp only [textsL, propsL]
      omega
  have h1 := fold_length (ps.map PV.name) l
  have h2 := hl ks (fun _ h => h) ((ps.map PV.name).foldl addT l)
  simp only [textsN, propsN]
  simp only [List.length_map] at h1
  omega
theorem propsL_take (ks : List Nd) (j : Nat) : propsL (ks.take j) ≤ propsL ks := by
  conv => rhs; rw [← List.take_append_drop j ks, propsL_append]
  omega
theorem textsL_length (ks : List Nd) (l : List ByteArray) : (textsL ks l).length ≤ l.length + propsL ks := by
  induction ks generalizing l with
  | nil => simp [textsL]
  | cons k r ih =>
    have h1 := textsN_length k l
    have h2 := ih (textsN k l)
    simp only [textsL, propsL]
    omega

/-! ### Rows of texts -/
abbrev strs (l : List ByteArray) : List Value := l.map Value.string
theorem info_strD : (Try.prog.info? 9).map (fun i => (i.zero, i.size, i.bytes)) = some (some (.string ⟨#[]⟩), 1, 16) := by kernel_rfl

/-- A row of texts that the call owns, as a slice. -/
theorem own_slice {w : World} {base n : Nat} {t : TypeId} {v : Value} {xs : List Value} (h : w.ownsRow base t 1 v n xs) :
    ∃ A c, v = .slice A n c ∧ n ≤ c ∧ c ≤ 9223372036854775807 ∧ (0 < n → ∃ g, A = some ⟨g, 0, none⟩ ∧ v.ownBlock = some g ∧ g < w.heap.size ∧ ∀ k, k < n → w.cell? ⟨g, k, none⟩ = xs[k]?) := by
  obtain ⟨hl, ⟨rfl, rfl⟩ | ⟨g, cap, cur, rfl, hb, hg, hnc, hcm, hsz, htk⟩⟩ := h
  · exact ⟨none, 0, rfl, Nat.le_refl _, by omega, fun h => absurd h (Nat.lt_irrefl 0)⟩
  · refine ⟨_, cap, rfl, hnc, hcm, fun _ => ⟨g, rfl, rfl, (Array.getElem?_eq_some_iff.1 hg).1, fun k hk => ?_⟩⟩
    have e : w.cell? ⟨g, k, none⟩ = cur[k]? := by simp [World.cell?, hg]
    rw [e, ← htk, List.getElem?_take_of_lt (by omega), Array.getElem?_toList]

/-- What texts leaves: a row of its own, in the old one's block or a new one. -/
def TState (w0 : World) (B1 : Nat) (r0 : Option Nat) (wr : World) (v : Value) (l : List ByteArray) : Prop :=
  wr.ownsRow B1 9 1 v l.length (strs l) ∧ w0.grownBy wr r0 ∧ (v.ownBlock = r0 ∨ ∃ g, v.ownBlock = some g ∧ w0.heap.size ≤ g)
def TOut (w : World) (B1 : Nat) (v : Value) (l : List ByteArray) (e : Ending) (w' : World) : Prop := ∃ v', e = .returned v' ∧ TState w B1 v.ownBlock w' v' l

theorem TState.step {w0 wr w' : World} {B1 : Nat} {r0 : Option Nat} {v v' : Value} {l l' : List ByteArray} (h : TState w0 B1 r0 wr v l) (h' : TState wr B1 v.ownBlock w' v' l') : TState w0 B1 r0 w' v' l' := by
  obtain ⟨h1, h2, h3⟩ := h
  obtain ⟨k1, k2, k3⟩ := h'
  refine ⟨k1, ⟨k2.os.trans h2.os, k2.tape.trans h2.tape, k2.output.trans h2.output, Nat.le_trans h2.size k2.size, fun i hi hne => ?_⟩, ?_⟩
  · refine (k2.block i (Nat.lt_of_lt_of_le hi h2.size) ?_).trans (h2.block i hi hne)
    rcases h3 with e | ⟨g, e, hg⟩
    · rw [e]; exact hne
    · rw [e]; intro e2; injection e2 with e2; omega
  · rcases k3 with e | ⟨g, e, hg⟩
    · rw [e]; exact h3
    · exact .inr ⟨g, e, Nat.le_trans h2.size hg⟩
theorem TState.drewN {w0 wr : World} {B1 : Nat} {r0 : Option Nat} {v : Value} {l : List ByteArray} (h : TState w0 B1 r0 wr v l) (q : Nat) : TState w0 B1 r0 (wr.drewN q) v l :=
  ⟨h.1, ⟨h.2.1.os, h.2.1.tape, h.2.1.output, h.2.1.size, h.2.1.block⟩, h.2.2⟩
/-- Behind a new block. -/
theorem TState.box {w w' : World} {o : Obj} {B1 : Nat} {r0 : Option Nat} {v : Value} {l : List ByteArray} (h : TState (w.alloc o) B1 r0 w' v l) : TState w B1 r0 w' v l := by
  obtain ⟨h1, h2, h3⟩ := h
  refine ⟨h1, ⟨h2.os, h2.tape, h2.output, Nat.le_trans (by simp) h2.size, fun i hi hne => (h2.block i (by simp; omega) hne).trans (heap_alloc_old w o hi)⟩, ?_⟩
  rcases h3 with e | ⟨g, e, hg⟩
  · exact .inl e
  · exact .inr ⟨g, e, by simp at hg; omega⟩
/-- Cells of blocks that are another's. -/
theorem TState.cell {w0 wr : World} {B1 : Nat} {r0 : Option Nat} {v : Value} {l : List ByteArray} (h : TState w0 B1 r0 wr v l) {a : Addr} (ha : a.block < w0.heap.size) (hr : some a.block ≠ r0) : wr.cell? a = w0.cell? a :=
  World.cell?_of_block (h.2.1.block a.block ha hr)

end Go.Proofs.Ytapfcbcojnplaaa

/-! The document's blob: where a text stands behind those ahead of it. -/
namespace Go.Proofs.Ytapfcbcojnplaaa
open Go.RowKit
set_option linter.unusedVariables false
set_option linter.unusedSimpArgs false

/-- How many bytes texts are, each with a nought. -/
def textSize : List ByteArray → Nat
  | [] => 0
  | x :: r => x.size + 1 + textSize r
theorem textSize_append : ∀ a b : List ByteArray, textSize (a ++ b) = textSize a + textSize b
  | [], b => by simp [textSize]
  | x :: a, b => by simp only [List.cons_append, textSize, textSize_append a b]; omega
theorem textSize_next (l : List ByteArray) (j : Nat) (h : j < l.length) : textSize (l.take (j + 1)) = textSize (l.take j) + l[j].size + 1 := by
  rw [take_next l j h, textSize_append]; simp only [textSize]; omega
theorem textSize_take (l : List ByteArray) (j : Nat) : textSize (l.take j) ≤ textSize l := by
  conv => rhs; rw [← List.take_append_drop j l, textSize_append]
  omega
/-- Where a text stands. -/
def whereL : List ByteArray → ByteArray → Nat
  | [], _ => 0
  | x :: r, s => if x = s then 0 else x.size + 1 + whereL r s
theorem whereL_missed : ∀ (l : List ByteArray) (s : ByteArray) (k : Nat), Missed l s k → whereL l s = textSize (l.take k) + whereL (l.drop k) s
  | [], s, k, _ => by simp [whereL, textSize]
  | x :: l, s, 0, _ => by simp [textSize]
  | x :: l, s, k + 1, h => by
    have h0 : x ≠ s := by have := h.2 0 (by simp) (by omega); simpa using this
    have ih := whereL_missed l s k ⟨by have := h.1; simp at this; omega, fun j hj hlt => by have := h.2 (j + 1) (by simp; omega) (by omega); simpa using this⟩
    simp only [whereL, if_neg h0, List.take_succ_cons, List.drop_succ_cons, textSize, ih]
    omega
theorem whereL_hit {l : List ByteArray} {s : ByteArray} {k : Nat} (h : Missed l s k) (hk : k < l.length) (e : l[k] = s) : whereL l s = textSize (l.take k) := by
  rw [whereL_missed l s k h, List.drop_eq_getElem_cons hk]
  simp [whereL, e]
theorem whereL_all {l : List ByteArray} {s : ByteArray} {k : Nat} (h : Missed l s k) (hk : ¬ k < l.length) : whereL l s = textSize l := by
  rw [whereL_missed l s k h, List.drop_eq_nil_of_le (by omega), List.take_of_length_le (by omega)]
  simp [whereL]
theorem whereL_le (l : List ByteArray) (s : ByteArray) : whereL l s ≤ textSize l := by
  induction l with
  | nil => simp [whereL]
  | cons x r ih => simp only [whereL, textSize]; split <;> omega

/-- A slice's cells are these texts. -/
def TRow (w : World) (B : Nat) (A : Option Addr) (l : List ByteArray) : Prop :=
  0 < l.length → ∃ g, A = some ⟨g, 0, none⟩ ∧ g < B ∧ ∀ k (h : k < l.length), w.cell? ⟨g, k, none⟩ = some (.string l[k])
theorem TRow.keep {w w' : World} {B : Nat} {A : Option Addr} {l : List ByteArray} (h : TRow w B A l) (hk : ∀ a : Addr, a.block < B → w'.cell? a = w.cell? a) : TRow w' B A l := fun h0 => by
  obtain ⟨g, e, hg, hc⟩ := h h0
  exact ⟨g, e, hg, fun k hk' => (hk _ hg).trans (hc k hk')⟩
theorem TRow.under {w w' : World} {B : Nat} {A : Option Addr} {l : List ByteArray} (h : TRow w B A l) (hb : Below B w w') : TRow w' B A l := h.keep fun _ hp => hb.cell hp
theorem TRow.more {w : World} {B B' : Nat} {A : Option Addr} {l : List ByteArray} (h : TRow w B A l) (hB : B ≤ B') : TRow w B' A l := fun h0 => by
  obtain ⟨g, e, hg, hc⟩ := h h0
  exact ⟨g, e, by omega, hc⟩
/-- A row that texts left. -/
theorem trow_of_own {w : World} {base : Nat} {v : Value} {l : List ByteArray} (h : w.ownsRow base 9 1 v l.length (strs l)) : ∃ A c, v = .slice A l.length c ∧ l.length ≤ c ∧ c ≤ 9223372036854775807 ∧ TRow w w.heap.size A l := by
  obtain ⟨A, c, h1, h2, h3, h4⟩ := own_slice h
  refine ⟨A, c, h1, h2, h3, fun h0 => ?_⟩
  obtain ⟨g, e, _, hg, hc⟩ := h4 h0
  exact ⟨g, e, hg, fun k hk => by rw [hc k hk, List.getElem?_map, List.getElem?_eq_getElem hk]; rfl⟩

end Go.Proofs.Ytapfcbcojnplaaa

/-! The document's blob: a node's tokens. -/
namespace Go.Proofs.Ytapfcbcojnplaaa
open Go.RowKit
set_option linter.unusedVariables false
set_option linter.unusedSimpArgs false

/-- A property's token. -/
def propT (l : List ByteArray) (p : PV) : List Int := [0, 0, 0, 3] ++ (four p.zs.length ++ (four (whereL l p.name) ++ padL p.zs))
mutual
/-- A node's tokens. -/
def nodeN (l : List ByteArray) : Nd → List Int
  | .mk nm _ _ ps _ _ ks => [0, 0, 0, 1] ++ padL (strB nm ++ [0]) ++ ps.flatMap (propT l) ++ nodeL l ks ++ [0, 0, 0, 2]
def nodeL (l : List ByteArray) : List Nd → List Int
  | [] => []
  | k :: r => nodeN l k ++ nodeL l r
end
theorem nodeL_append (l : List ByteArray) : ∀ a b : List Nd, nodeL l (a ++ b) = nodeL l a ++ nodeL l b
  | [], b => by simp [nodeL]
  | x :: a, b => by simp only [List.cons_append, nodeL, nodeL_append l a b, List.append_assoc]
theorem nodeL_next (l : List ByteArray) (ks : List Nd) (j : Nat) (h : j < ks.length) : nodeL l (ks.take (j + 1)) = nodeL l (ks.take j) ++ nodeN l ks[j] := by
  rw [take_next ks j h, nodeL_append]; simp [nodeL]
theorem props_next (l : List ByteArray) (ps : List PV) (j : Nat) (h : j < ps.length) : (ps.take (j + 1)).flatMap (propT l) = (ps.take j).flatMap (propT l) ++ propT l ps[j] := by
  rw [take_next ps j h, List.flatMap_append]; simp

/-- How heavy a node is: no less than its tokens, or its properties' names. -/
def heftP (p : PV) : Nat := 16 + p.name.size + p.zs.length
mutual
def heftN : Nd → Nat
  | .mk nm _ _ ps _ _ ks => 16 + nm.size + (ps.map heftP).sum + heftL ks
def heftL : List Nd → Nat
  | [] => 0
  | k :: r => heftN k + heftL r
end
theorem heftL_append : ∀ a b : List Nd, heftL (a ++ b) = heftL a + heftL b
  | [], b => by simp [heftL]
  | x :: a, b => by simp only [List.cons_append, heftL, heftL_append a b]; omega
theorem heftL_next (ks : List Nd) (j : Nat) (h : j < ks.length) : heftL (ks.take (j + 1)) = heftL (ks.take j) + heftN ks[j] := by
  rw [take_next ks j h, heftL_append]; simp [heftL]
theorem heftL_take (ks : List Nd) (j : Nat) : heftL (ks.take j) ≤ heftL ks := by
  conv => rhs; rw [← List.take_append_drop j ks, heftL_append]
  omega
theorem heftP_take (ps : List PV) (j : Nat) : ((ps.take j).map heftP).sum ≤ (ps.map heftP).sum := by
  conv => rhs; rw [← List.take_append_drop j ps, List.map_append, List.sum_append]
  omega
theorem heftP_next (ps : List PV) (j : Nat) (h : j < ps.length) : ((ps.take (j + 1)).map heftP).sum = ((ps.take j).map heftP).sum + heftP ps[j] := by
  rw [take_next ps j h, List.map_append, List.sum_append]; simp
theorem propT_length (l : List ByteArray) (p : PV) : (propT l p).length ≤ heftP p := by
  have h1 := padN_lt p.zs.length
  simp only [propT, List.length_append, padL_length, heftP, four, List.length_cons, List.length_nil]
  omega
theorem props_length (l : List ByteArray) : ∀ ps : List PV, (ps.flatMap (propT l)).length ≤ (ps.map heftP).sum
  | [] => by simp
  | p :: r => by
    have h1 := propT_length l p
    have h2 := props_length l r
    simp only [List.flatMap_cons, List.length_append, List.map_cons, List.sum_cons]
    omega
theorem nodeN_length (l : List ByteArray) : ∀ n : Nd, (nodeN l n).length ≤ heftN n := by
  refine Nd.ind ?_
  intro n ih
  obtain ⟨nm, pa, pc, ps, ka, kc, ks⟩ := n
  have hl : ∀ (r : List Nd), (∀ k ∈ r, k ∈ ks) → (nodeL l r).length ≤ heftL r := by
    intro r
    induction r with
    | nil => intro _; simp [nodeL]
    | cons k r ihr =>
      intro hr
      have h1 := ih k (hr k (by simp))
      have h2 := ihr (fun x hx => hr x (by simp [hx]))
      simp only [nodeL, heftL, List.length_append]
      omega
  have h1 := hl ks (fun _ h => h)
  have h2 := props_length l ps
  have h3 := padN_lt (strB nm ++ [0]).length
  simp only [nodeN, heftN, List.length_append, padL_length, List.length_cons, List.length_nil] at h3 ⊢
  rw [strB_length] at h3 ⊢
  omega
theorem nodeL_length (l : List ByteArray) : ∀ ks : List Nd, (nodeL l ks).length ≤ heftL ks
  | [] => by simp [nodeL]
  | k :: r => by
    have h1 := nodeN_length l k
    have h2 := nodeL_length l r
    simp only [nodeL, heftL, List.length_append]
    omega

/-- Behind a node's first statement. -/
def First (B : Nat) (W0 W : World) (nm : ByteArray) (v : Value) : Prop := Mid B W0 W v ([0, 0, 0, 1] ++ padL (strB nm ++ [0]))

end Go.Proofs.Ytapfcbcojnplaaa

/-! The places of a node and of all below it: the document's answer. -/
namespace Go.Proofs.Ytapfcbcojnplaaa
open Go.RowKit
set_option linter.unusedVariables false
set_option linter.unusedSimpArgs false

mutual
/-- The places of a node that stands at p, and of all below it, in order. -/
def placesN : Nd → List Nat → List (List Nat)
  | .mk _ _ _ _ _ _ ks, p => p :: placesL ks p 0
def placesL : List Nd → List Nat → Nat → List (List Nat)
  | [], _, _ => []
  | k :: r, p, i => placesN k (p ++ [i]) ++ placesL r p (i + 1)
end
theorem placesN_mk (n : Nd) (p : List Nat) : placesN n p = p :: placesL n.kids p 0 := by cases n; rw [placesN]; rfl
theorem placesL_append : ∀ (a b : List Nd) (p : List Nat) (i : Nat), placesL (a ++ b) p i = placesL a p i ++ placesL b p (i + a.length)
  | [], b, p, i => by simp [placesL]
  | x :: a, b, p, i => by
    simp only [List.cons_append, placesL, placesL_append a b, List.append_assoc, List.length_cons]
    congr 3; omega
theorem placesL_next (ks : List Nd) (p : List Nat) (j : Nat) (h : j < ks.length) : placesL (ks.take (j + 1)) p 0 = placesL (ks.take j) p 0 ++ placesN ks[j] (p ++ [j]) := by
  rw [take_next ks j h, placesL_append]
  simp [placesL, Nat.min_eq_left (Nat.le_of_lt h)]
/-- How many they are, and how long: by the node's weight. -/
theorem places_len : ∀ (n : Nd) (p : List Nat), (placesN n p).length ≤ heftN n ∧ ∀ q ∈ placesN n p, q.length ≤ p.length + heftN n := by
  refine Nd.ind ?_
  intro n ih p
  have hl : ∀ (r : List Nd) (i : Nat), (∀ k ∈ r, k ∈ n.kids) → (placesL r p i).length ≤ heftL r ∧ ∀ q ∈ placesL r p i, q.length ≤ p.length + 1 + heftL r := by
    intro r
    induction r with
    | nil => intro i _; simp [placesL]
    | cons k r ihr =>
      intro i hr
      obtain ⟨a1, a2⟩ := ih k (hr k (by simp)) (p ++ [i])
      obtain ⟨b1, b2⟩ := ihr (i + 1) (fun x hx => hr x (by simp [hx]))
      rw [placesL, heftL]
      refine ⟨by rw [List.length_append]; omega, fun q hq => ?_⟩
      rcases List.mem_append.1 hq with h | h
      · have := a2 q h; simp at this; omega
      · have := b2 q h; omega
  obtain ⟨h1, h2⟩ := hl n.kids 0 (fun _ h => h)
  have e : heftN n = 16 + n.name.size + (n.props.map heftP).sum + heftL n.kids := by cases n; rw [heftN]; rfl
  rw [placesN_mk]
  refine ⟨by simp only [List.length_cons]; omega, fun q hq => ?_⟩
  rcases List.mem_cons.1 hq with rfl | h
  · omega
  · have := h2 q h; omega

theorem wp_app {P : Program} {w w' : World} {o : Oper} {a : Act} {K : Act → World → Prop} {Q : Exit → Act → World → Prop} {t u : TypeId} (s x : Operand) (ho : o.op = .call { callee := .builtin .append, args := #[s, x], argTypes := #[t, u] })
    (y z : Value) (hs : a.eval s = y) (hx : a.eval x = z) {v : Value} (hr : (Builtin.append_ #[t, u] o.type #[y, z]).run P w = .ok v w') (hK : K (a.put o.dst v) w') : o.wp P a w K Q := by
  unfold Oper.wp execOp
  simp only [ho, resolve, invoke, builtin, Sem.run_bind, Sem.run_pure, Result.andThen_ok, List.map_toArray, List.map_cons, List.map_nil, hs, hx, hr]
  exact hK
theorem own_new (W : World) (B : Nat) (hB : B ≤ W.heap.size) : (W.alloc (.cells #[] 3)).ownsRow B 3 1 (.slice (some ⟨W.heap.size, 0, none⟩) 0 0) 0 (ints []) := World.ownsRow_made W #[] 0 hB (Nat.zero_le _) rfl
/-- A row of one number. -/
theorem one_new (W : World) (j : Nat) : Cel (W.alloc (.cells #[Value.int .i64 (j : Int)] 3)) (W.heap.size + 1) (some ⟨W.heap.size, 0, none⟩) 1 (ints [j]) :=
  ⟨rfl, fun _ => ⟨W.heap.size, 0, rfl, Nat.lt_succ_self _, fun i hi => by
    obtain rfl : i = 0 := by omega
    exact World.cell?_alloc_new _ _ _ _⟩⟩
theorem one_kept {W W' : World} {g r j : Nat} (h : Cel W (g + 1) (some ⟨g, 0, none⟩) 1 (ints [j])) (hg : W.grownBy W' (some r)) (hne : g ≠ r ∧ g < W.heap.size) : Cel W' (g + 1) (some ⟨g, 0, none⟩) 1 (ints [j]) :=
  ⟨rfl, fun _ => ⟨g, 0, rfl, Nat.lt_succ_self _, fun i hi => by
    obtain ⟨b, o, e, _, hc⟩ := h.2 (by omega)
    simp only [Option.some.injEq, Addr.mk.injEq] at e
    obtain ⟨rfl, rfl, _⟩ := e
    rw [← hc i hi]
    exact World.cell?_of_block (w := W) (hg.block _ hne.2 (fun e => hne.1 (Option.some.inj e)))⟩⟩
theorem Cel.below' {W : World} {g j : Nat} (h : Cel W (g + 1) (some ⟨g, 0, none⟩) 1 (ints [j])) (o : Obj) : Cel (W.alloc o) (g + 1) (some ⟨g, 0, none⟩) 1 (ints [j]) :=
  ⟨h.1, fun h0 => by
    obtain ⟨b, q, e, hb, hc⟩ := h.2 h0
    exact ⟨b, q, e, hb, fun i hi => by rw [← hc i hi]; exact Lib.cell?_alloc_some o ((hc i hi).trans (List.getElem?_eq_getElem (by simpa using hi))) |>.trans ((hc i hi).trans (List.getElem?_eq_getElem (by simpa using hi))).symm⟩⟩
theorem PlV.re {w : World} {lo lo' hi : Nat} {own own' : Option Nat} {v : Value} {p : List Nat} (h : PlV w lo hi own v p) (hn : ∀ b, lo ≤ b → b < hi → own ≠ some b → lo' ≤ b ∧ own' ≠ some b) : PlV w lo' hi own' v p := by
  obtain ⟨A, c, e, hc, h1, h2, h3⟩ := h
  refine ⟨A, c, e, hc, h1, h2, fun h0 b o e => ?_⟩
  obtain ⟨h4, h5⟩ := h3 h0 b o e
  obtain ⟨b', o', e', hb, _⟩ := hc.2 h0
  rw [e] at e'
  simp only [Option.some.injEq, Addr.mk.injEq] at e'
  exact hn b h4 (by omega) h5
theorem PlV.one {w : World} {lo hi : Nat} {own : Option Nat} {v : Value} {p : List Nat} (h : PlV w lo hi own v p) : v.oneCell' = true := by
  obtain ⟨A, c, rfl, _⟩ := h
  rfl
theorem two_one {w : World} {lo hi : Nat} {own : Option Nat} : ∀ {vs : List Value} {ps : List (List Nat)}, Two (PlV w lo hi own) vs ps → ∀ u ∈ vs, u.oneCell' = true
  | _, _, .nil, u, h => by cases h
  | _, _, .cons a t, u, h => by
    rcases List.mem_cons.1 h with rfl | h
    · exact a.one
    · exact two_one t u h
theorem PlRow.low {w : World} {lo lo' : Nat} {v : Value} {ps : List (List Nat)} (h : PlRow w lo v ps) (hl : lo' ≤ lo) : PlRow w lo' v ps := by
  obtain ⟨vs, h1, h2⟩ := h.row
  refine ⟨vs, ⟨h1.1, ?_⟩, h2.mono fun x p hx => hx.re fun b hb _ hne => ⟨by omega, hne⟩⟩
  rcases h1.2 with h | ⟨g, cap, cur, e, hb, r⟩
  · exact .inl h
  · exact .inr ⟨g, cap, cur, e, by omega, r⟩
/-- Nothing that was there has been touched. -/
theorem PlRow.on {w w' : World} {lo : Nat} {v : Value} {ps : List (List Nat)} (h : PlRow w lo v ps) (hb : Below w.heap.size w w') : PlRow w' lo v ps := by
  obtain ⟨vs, h1, h2⟩ := h.row
  exact ⟨vs, own_on h1 hb, h2.mono fun x p hx => hx.keep hb.size (fun a ha _ => hb.cell ha) (fun _ _ h => h)⟩
theorem PlRow.lt {w : World} {lo : Nat} {v : Value} {ps : List (List Nat)} (h : PlRow w lo v ps) : ∀ g, v.ownBlock = some g → lo ≤ g ∧ g < w.heap.size := by
  obtain ⟨vs, h1, _⟩ := h.row
  exact h1.lt
/-- A list of one place. -/
theorem one_place {w : World} {lo : Nat} {A : Option Addr} {c : Nat} {p : List Nat} {pl : Nat} (hpl : p.length = pl) (h : w.ownsRow lo 3 1 (.slice A pl c) pl (ints p)) (hlo : lo ≤ w.heap.size) : PlRow (w.alloc (.cells #[.slice A pl c] 30)) lo (.slice (some ⟨w.heap.size, 0, none⟩) 1 1) [p] := by
  subst hpl
  obtain ⟨A', c', e, hc, h1, h2, h3⟩ := owned_cel h
  simp only [Value.slice.injEq, true_and] at e
  obtain ⟨rfl, rfl⟩ := e
  have hb := (Below.refl w.heap.size w).alloc (Nat.le_refl _) (.cells #[.slice A p.length c] 30)
  refine ⟨[.slice A p.length c], ⟨rfl, .inr ⟨w.heap.size, 1, _, rfl, hlo, heap_alloc_new w _, Nat.le_refl _, by unfold maxLen; omega, rfl, rfl⟩⟩, .cons ⟨A, c, rfl, hc.on hb, h1, h2, fun h0 b o e => ?_⟩ .nil⟩
  subst e
  have := h3 b rfl
  exact ⟨this.1, fun e => by simp [Value.ownBlock] at e; omega⟩
theorem placesL_len : ∀ (r : List Nd) (p : List Nat) (i : Nat), (placesL r p i).length ≤ heftL r
  | [], p, i => by simp [placesL]
  | k :: r, p, i => by
    have h1 := (places_len k (p ++ [i])).1
    have h2 := placesL_len r p (i + 1)
    rw [placesL, heftL, List.length_append]; omega

end Go.Proofs.Ytapfcbcojnplaaa

/-! Layer 3: whether one name is there twice, by a map of the names that were seen. -/
namespace Go.Proofs.Ytapfcbcojnplaaa
open Go.RowKit Go.Maps Go.WideMaps
set_option linter.unusedVariables false
set_option linter.unusedSimpArgs false

/-- One name is there twice. -/
def twiceB (l : List ByteArray) : Bool := !decide l.Nodup

/-- The key that a name is, and the set of the first k names. -/
def keyL (s : ByteArray) : Lit := .string s.data.toList
def Sn (l : List ByteArray) (k : Nat) : DataW Unit := setOf (.agg []) ((l.take k).map keyL)

theorem Sn_zero (l : List ByteArray) : Sn l 0 = .map [] := by simp [Sn, setOf]
theorem Sn_succ (l : List ByteArray) (k : Nat) (hk : k < l.length) : Sn l (k + 1) = (Sn l k).put (keyL l[k]) (.agg []) := by
  unfold Sn
  rw [List.take_add_one, List.getElem?_eq_getElem hk, List.map_append, ← setOf_snoc]
  rfl
theorem has_Sn (l : List ByteArray) (k : Nat) (s : ByteArray) : Maps.has (Sn l k) (keyL s) = true ↔ s ∈ l.take k := by
  unfold Sn
  rw [has_setOf _ _ _ (fun y hy => by obtain ⟨_, _, rfl⟩ := List.mem_map.1 hy; trivial), List.any_map, List.any_eq_true]
  constructor
  · rintro ⟨x, hx, h⟩
    have e : x.data.toList = s.data.toList := by
      have h' : (keyL x).sameKey (keyL s) = true := h
      by_cases e : keyL x = keyL s
      · exact (Lit.string.inj e)
      · rw [sameKey_ne e] at h'; cases h'
    rw [← WideShapes.bytes_inj e]
    exact hx
  · intro h
    refine ⟨s, h, ?_⟩
    show (keyL s).sameKey (keyL s) = true
    simp [keyL, Lit.sameKey]
theorem has_no {l : List ByteArray} {k : Nat} {s : ByteArray} (h : s ∉ l.take k) : Maps.has (Sn l k) (keyL s) = false := by
  rcases e : Maps.has (Sn l k) (keyL s) with _ | _
  · rfl
  · exact absurd ((has_Sn l k s).1 e) h

theorem nodup_zero (l : List ByteArray) : (l.take 0).Nodup := by simp
theorem nodup_succ {l : List ByteArray} {k : Nat} (h : (l.take k).Nodup) (hk : k < l.length) (hn : l[k] ∉ l.take k) : (l.take (k + 1)).Nodup := by
  rw [List.take_add_one, List.getElem?_eq_getElem hk]
  rw [List.nodup_append]
  refine ⟨h, by simp, ?_⟩
  intro a ha b hb hab
  simp at hb
  subst hb hab
  exact hn ha
theorem twice_hit {l : List ByteArray} {k : Nat} (hk : k < l.length) (hn : l[k] ∈ l.take k) : twiceB l = true := by
  have : ¬ l.Nodup := fun h => by
    have h1 : (l.take k ++ l.drop k).Nodup := by rw [List.take_append_drop]; exact h
    rw [List.nodup_append] at h1
    exact h1.2.2 _ hn l[k] (by rw [List.drop_eq_getElem_cons hk]; exact List.mem_cons_self ..) rfl
  simp [twiceB, this]
theorem twice_all {l : List ByteArray} {k : Nat} (h : (l.take k).Nodup) (hk : ¬ k < l.length) : twiceB l = false := by
  rw [List.take_of_length_le (by omega)] at h
  simp [twiceB, h]

theorem ownsMap_below {w w' : World} {B b n : Nat} {k : TypeId} {R : Value → Option (DataW Unit × List MemPlace)} {D : DataW Unit} (h : w.ownsMap Try.prog k R b n D) (hb : Below B w w') (hlt : b < B) : w'.ownsMap Try.prog k R b n D := by
  obtain ⟨es, clock, h1, h2⟩ := h
  exact ⟨es, clock, (hb.block b hlt).trans h1, h2⟩

theorem lawS : Keyed Try.prog 9 := string_keyed Try.underlying9
theorem zeroS (w : World) : (zeroValue 109).run Try.prog w = .ok (.agg #[]) w := by kernel_rfl
theorem key_ok {s : ByteArray} (hs : s.size ≤ 140737488351232) : keyOf Try.prog 9 (.string s) = some (keyL s) := keyOf_string_mk Try.underlying9 (by unfold maxLen; omega)

end Go.Proofs.Ytapfcbcojnplaaa

/-! Names, byte by byte: letters, digits, marks; the program's and the document's tests. -/
namespace Go.Proofs.Ytapfcbcojnplaaa
open Go.RowKit
set_option linter.unusedVariables false
set_option linter.unusedSimpArgs false

def letB (c : Int) : Bool := decide ((97 ≤ c ∧ c ≤ 122) ∨ (65 ≤ c ∧ c ≤ 90))
def digB (c : Int) : Bool := decide (48 ≤ c ∧ c ≤ 57)
def markB (c : Int) : Bool := decide (c = 44 ∨ c = 46 ∨ c = 95 ∨ c = 43 ∨ c = 45)
def stB (c : Int) : Bool := letB c || digB c || markB c

end Go.Proofs.Ytapfcbcojnplaaa

/-! name.isMadeOf: a text of 1 to 31 bytes, each of which may stand. -/
namespace Go.Proofs.Ytapfcbcojnplaaa
open Go.RowKit
set_option linter.unusedVariables false
set_option linter.unusedSimpArgs false

def okM (marks : List UInt8) (c : UInt8) : Bool := letB c.toNat || digB c.toNat || decide (0 ≤ Lib.indexByte marks c)
/-- Made of letters, digits and the marks. -/
def madeB (marks l : List UInt8) : Bool := decide (1 ≤ l.length) && decide (l.length ≤ 31) && l.all (okM marks)

theorem size_len (s : ByteArray) : s.data.toList.length = s.size := rfl
theorem byte_le (c : UInt8) : 0 ≤ (c.toNat : Int) ∧ (c.toNat : Int) ≤ 255 := by have := c.toNat_lt; omega
theorem byte_back (c : UInt8) : ((c.toNat : Int).toNat).toUInt8 = c := by simp
theorem at_mem (s : ByteArray) (k : Nat) (h : k < s.size) : s[k] ∈ s.data.toList := by
  have : s[k] = s.data[k]'(by simpa using h) := rfl
  rw [this]; simp
theorem all_at (s : ByteArray) (p : UInt8 → Bool) (h : ∀ k (hk : k < s.size), p s[k] = true) : s.data.toList.all p = true := by
  rw [List.all_eq_true]
  intro x hx
  obtain ⟨k, hk, rfl⟩ := List.getElem_of_mem hx
  exact h k hk
theorem not_all (s : ByteArray) (p : UInt8 → Bool) (k : Nat) (hk : k < s.size) (h : p s[k] = false) : s.data.toList.all p = false := by
  rw [Bool.eq_false_iff]
  intro e
  rw [List.all_eq_true] at e
  have := e _ (at_mem s k hk)
  rw [h] at this; cases this

end Go.Proofs.Ytapfcbcojnplaaa

/-! A text parted at the first @: the program's, the library's and the document's functions. -/
namespace Go.Proofs.Ytapfcbcojnplaaa
open Go.RowKit
set_option linter.unusedVariables false
set_option linter.unusedSimpArgs false

/-- The first @ is at i. -/
def CutAt (s : ByteArray) (i : Nat) : Prop := i < s.size ∧ Lib.indexByte s.data.toList 64 = (i : Int)
/-- There is none. -/
def NoCut (s : ByteArray) : Prop := Lib.indexByte s.data.toList 64 = -1

theorem index_size (l : List UInt8) (c : UInt8) (i : Nat) (h : Lib.indexByte l c = i) : i < l.length := by
  have h1 := (Lib.indexByte_some h).1
  rcases Nat.lt_or_ge i l.length with h | h
  · exact h
  · rw [List.getElem?_eq_none h] at h1; cases h1
theorem cut_or_not (s : ByteArray) : NoCut s ∨ ∃ i, CutAt s i := by
  have hge := Lib.indexByte_ge s.data.toList 64
  by_cases hn : Lib.indexByte s.data.toList 64 = -1
  · exact .inl hn
  · refine .inr ⟨(Lib.indexByte s.data.toList 64).toNat, ?_, by omega⟩
    exact index_size s.data.toList 64 _ (by omega)
theorem elem_at (s : ByteArray) (k : Nat) (hk : k < s.size) : s.data.toList[k]? = some s[k] := by
  rw [List.getElem?_eq_getElem (show k < s.data.toList.length from hk)]; rfl
theorem NoCut.ne {s : ByteArray} (h : NoCut s) (k : Nat) (hk : k < s.size) : s[k] ≠ 64 := fun e => Lib.indexByte_none h k (by rw [elem_at s k hk, e])
theorem CutAt.at_ {s : ByteArray} {i : Nat} (h : CutAt s i) : s[i]'h.1 = 64 := by
  have h1 := (Lib.indexByte_some h.2).1
  rw [elem_at s i h.1] at h1
  exact Option.some.inj h1
theorem CutAt.ne {s : ByteArray} {i : Nat} (h : CutAt s i) (k : Nat) (hk : k < i) : s[k]'(Nat.lt_trans hk h.1) ≠ 64 := fun e =>
  (Lib.indexByte_some h.2).2 k hk (by rw [elem_at s k (Nat.lt_trans hk h.1), e])
theorem byte_ne (c d : UInt8) (h : c ≠ d) : ((c.toNat : Int) == (d.toNat : Int)) = false := by
  rw [beq_eq_false_iff_ne]; intro e; exact h (UInt8.toNat.inj (by omega))

end Go.Proofs.Ytapfcbcojnplaaa

/-! name.Node and name.Prop: what the program answers, as a test on the bytes. -/
namespace Go.Proofs.Ytapfcbcojnplaaa
open Go.RowKit
set_option linter.unusedVariables false
set_option linter.unusedSimpArgs false

def nodeMarks : List UInt8 := [44, 46, 95, 43, 45]
def propMarks : List UInt8 := [44, 46, 95, 43, 45, 63, 35]
def firstB (l : List UInt8) : Bool := letB (l.getD 0 0).toNat || decide ((l.getD 0 0).toNat = 95)
def baseB (l : List UInt8) : Bool := madeB nodeMarks l && firstB l

theorem first_at (s : ByteArray) (h : 0 < s.size) : s.data.toList.getD 0 0 = s[0] := by
  rw [List.getD, elem_at s 0 h]; rfl
theorem made_pos {m l : List UInt8} (h : madeB m l = true) : 0 < l.length := by
  unfold madeB at h
  rw [Bool.and_eq_true, Bool.and_eq_true, decide_eq_true_eq] at h
  omega

end Go.Proofs.Ytapfcbcojnplaaa

/-! The document's functions of names: the same tests on the bytes. -/
namespace Go.Proofs.Ytapfcbcojnplaaa
open Go.RowKit
set_option linter.unusedVariables false
set_option linter.unusedSimpArgs false

set_option maxHeartbeats 1000000 in
theorem stands_any (c : Int) (w : World) (h : 0 ≤ c ∧ c ≤ 255) (r : Bool) (hr : r = stB c) :
    Calls Try.prog 40 #[.int .u8 c] w fun e w' => e = .returned (.bool r) ∧ w = w' := by
  have HR := Lib.hid hr
  clear hr
  go_enter Try.func40, Try.ntmps40
  go_wp2
  all_goals
    go_ret
    refine ⟨congrArg (fun b => Ending.returned (.bool b)) ?_, rfl⟩
    rw [HR.out, Bool.eq_iff_iff]
    simp only [stB, letB, digB, markB, Bool.or_eq_true, Bool.and_eq_true, decide_eq_true_eq, beq_iff_eq]
    try simp
    try omega
set_option maxRecDepth 100000 in
theorem node_marks : ∀ n : Fin 256, okM nodeMarks (UInt8.ofNat n.val) = stB n.val := by decide
theorem node_ok (c : UInt8) : okM nodeMarks c = stB c.toNat := by
  have h := node_marks ⟨c.toNat, c.toNat_lt⟩
  simpa using h
def stP (c : Int) : Bool := stB c || decide (c = 63) || decide (c = 35)
set_option maxRecDepth 100000 in
theorem prop_marks : ∀ n : Fin 256, okM propMarks (UInt8.ofNat n.val) = stP n.val := by decide
theorem prop_ok (c : UInt8) : okM propMarks c = stP c.toNat := by
  have h := prop_marks ⟨c.toNat, c.toNat_lt⟩
  simpa using h

set_option maxHeartbeats 400000 in
theorem refcut_any (s : ByteArray) (w : World) (hs : s.size ≤ 140737488351232) (r : Int) (hr : r = Lib.indexByte s.data.toList 64) :
    Calls Try.prog 39 #[.string s] w fun e w' => e = .returned (.int .i64 r) ∧ w = w' := by
  rcases cut_or_not s with h | ⟨i, h⟩
  · obtain rfl : r = -1 := hr.trans h
    have H := Lib.hid h
    clear hr h
    go_enter Try.func39, Try.ntmps39
    go_wp2
    go_loop [6] (fun i => ∃ k : Nat, k ≤ s.size ∧ i = .int .i64 k) (fun i => s.size - (intOf i).toNat)
    case atStart => exact ⟨0, Nat.zero_le _, rfl⟩
    case round =>
      obtain ⟨k, hk, rfl⟩ := hrel
      by_cases hlt : k < s.size
      · have hne : ((s[k].toNat : Int) == 64) = false := byte_ne s[k] 64 (H.out.ne k hlt)
        go_wp2
        go_round
        case rel => exact ⟨k + 1, by omega, by go_num⟩
        case measure => simp [intOf]; omega
      · go_wp2
        go_ret
        exact ⟨rfl, rfl⟩
  · obtain rfl : r = (i : Int) := hr.trans h.2
    have H := Lib.hid h
    have hi := h.1
    clear hr h
    go_enter Try.func39, Try.ntmps39
    go_wp2
    go_loop [6] (fun x => ∃ k : Nat, k ≤ i ∧ x = .int .i64 k) (fun i => s.size - (intOf i).toNat)
    case atStart => exact ⟨0, Nat.zero_le _, rfl⟩
    case round =>
      obtain ⟨k, hk, rfl⟩ := hrel
      have hlt : k < s.size := by omega
      by_cases hki : k < i
      · have hne : ((s[k].toNat : Int) == 64) = false := byte_ne s[k] 64 (H.out.ne k hki)
        go_wp2
        go_round
        case rel => exact ⟨k + 1, by omega, by go_num⟩
        case measure => simp [intOf]; omega
      · obtain rfl : k = i := by omega
        have heq : ((s[k].toNat : Int) == 64) = true := by rw [H.out.at_]; rfl
        go_wp2
        go_ret
        exact ⟨rfl, rfl⟩

set_option maxHeartbeats 1000000 in
theorem refprop_any (s : ByteArray) (w : World) (hs : s.size ≤ 140737488351232) (r : Bool) (hr : r = madeB propMarks s.data.toList) :
    Calls Try.prog 32 #[.string s] w fun e w' => e = .returned (.bool r) ∧ w = w' := by
  have HR := Lib.hid hr
  clear hr
  have L := Lib.hid (size_len s)
  go_enter Try.func32, Try.ntmps32
  go_wp2
  go_loop [6] (fun i => ∃ k : Nat, k ≤ s.size ∧ i = .int .i64 k ∧ ∀ j (hj : j < s.size), j < k → okM propMarks s[j] = true) (fun i => s.size - (intOf i).toNat)
  case atStart => exact ⟨0, Nat.zero_le _, rfl, fun _ _ h => absurd h (by omega)⟩
  case round =>
    obtain ⟨k, hk, rfl, hall⟩ := hrel
    have HA := Lib.hid hall
    clear hall
    by_cases hlt : k < s.size
    · have hb := byte_le s[k]
      have fine : okM propMarks s[k] = true → Hid (∀ j (hj : j < s.size), j < k + 1 → okM propMarks s[j] = true) := fun h j hj hjk => by
        by_cases e : j = k
        · subst e; exact h
        · exact HA.out j hj (by omega)
      have bad : okM propMarks s[k] = false → r = false := fun h => by
        rw [HR.out]; unfold madeB; rw [not_all s _ k hlt h, Bool.and_false]
      rw [prop_ok] at fine bad
      cases hl : stB (s[k].toNat : Int)
      · by_cases h1 : (s[k].toNat : Int) = 63 ∨ (s[k].toNat : Int) = 35
        · have HF := fine (by unfold stP; rw [hl]; rcases h1 with h | h <;> rw [h] <;> rfl)
          have C1 := Lib.hid (stands_any s[k].toNat w hb false hl.symm)
          have t1 : ((s[k].toNat : Int) == 63) = false → ((s[k].toNat : Int) == 35) = true := fun h => by
            rw [beq_eq_false_iff_ne] at h; rw [beq_iff_eq]; exact h1.resolve_left h
          clear fine bad hl h1
          cases e1 : ((s[k].toNat : Int) == 63)
          · have e2 := t1 e1
            have e3 : ((s[k].toNat : Int) != 63) = true := by rw [bne, e1]; rfl
            have e4 : ((s[k].toNat : Int) != 35) = false := by rw [bne, e2]; rfl
            clear t1
            go_wp2_with (go_at_call 40; refine C1.out.mono ?_; rintro e w' ⟨rfl, rfl⟩)
            go_round
            case rel => exact ⟨k + 1, by omega, by go_num, HF⟩
            case measure => simp [intOf]; omega
          · have e3 : ((s[k].toNat : Int) != 63) = false := by rw [bne, e1]; rfl
            clear t1
            go_wp2_with (go_at_call 40; refine C1.out.mono ?_; rintro e w' ⟨rfl, rfl⟩)
            go_round
            case rel => exact ⟨k + 1, by omega, by go_num, HF⟩
            case measure => simp [intOf]; omega
        · obtain rfl := bad (by unfold stP; rw [hl, decide_eq_false (by omega), decide_eq_false (by omega)]; rfl)
          have C1 := Lib.hid (stands_any s[k].toNat w hb false hl.symm)
          have e1 : ((s[k].toNat : Int) == 63) = false := by rw [beq_eq_false_iff_ne]; omega
          have e2 : ((s[k].toNat : Int) == 35) = false := by rw [beq_eq_false_iff_ne]; omega
          have e3 : ((s[k].toNat : Int) != 63) = true := by rw [bne, e1]; rfl
          have e4 : ((s[k].toNat : Int) != 35) = true := by rw [bne, e2]; rfl
          clear fine bad hl h1
          go_wp2_with (go_at_call 40; refine C1.out.mono ?_; rintro e w' ⟨rfl, rfl⟩)
          go_ret
          exact ⟨rfl, rfl⟩
      · have HF := fine (by unfold stP; rw [hl]; rfl)
        have C1 := Lib.hid (stands_any s[k].toNat w hb true hl.symm)
        clear fine bad hl
        go_wp2_with (go_at_call 40; refine C1.out.mono ?_; rintro e w' ⟨rfl, rfl⟩)
        go_round
        case rel => exact ⟨k + 1, by omega, by go_num, HF⟩
        case measure => simp [intOf]; omega
    · have HT : r = (decide (1 ≤ s.size) && decide (s.size ≤ 31)) := by
        rw [HR.out]; unfold madeB
        rw [L.out, all_at s _ (fun j hj => HA.out j hj (by omega)), Bool.and_true]
      by_cases h1 : 1 ≤ s.size
      · by_cases h2 : s.size ≤ 31
        · obtain rfl : r = true := by rw [HT, decide_eq_true h1, decide_eq_true h2]; rfl
          clear HT
          go_wp2
          go_ret
          exact ⟨congrArg (fun b => Ending.returned (.bool b)) (decide_eq_true (p := (s.size : Int) ≤ 31) (by omega)), rfl⟩
        · obtain rfl : r = false := by rw [HT, decide_eq_true h1, decide_eq_false h2]; rfl
          clear HT
          go_wp2
          go_ret
          exact ⟨congrArg (fun b => Ending.returned (.bool b)) (decide_eq_false (p := (s.size : Int) ≤ 31) (by omega)), rfl⟩
      · obtain rfl : r = false := by rw [HT, decide_eq_false h1]; rfl
        clear HT
        go_wp2
        go_ret
        exact ⟨rfl, rfl⟩

/-- All bytes but the one at i may stand. -/
def AllBut (s : ByteArray) (i : Int) (k : Nat) : Prop := ∀ j (hj : j < s.size), j < k → (j : Int) ≠ i → stB s[j].toNat = true

theorem AllBut.zero (s : ByteArray) (i : Int) : AllBut s i 0 := fun _ _ h => absurd h (by omega)
theorem AllBut.succ {s : ByteArray} {i : Int} {k : Nat} (h : AllBut s i k) (hk : k < s.size) (h1 : (k : Int) ≠ i → stB s[k].toNat = true) : AllBut s i (k + 1) := fun j hj hjk hne => by
  by_cases e : j = k
  · subst e; exact h1 hne
  · exact h j hj (by omega) hne

theorem made_true (s : ByteArray) (h1 : 1 ≤ s.size) (h2 : s.size ≤ 31) (h : ∀ j (hj : j < s.size), stB s[j].toNat = true) : madeB nodeMarks s.data.toList = true := by
  unfold madeB
  rw [size_len, decide_eq_true h1, decide_eq_true h2, all_at s _ (fun j hj => by rw [node_ok]; exact h j hj)]; rfl
theorem made_len (s : ByteArray) (h : ¬ (1 ≤ s.size ∧ s.size ≤ 31)) : madeB nodeMarks s.data.toList = false := by
  unfold madeB
  rw [size_len]
  by_cases h1 : 1 ≤ s.size
  · rw [decide_eq_false (p := s.size ≤ 31) (by omega), Bool.and_false]; rfl
  · rw [decide_eq_false h1]; rfl
theorem made_bad (s : ByteArray) (j : Nat) (hj : j < s.size) (h : stB s[j].toNat = false) : madeB nodeMarks s.data.toList = false := by
  unfold madeB
  rw [not_all s _ j hj (by rw [node_ok]; exact h), Bool.and_false]
end Go.Proofs.Ytapfcbcojnplaaa

/-! The document's Node: the same test as the program's. -/
namespace Go.Proofs.Ytapfcbcojnplaaa
open Go.RowKit
set_option linter.unusedVariables false
set_option linter.unusedSimpArgs false

set_option maxHeartbeats 2000000 in
theorem refnode_none (s : ByteArray) (w : World) (h : NoCut s) (hs : s.size ≤ 140737488351232) (r : Bool) (hr : r = baseB s.data.toList) :
    Calls Try.prog 31 #[.string s] w fun e w' => e = .returned (.bool r) ∧ w = w' := by
  have HR := Lib.hid hr
  have C := Lib.hid (refcut_any s w hs (-1) h.symm)
  clear hr h
  go_enter Try.func31, Try.ntmps31
  go_wp2_with (go_at_call 39; refine C.out.mono ?_; rintro e w' ⟨rfl, rfl⟩)
  go_loop [30] (fun i => ∃ k : Nat, k ≤ s.size ∧ i = .int .i64 k ∧ AllBut s (-1) k) (fun i => s.size - (intOf i).toNat)
  case atStart => exact ⟨0, Nat.zero_le _, rfl, AllBut.zero _ _⟩
  case round =>
    obtain ⟨k, hk, rfl, hall⟩ := hrel
    have HA := Lib.hid hall
    clear hall
    by_cases hlt : k < s.size
    · have hb := byte_le s[k]
      have hk1 : ((k : Int) == -1) = false := by rw [beq_eq_false_iff_ne]; omega
      have hk2 : ((k : Int) != -1) = true := by rw [bne, hk1]; rfl
      cases hl : stB (s[k].toNat : Int)
      · obtain rfl : r = false := by rw [HR.out, baseB, made_bad s k hlt hl]; rfl
        have C1 := Lib.hid (stands_any s[k].toNat w hb false hl.symm)
        clear hl
        go_wp2_with (go_at_call 40; refine C1.out.mono ?_; rintro e w' ⟨rfl, rfl⟩)
        go_ret
        exact ⟨rfl, rfl⟩
      · have HF := Lib.hid (HA.out.succ hlt (fun _ => hl))
        have C1 := Lib.hid (stands_any s[k].toNat w hb true hl.symm)
        clear hl
        go_wp2_with (go_at_call 40; refine C1.out.mono ?_; rintro e w' ⟨rfl, rfl⟩)
        go_round
        case rel => exact ⟨k + 1, by omega, by go_num, HF⟩
        case measure => simp [intOf]; omega
    · by_cases h1 : 1 ≤ s.size
      · by_cases h2 : s.size ≤ 31
        · have hm := made_true s h1 h2 (fun j hj => HA.out j hj (by omega) (by omega))
          have hf := first_at s (by omega)
          have HT : Hid (r = (letB s[0].toNat || decide (s[0].toNat = 95))) := by rw [HR.out, baseB, hm, Bool.true_and, firstB, hf]; rfl
          have hb := byte_le s[0]
          clear hm hf
          go_wp2
          all_goals
            go_ret
            refine ⟨congrArg (fun b => Ending.returned (.bool b)) ?_, rfl⟩
            rw [HT.out, Bool.eq_iff_iff]
            simp only [letB, Bool.or_eq_true, Bool.and_eq_true, decide_eq_true_eq, beq_iff_eq]
            try simp
            try omega
        · obtain rfl : r = false := by rw [HR.out, baseB, made_len s (by omega)]; rfl
          go_wp2
          go_ret
          exact ⟨rfl, rfl⟩
      · obtain rfl : r = false := by rw [HR.out, baseB, made_len s (by omega)]; rfl
        go_wp2
        go_ret
        exact ⟨rfl, rfl⟩

theorem ext_size (s : ByteArray) (a b : Nat) (h : b ≤ s.size) : (s.extract a b).size = b - a := by rw [ByteArray.size_extract]; omega
theorem head_at (s : ByteArray) (i j : Nat) (h : i ≤ s.size) (hj : j < i) : (s.extract 0 i)[j]'(by rw [ext_size _ _ _ h]; omega) = s[j] := by
  rw [ByteArray.getElem_extract]; simp only [Nat.zero_add]
theorem tail_at (s : ByteArray) (i j : Nat) (hj : j < (s.extract (i + 1) s.size).size) : (s.extract (i + 1) s.size)[j] = s[i + 1 + j]'(by rw [ext_size _ _ _ (Nat.le_refl _)] at hj; omega) :=
  ByteArray.getElem_extract hj

set_option maxHeartbeats 2000000 in
theorem refnode_some (s : ByteArray) (i : Nat) (w : World) (h : CutAt s i) (hs : s.size ≤ 140737488351232) (r : Bool) (hr : r = (baseB (s.extract 0 i).data.toList && madeB nodeMarks (s.extract (i + 1) s.size).data.toList)) :
    Calls Try.prog 31 #[.string s] w fun e w' => e = .returned (.bool r) ∧ w = w' := by
  have HR := Lib.hid hr
  have C := Lib.hid (refcut_any s w hs i h.2.symm)
  have hi := h.1
  have S1 := Lib.hid (ext_size s 0 i (by omega))
  have S2 := Lib.hid (ext_size s (i + 1) s.size (Nat.le_refl _))
  clear hr h
  by_cases hu : 1 ≤ s.size - (i + 1) ∧ s.size - (i + 1) ≤ 31
  · obtain ⟨hu1, hu2⟩ := hu
    have v1 : ¬ ((s.size : Int) - (i : Int) - 1 < 1) := by omega
    have v2 : ¬ (31 < (s.size : Int) - (i : Int) - 1) := by omega
    go_enter Try.func31, Try.ntmps31
    go_wp2_with (go_at_call 39; refine C.out.mono ?_; rintro e w' ⟨rfl, rfl⟩)
    go_loop [30] (fun x => ∃ k : Nat, k ≤ s.size ∧ x = .int .i64 k ∧ AllBut s i k) (fun i => s.size - (intOf i).toNat)
    case atStart => exact ⟨0, Nat.zero_le _, rfl, AllBut.zero _ _⟩
    case round =>
      obtain ⟨k, hk, rfl, hall⟩ := hrel
      have HA := Lib.hid hall
      clear hall
      by_cases hlt : k < s.size
      · have hb := byte_le s[k]
        by_cases hki : k = i
        · have HF := Lib.hid (HA.out.succ hlt (fun hne => absurd (by rw [hki]) hne))
          have hk1 : ((k : Int) == (i : Int)) = true := by rw [beq_iff_eq]; omega
          have hk2 : ((k : Int) != (i : Int)) = false := by rw [bne, hk1]; rfl
          clear hki
          go_wp2
          go_round
          case rel => exact ⟨k + 1, by omega, by go_num, HF⟩
          case measure => simp [intOf]; omega
        · have hk1 : ((k : Int) == (i : Int)) = false := by rw [beq_eq_false_iff_ne]; omega
          have hk2 : ((k : Int) != (i : Int)) = true := by rw [bne, hk1]; rfl
          cases hl : stB (s[k].toNat : Int)
          · have HT : r = false := by
              rw [HR.out]
              rcases Nat.lt_or_ge k i with hc | hc
              · rw [baseB, made_bad (s.extract 0 i) k (by rw [S1.out]; omega) (by rw [head_at s i k (by omega) hc]; exact hl)]; rfl
              · rw [made_bad (s.extract (i + 1) s.size) (k - (i + 1)) (by rw [S2.out]; omega) (by rw [tail_at]; simp only [show i + 1 + (k - (i + 1)) = k from by omega]; exact hl), Bool.and_false]
            obtain rfl := HT
            have C1 := Lib.hid (stands_any s[k].toNat w hb false hl.symm)
            clear hl
            go_wp2_with (go_at_call 40; refine C1.out.mono ?_; rintro e w' ⟨rfl, rfl⟩)
            go_ret
            exact ⟨rfl, rfl⟩
          · have HF := Lib.hid (HA.out.succ hlt (fun _ => hl))
            have C1 := Lib.hid (stands_any s[k].toNat w hb true hl.symm)
            clear hl
            go_wp2_with (go_at_call 40; refine C1.out.mono ?_; rintro e w' ⟨rfl, rfl⟩)
            go_round
            case rel => exact ⟨k + 1, by omega, by go_num, HF⟩
            case measure => simp [intOf]; omega
      · have hm2 : madeB nodeMarks (s.extract (i + 1) s.size).data.toList = true := made_true _ (by rw [S2.out]; omega) (by rw [S2.out]; omega) (fun j hj => by rw [tail_at]; exact HA.out _ _ (by have := hj; rw [S2.out] at this; omega) (by omega))
        by_cases h1 : 1 ≤ i
        · by_cases h2 : i ≤ 31
          · have hm := made_true (s.extract 0 i) (by rw [S1.out]; omega) (by rw [S1.out]; omega) (fun j hj => by
              have hji : j < i := by rw [S1.out] at hj; omega
              rw [head_at s i j (by omega) hji]; exact HA.out j _ (by omega) (by omega))
            have h0 : 0 < (s.extract 0 i).size := by rw [S1.out]; omega
            have hf := first_at (s.extract 0 i) h0
            have HT : Hid (r = (letB (s.extract 0 i)[0].toNat || decide ((s.extract 0 i)[0].toNat = 95))) := by rw [HR.out, baseB, hm, hm2, Bool.true_and, Bool.and_true, firstB, hf]; rfl
            have hb := byte_le (s.extract 0 i)[0]
            clear hm hm2 hf
            go_wp2
            all_goals
              go_ret
              refine ⟨congrArg (fun b => Ending.returned (.bool b)) ?_, rfl⟩
              rw [HT.out, Bool.eq_iff_iff]
              simp only [letB, Bool.or_eq_true, Bool.and_eq_true, decide_eq_true_eq, beq_iff_eq]
              try simp
              try omega
          · obtain rfl : r = false := by rw [HR.out, baseB, made_len (s.extract 0 i) (by rw [S1.out]; omega)]; rfl
            clear hm2
            go_wp2
            go_ret
            exact ⟨rfl, rfl⟩
        · obtain rfl : r = false := by rw [HR.out, baseB, made_len (s.extract 0 i) (by rw [S1.out]; omega)]; rfl
          clear hm2
          go_wp2
          go_ret
          exact ⟨rfl, rfl⟩
  · obtain rfl : r = false := by rw [HR.out, made_len (s.extract (i + 1) s.size) (by rw [S2.out]; exact hu), Bool.and_false]
    by_cases hu1 : (s.size : Int) - (i : Int) - 1 < 1
    · clear hu
      go_enter Try.func31, Try.ntmps31
      go_wp2_with (go_at_call 39; refine C.out.mono ?_; rintro e w' ⟨rfl, rfl⟩)
      go_ret
      exact ⟨rfl, rfl⟩
    · have hu2 : 31 < (s.size : Int) - (i : Int) - 1 := by omega
      clear hu
      go_enter Try.func31, Try.ntmps31
      go_wp2_with (go_at_call 39; refine C.out.mono ?_; rintro e w' ⟨rfl, rfl⟩)
      go_ret
      exact ⟨rfl, rfl⟩
end Go.Proofs.Ytapfcbcojnplaaa

/-! Layer 3: the names' tests, as functions of the text alone. -/
namespace Go.Proofs.Ytapfcbcojnplaaa
open Go.RowKit
set_option linter.unusedVariables false
set_option linter.unusedSimpArgs false

theorem draws_under (w : World) (n : Nat) : Below w.heap.size w (w.drewN n) := ⟨rfl, rfl, rfl, Nat.le_refl _, fun _ _ => rfl⟩

/-- Is the text a node's name? What both functions answer. -/
def nodeB (s : ByteArray) : Bool :=
  if Lib.indexByte s.data.toList 64 = -1 then baseB s.data.toList
  else baseB (s.extract 0 (Lib.indexByte s.data.toList 64).toNat).data.toList && madeB nodeMarks (s.extract ((Lib.indexByte s.data.toList 64).toNat + 1) s.size).data.toList
theorem nodeB_none {s : ByteArray} (h : NoCut s) : nodeB s = baseB s.data.toList := if_pos h
theorem nodeB_some {s : ByteArray} {i : Nat} (h : CutAt s i) : nodeB s = (baseB (s.extract 0 i).data.toList && madeB nodeMarks (s.extract (i + 1) s.size).data.toList) := by
  have e : (Lib.indexByte s.data.toList 64).toNat = i := by rw [h.2]; rfl
  rw [nodeB, if_neg (by rw [h.2]; omega), e]
/-- Is the text a property's name? -/
def propB (s : ByteArray) : Bool := madeB propMarks s.data.toList

theorem refnodeB_any (s : ByteArray) (w : World) (hs : s.size ≤ 140737488351232) (r : Bool) (hr : nodeB s = r) : Calls Try.prog 31 #[.string s] w fun e w' => e = .returned (.bool r) ∧ w = w' := by
  subst hr
  rcases cut_or_not s with h | ⟨i, h⟩
  · exact refnode_none s w h hs _ (nodeB_none h)
  · exact refnode_some s i w h hs _ (nodeB_some h)
theorem refpropB_any (s : ByteArray) (w : World) (hs : s.size ≤ 140737488351232) (r : Bool) (hr : propB s = r) : Calls Try.prog 32 #[.string s] w fun e w' => e = .returned (.bool r) ∧ w = w' := refprop_any s w hs r hr.symm
end Go.Proofs.Ytapfcbcojnplaaa

/-! Layer 3: what is asked of a node itself. -/
namespace Go.Proofs.Ytapfcbcojnplaaa
open Go.RowKit
set_option linter.unusedVariables false
set_option linter.unusedSimpArgs false

/-- A property whose name is none. -/
def misP (p : PV) : Bool := !propB p.name
/-- May a node at that depth bear its name? -/
noncomputable def nameOk (n : Nd) (d : Int) : Bool := if d = 1 then n.name.toList.isEmpty else nodeB n.name
/-- The first error of a node itself. -/
noncomputable def aloneE (n : Nd) (d : Int) : Int :=
  if 16 < d then 6 else if nameOk n d = false then 5 else if n.props.any misP = true then 5 else if twiceB (n.props.map PV.name) = true then 9 else if twiceB (n.kids.map Nd.name) = true then 9 else 0

/-- None of the first k is bad. -/
def Good {α : Type} (f : α → Bool) (l : List α) (k : Nat) : Prop := ∀ j (hj : j < l.length), j < k → f l[j] = false
theorem Good.zero {α : Type} (f : α → Bool) (l : List α) : Good f l 0 := fun _ _ h => absurd h (Nat.not_lt_zero _)
theorem Good.succ {α : Type} {f : α → Bool} {l : List α} {k : Nat} (h : Good f l k) (hk : k < l.length) (he : f l[k] = false) : Good f l (k + 1) := fun j hj hlt => by
  rcases Nat.lt_succ_iff_lt_or_eq.1 hlt with h' | rfl
  · exact h j hj h'
  · exact he
theorem Good.all {α : Type} {f : α → Bool} {l : List α} {k : Nat} (h : Good f l k) (hk : ¬ k < l.length) : l.any f = false := by
  rw [List.any_eq_false]
  intro x hx
  obtain ⟨i, hi, rfl⟩ := List.getElem_of_mem hx
  rw [h i hi (by omega)]
  simp
theorem any_at {α : Type} {f : α → Bool} {l : List α} {k : Nat} (hk : k < l.length) (he : f l[k] = true) : l.any f = true := List.any_eq_true.2 ⟨_, List.getElem_mem hk, he⟩

end Go.Proofs.Ytapfcbcojnplaaa

/-! Layer 3: the first error of a node, and of those below it. -/
namespace Go.Proofs.Ytapfcbcojnplaaa
open Go.RowKit
set_option linter.unusedVariables false
set_option linter.unusedSimpArgs false

mutual
/-- The first error of a node at a depth, and of all below it. -/
noncomputable def wrongN : Nd → Int → Int
  | .mk a b c p e f ks, d => if aloneE (.mk a b c p e f ks) d = 0 then wrongL ks (d + 1) else aloneE (.mk a b c p e f ks) d
noncomputable def wrongL : List Nd → Int → Int
  | [], _ => 0
  | k :: l, d => if wrongN k d = 0 then wrongL l d else wrongN k d
end
theorem wrongN_mk (n : Nd) (d : Int) : wrongN n d = if aloneE n d = 0 then wrongL n.kids (d + 1) else aloneE n d := by
  cases n
  rw [wrongN]
  rfl
theorem wrongL_hit (d : Int) : ∀ (l : List Nd) (k : Nat) (hk : k < l.length), (∀ j (hj : j < l.length), j < k → wrongN l[j] d = 0) → wrongN l[k] d ≠ 0 → wrongL l d = wrongN l[k] d
  | x :: l, 0, hk, _, h => by
    have h' : wrongN x d ≠ 0 := h
    rw [wrongL, if_neg h']
    rfl
  | x :: l, k + 1, hk, h', h => by
    have h0 : wrongN x d = 0 := h' 0 (by simp) (by omega)
    rw [wrongL, if_pos h0, wrongL_hit d l k (by simpa using hk) (fun j hj hlt => h' (j + 1) (by simpa using hj) (by omega)) h]
    rfl
theorem wrongL_all (d : Int) : ∀ (l : List Nd), (∀ j (hj : j < l.length), wrongN l[j] d = 0) → wrongL l d = 0
  | [], _ => rfl
  | x :: l, h => by
    have h0 : wrongN x d = 0 := h 0 (by simp)
    rw [wrongL, if_pos h0, wrongL_all d l (fun j hj => h (j + 1) (by simpa using hj))]
/-- The first k have no error. -/
def Fine (l : List Nd) (d : Int) (k : Nat) : Prop := ∀ j (hj : j < l.length), j < k → wrongN l[j] d = 0
theorem Fine.zero (l : List Nd) (d : Int) : Fine l d 0 := fun _ _ h => absurd h (Nat.not_lt_zero _)
theorem Fine.succ {l : List Nd} {d : Int} {k : Nat} (h : Fine l d k) (hk : k < l.length) (he : wrongN l[k] d = 0) : Fine l d (k + 1) := fun j hj hlt => by
  rcases Nat.lt_succ_iff_lt_or_eq.1 hlt with h' | rfl
  · exact h j hj h'
  · exact he
theorem alone_deep {n : Nd} {d : Int} (h : aloneE n d = 0) : d ≤ 16 := by
  by_cases h16 : 16 < d
  · rw [aloneE, if_pos h16] at h; omega
  · omega

end Go.Proofs.Ytapfcbcojnplaaa
