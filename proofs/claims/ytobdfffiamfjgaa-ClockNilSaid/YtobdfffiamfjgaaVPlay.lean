/-
  A script of what is done to a device, as it lies; two devices side by side while it is played.
-/
import Derived.Test.YtobdfffiamfjgaaVRef
namespace Go.Proofs.Ytobdfffiamfjgaa
open Go.RowKit
set_option linter.unusedVariables false
set_option linter.unusedSimpArgs false

/-- What is done. -/
structure OpS where
  kind : Int
  off : Int
  width : Int
  v : Int
  n : Int
  yes : Bool
def OpS.cells (x : OpS) : Array Value := #[.int .u8 x.kind, .int .u64 x.off, .int .i64 x.width, .int .u64 x.v, .int .i64 x.n, .bool x.yes]
def OpS.ok (x : OpS) : Prop := (0 ≤ x.kind ∧ x.kind ≤ 255) ∧ U64v x.off ∧ U64v x.v ∧ (-9223372036854775808 ≤ x.n ∧ x.n ≤ 9223372036854775807)
/-- A slice shows these, six cells each. -/
def Scr (w : World) (B : Nat) (A : Option Addr) (n : Nat) (xs : List OpS) : Prop :=
  xs.length = n ∧ (0 < n → ∃ b o, A = some ⟨b, o, none⟩ ∧ b < B ∧ ∀ i (h : i < xs.length), w.cell? ⟨b, o + i * 6, none⟩ = some (.int .u8 xs[i].kind) ∧ w.cell? ⟨b, o + i * 6 + 1, none⟩ = some (.int .u64 xs[i].off) ∧ w.cell? ⟨b, o + i * 6 + 2, none⟩ = some (.int .i64 xs[i].width) ∧ w.cell? ⟨b, o + i * 6 + 3, none⟩ = some (.int .u64 xs[i].v) ∧ w.cell? ⟨b, o + i * 6 + 4, none⟩ = some (.int .i64 xs[i].n) ∧ w.cell? ⟨b, o + i * 6 + 5, none⟩ = some (.bool xs[i].yes))
theorem Scr.keep {w w' : World} {B n : Nat} {A : Option Addr} {xs : List OpS} (h : Scr w B A n xs) (hb : Below B w w') : Scr w' B A n xs :=
  ⟨h.1, fun hn => by
    obtain ⟨b, o, e, hlt, hc⟩ := h.2 hn
    refine ⟨b, o, e, hlt, fun i hi => ?_⟩
    obtain ⟨c0, c1, c2, c3, c4, c5⟩ := hc i hi
    exact ⟨(hb.cell hlt).trans c0, (hb.cell hlt).trans c1, (hb.cell hlt).trans c2, (hb.cell hlt).trans c3, (hb.cell hlt).trans c4, (hb.cell hlt).trans c5⟩⟩

section
variable {w W W' : World} {b1 b2 g : Nat} {O : Obj} {d d' : DevR} {D D' : World → Prop}
end
theorem op_cells {W : World} {g : Nat} {x : OpS} {t : TypeId} (h : W.heap[g]? = some (.cells x.cells t (0, 0))) : W.cell? ⟨g, 0, none⟩ = some (.int .u8 x.kind) ∧ W.cell? ⟨g, 1, none⟩ = some (.int .u64 x.off) ∧ W.cell? ⟨g, 2, none⟩ = some (.int .i64 x.width) ∧ W.cell? ⟨g, 3, none⟩ = some (.int .u64 x.v) ∧ W.cell? ⟨g, 4, none⟩ = some (.int .i64 x.n) ∧ W.cell? ⟨g, 5, none⟩ = some (.bool x.yes) :=
  ⟨dev_cell h rfl, dev_cell h rfl, dev_cell h rfl, dev_cell h rfl, dev_cell h rfl, dev_cell h rfl⟩
end Go.Proofs.Ytobdfffiamfjgaa
