/-
  Arguments that came in: slices of numbers of 32 bits, slices of texts.
-/
import Derived.Test.YthlaoidlhbjaiaaLPropReads
import Derived.Test.YthlaoidlhbjaiaaTBulk
namespace Go.Proofs.Ythlaoidlhbjaiaa
open Go.RowKit Go.ChangeShapes Go.WideShapes Go.Deep
set_option linter.unusedVariables false
set_option linter.unusedSimpArgs false

theorem cel_of_row32 {w : World} {a : Option Addr} {len cap : Nat} {l : List Int}
    (h : (a = none ∧ len = 0 ∧ cap = 0 ∧ l = []) ∨ ∃ x, a = some x ∧ len ≤ cap ∧ cap ≤ maxLen ∧ l.length = cap ∧ (∀ i, i < l.length → w.cell? (x.add i) = some (.int .u32 (l.getD i 0))) ∧ ∀ n ∈ l, (Lit.int .u32 n).wf = true) :
    Cel w w.heap.size a len (u32s (l.take len)) ∧ (l.take len).length = len ∧ len ≤ cap ∧ cap ≤ 9223372036854775807 ∧ ∀ z ∈ l.take len, 0 ≤ z ∧ z ≤ 4294967295 := by
  rcases h with ⟨rfl, rfl, rfl, rfl⟩ | ⟨x, rfl, hl, hm, hz, hcell, hwz⟩
  · exact ⟨Cel.nil _ _ _, rfl, Nat.le_refl _, by omega, by simp⟩
  · have hlen : (l.take len).length = len := by rw [List.length_take]; omega
    refine ⟨⟨by rw [List.length_map, hlen], fun hn => ?_⟩, hlen, hl, by unfold maxLen at hm; exact hm, fun z hz' => bounds_u32 (hwz z (List.mem_of_mem_take hz'))⟩
    obtain ⟨b, o, spot⟩ := x
    have hc := hcell 0 (by omega)
    have hspot : spot = none := by simpa [Addr.add] using World.cell?_spot hc
    subst hspot
    refine ⟨b, o, rfl, ?_, fun i hi => ?_⟩
    · rw [addr_add] at hc
      exact World.block_lt_of_cell? w _ hc
    · have hci := hcell i (by omega)
      rw [addr_add] at hci
      rw [hci, List.getElem?_map, List.getElem?_take_of_lt hi]
      simp [List.getD, List.getElem?_eq_getElem (show i < l.length by omega)]

section
variable {H : Type} {enc : TypeId × Value → H} {w : World} {base : Nat} {spare : Nat → Bool} {held : Bool}
set_option maxRecDepth 100000 in
theorem open_strs {fuel : Nat} {cs : List Value} {x : DataW H × List MemPlace} (h : DataW.trod enc Try.prog w base spare held fuel 30 cs = some x) (hw : ∀ z ∈ DataW.weights Try.prog 30 x.1, z ≤ 140737488351232) :
    ∃ (a : Option Addr) (cap : Nat) (l : List ByteArray), cs = [.slice a l.length cap] ∧ Cel w w.heap.size a l.length (strs6 l) ∧ (∀ s ∈ l, s.size ≤ 140737488351232) ∧ l.length ≤ cap ∧ cap ≤ 9223372036854775807 := by
  have c1 : Try.prog.cellsOf 9 = 1 := by kernel_rfl
  obtain ⟨a, cap, l, e, _, h1, h2, _, hg, hrow⟩ := bulk_row (c := 1) (fun s : ByteArray => [Value.string s]) (fun s => s.size ≤ 140737488351232) (fun _ => 16) Try.underlying30 c1 (by omega) (fun _ => rfl)
    (fun n cs y _ hy hwy => by
      obtain ⟨s, e0, rfl, hs⟩ := DataW.trod_string Try.underlying9 hy
      subst e0
      have e : s.data.size = s.size := rfl
      exact ⟨s, rfl, hwy s.size (by simp [DataW.weights]), by have := bulk_one (H := H) (DataW.lit (Lit.string s.data.toList)); show 16 ≤ 16 * Rows.uptoBulk (DataW.lit (Lit.string s.data.toList)); omega⟩) h hw
  refine ⟨a, cap, l, e, ⟨by rw [List.length_map], fun h0 => ?_⟩, hg, h1, h2⟩
  obtain ⟨b, o, e, hb, hc⟩ := hrow h0
  refine ⟨b, o, e, hb, fun i hi => ?_⟩
  have := hc i hi 0 (by omega)
  simpa [List.getElem?_map, List.getElem?_eq_getElem hi] using this
end
end Go.Proofs.Ythlaoidlhbjaiaa
