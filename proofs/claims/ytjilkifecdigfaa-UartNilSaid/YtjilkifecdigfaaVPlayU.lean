/-
  The program's UART and the document's, side by side.
-/
import Derived.Test.YtjilkifecdigfaaVRef3
import Derived.Test.YtjilkifecdigfaaVPlay
namespace Go.Proofs.Ytjilkifecdigfaa
open Go.RowKit
set_option linter.unusedVariables false
set_option linter.unusedSimpArgs false

def UartHighOK : Prop := ∀ (b : Nat) (F : Nat → Prop) (s : UartS) (w : World), UartAt w b F s → Calls Try.prog 14 #[.pointer (some ⟨b, 0, none⟩)] w fun e w' => e = .returned (.bool (s.raises && decide (0 < s.inn.length))) ∧ Below w.heap.size w w'
def UartSentOK : Prop := ∀ (b : Nat) (F : Nat → Prop) (s : UartS) (w : World), UartAt w b F s → s.out.length ≤ 1048576 → Calls Try.prog 16 #[.pointer (some ⟨b, 0, none⟩)] w fun e w' => (∃ A c, e = .returned (.slice A s.out.length c) ∧ Shows w' w'.heap.size A s.out.length s.out) ∧ Below w.heap.size w w'
/-- Both UARTs, of which the program's is s and the document's s0; and what is done just now. -/
def PlU (w : World) (b1 b2 : Nat) (G : Option (Nat × Obj)) (s s0 : UartS) (W : World) : Prop :=
  ∃ (F : Nat → Prop) (d : DevR), UartAt W b1 F s ∧ RefAt W b2 d ∧ R3 F b2 s0 d W ∧ (∀ g O, G = some (g, O) → W.heap[g]? = some O ∧ ¬ F g ∧ g ≠ b2) ∧ Below w.heap.size w W ∧ (∀ k, F k → w.heap.size ≤ k) ∧ w.heap.size ≤ b2 ∧ ¬ F b2 ∧ s0.inn.length ≤ 16
section
variable {w W W' : World} {b1 b2 g : Nat} {O : Obj} {G : Option (Nat × Obj)} {s s' s0 s0' : UartS}
theorem PlU.below (h : PlU w b1 b2 G s s0 W) : Below w.heap.size w W := by obtain ⟨F, d, _, _, _, _, h, _⟩ := h; exact h
theorem PlU.op (h : PlU w b1 b2 (some (g, O)) s s0 W) : W.heap[g]? = some O := by obtain ⟨F, d, _, _, _, h, _⟩ := h; exact (h g O rfl).1
theorem PlU.on (h : PlU w b1 b2 G s s0 W) (hb : Below W.heap.size W W') : PlU w b1 b2 G s s0 W' := by
  obtain ⟨F, d, h1, h2, h3, h4, h5, h6, h7, h8, h9⟩ := h
  exact ⟨F, d, h1.keep (fun k hk => hb.block k (h1.2.1 k hk)) hb.size, h2.on hb, h3.on hb, fun g O e => ⟨(hb.block g (Array.getElem?_eq_some_iff.1 (h4 g O e).1).1).trans (h4 g O e).1, (h4 g O e).2⟩, h5.trans (hb.mono h5.size), h6, h7, h8, h9⟩
theorem PlU.start (h : PlU w b1 b2 G s s0 W) (O : Obj) : PlU w b1 b2 (some (W.heap.size, O)) s s0 (W.alloc O) := by
  obtain ⟨F, d, h1, h2, h3, h4, h5, h6, h7, h8, h9⟩ := h.on ((Below.refl W.heap.size W).alloc (Nat.le_refl _) O)
  obtain ⟨F', d', k1, k2, k3, k4, k5, k6, k7, k8, k9⟩ := h
  have hb : Below W.heap.size W (W.alloc O) := (Below.refl W.heap.size W).alloc (Nat.le_refl _) O
  refine ⟨F', d', k1.keep (fun k hk => hb.block k (k1.2.1 k hk)) hb.size, k2.on hb, k3.on hb, fun g O' e => ?_, k5.trans (hb.mono k5.size), k6, k7, k8, k9⟩
  obtain ⟨rfl, rfl⟩ := Prod.mk.inj (Option.some.inj e)
  exact ⟨heap_alloc_new _ _, fun hf => by have := k1.2.1 _ hf; omega, by have := k2.lt; omega⟩
theorem PlU.stop (h : PlU w b1 b2 G s s0 W) : PlU w b1 b2 none s s0 W := by
  obtain ⟨F, d, h1, h2, h3, h4, h5⟩ := h
  exact ⟨F, d, h1, h2, h3, fun g O e => by (cases e), h5⟩
/-- The program's UART has become s'. -/
theorem PlU.his {F F' : Nat → Prop} {d : DevR} (h1 : UartAt W b1 F s) (h2 : RefAt W b2 d) (h3 : R3 F b2 s0 d W) (h4 : ∀ g O, G = some (g, O) → W.heap[g]? = some O ∧ ¬ F g ∧ g ≠ b2) (h5 : Below w.heap.size w W) (h6 : ∀ k, F k → w.heap.size ≤ k) (h7 : w.heap.size ≤ b2) (h8 : ¬ F b2) (h9 : s0.inn.length ≤ 16) (k1 : UartAt W' b1 F' s') (hc : ChgF F F' W W') : PlU w b1 b2 G s' s0 W' := by
  have hlt := h2.lt
  refine ⟨F', d, k1, (hc.block b2 hlt h8).trans h2, h3.chgF hc, fun g O e => ?_, h5.trans (hc.below h6 h5.size), hc.lo h6 h5.size, h7, fun hf => ?_, h9⟩
  · obtain ⟨g1, g2, g3⟩ := h4 g O e
    have hg := (Array.getElem?_eq_some_iff.1 g1).1
    exact ⟨(hc.block g hg g2).trans g1, fun hf => (hc.fresh g hf).elim g2 (fun h => by omega), g3⟩
  · exact (hc.fresh b2 hf).elim h8 (fun h => by omega)
/-- The document's UART has become s0'. -/
theorem PlU.its {F : Nat → Prop} {d d' : DevR} (h1 : UartAt W b1 F s) (h2 : RefAt W b2 d) (h4 : ∀ g O, G = some (g, O) → W.heap[g]? = some O ∧ ¬ F g ∧ g ≠ b2) (h5 : Below w.heap.size w W) (h6 : ∀ k, F k → w.heap.size ≤ k) (h7 : w.heap.size ≤ b2) (h8 : ¬ F b2) (h9 : s0'.inn.length ≤ 16) (k2 : RefAt W' b2 d') (k3 : R3 F b2 s0' d' W') (hc : ChgB b2 W W') : PlU w b1 b2 G s s0' W' :=
  ⟨F, d', h1.keep (fun k hk => hc.block k (h1.2.1 k hk) (fun e => h8 (e ▸ hk))) hc.size, k2, k3, fun g O e => by
    obtain ⟨g1, g2, g3⟩ := h4 g O e
    exact ⟨(hc.block g (Array.getElem?_eq_some_iff.1 g1).1 g3).trans g1, g2, g3⟩, h5.trans (hc.below h7 h5.size), h6, h7, h8, h9⟩

theorem PlU.load (hL : UartLoadOK) (h : PlU w b1 b2 G s s0 W) (off width : Int) (ho : U64v off) : Calls Try.prog 7 #[.pointer (some ⟨b1, 0, none⟩), .int .u64 off, .int .i64 width] W fun e W' => e = .returned (.tuple #[.int .u64 (uartLoadE s off width), .int .i64 (accE 16 off width)]) ∧ PlU w b1 b2 G (uartReadE s off width) s0 W' := by
  obtain ⟨F, d, h1, h2, h3, h4, h5, h6, h7, h8, h9⟩ := h
  exact (hL b1 F s off width W h1 ho).mono fun e W' ⟨he, F', k1, hc⟩ => ⟨he, PlU.his h1 h2 h3 h4 h5 h6 h7 h8 h9 k1 hc⟩
theorem PlU.store (hS : UartStoreOK) (h : PlU w b1 b2 G s s0 W) (off width v : Int) (ho : U64v off) (hv : U64v v) (hl : s.out.length ≤ 1048576) : Calls Try.prog 10 #[.pointer (some ⟨b1, 0, none⟩), .int .u64 off, .int .i64 width, .int .u64 v] W fun e W' => e = .returned (.int .i64 (accE 16 off width)) ∧ PlU w b1 b2 G (uartStoreE s off width v) s0 W' := by
  obtain ⟨F, d, h1, h2, h3, h4, h5, h6, h7, h8, h9⟩ := h
  exact (hS b1 F s off width v W h1 ho hv hl).mono fun e W' ⟨he, F', k1, hc⟩ => ⟨he, PlU.his h1 h2 h3 h4 h5 h6 h7 h8 h9 k1 hc⟩
theorem PlU.come (hC : UartComeOK) (h : PlU w b1 b2 G s s0 W) (z : Int) (hz : 0 ≤ z ∧ z ≤ 255) : Calls Try.prog 12 #[.pointer (some ⟨b1, 0, none⟩), .int .u8 z] W fun e W' => e = .returned (.int .i64 (if s.inn.length < 16 then 0 else 20)) ∧ PlU w b1 b2 G (uartCome s z) s0 W' := by
  obtain ⟨F, d, h1, h2, h3, h4, h5, h6, h7, h8, h9⟩ := h
  exact (hC b1 F s z W h1 hz).mono fun e W' ⟨he, F', k1, hc⟩ => ⟨he, PlU.his h1 h2 h3 h4 h5 h6 h7 h8 h9 k1 hc⟩
theorem PlU.high (hH : UartHighOK) (h : PlU w b1 b2 G s s0 W) : Calls Try.prog 14 #[.pointer (some ⟨b1, 0, none⟩)] W fun e W' => e = .returned (.bool (s.raises && decide (0 < s.inn.length))) ∧ Below W.heap.size W W' := by
  obtain ⟨F, d, h1, h2, h3, h4, h5, h6, h7, h8, h9⟩ := h
  exact hH b1 F s W h1
theorem PlU.sent (hT : UartSentOK) (h : PlU w b1 b2 G s s0 W) (hl : s.out.length ≤ 1048576) : Calls Try.prog 16 #[.pointer (some ⟨b1, 0, none⟩)] W fun e W' => (∃ A c, e = .returned (.slice A s.out.length c) ∧ Shows W' W'.heap.size A s.out.length s.out) ∧ Below W.heap.size W W' := by
  obtain ⟨F, d, h1, h2, h3, h4, h5, h6, h7, h8, h9⟩ := h
  exact hT b1 F s W h1 hl
theorem PlU.refload (h : PlU w b1 b2 G s s0 W) (off : Int) (ho : off = 0 ∨ off = 4 ∨ off = 8 ∨ off = 12) : Calls Try.prog 9 #[.pointer (some ⟨b2, 0, none⟩), .int .u64 off] W fun e W' => e = .returned (.int .u64 (uartLoad s0 off)) ∧ PlU w b1 b2 G s (uartRead s0 off) W' := by
  obtain ⟨F, d, h1, h2, h3, h4, h5, h6, h7, h8, h9⟩ := h
  refine (refload3 F b2 s0 d off W h2 h3 h1.2.1 ho h9).mono fun e W' ⟨he, ⟨d', k2, k3⟩, hc⟩ => ⟨he, PlU.its h1 h2 h4 h5 h6 h7 h8 ?_ k2 k3 hc⟩
  unfold uartRead
  split
  · simp; omega
  · exact h9
theorem PlU.refstore (h : PlU w b1 b2 G s s0 W) (off v : Int) (ho : off = 0 ∨ off = 4 ∨ off = 8 ∨ off = 12) (hl : s0.out.length ≤ 1048576) (hv : U32v v) : Calls Try.prog 11 #[.pointer (some ⟨b2, 0, none⟩), .int .u64 off, .int .u32 v] W fun e W' => e = .returned (.tuple #[]) ∧ PlU w b1 b2 G s (uartStore s0 off v) W' := by
  obtain ⟨F, d, h1, h2, h3, h4, h5, h6, h7, h8, h9⟩ := h
  refine (refstore3 F b2 s0 d off v W h2 h3 h1.2.1 ho hl hv).mono fun e W' ⟨he, ⟨d', k2, k3⟩, hc⟩ => ⟨he, PlU.its h1 h2 h4 h5 h6 h7 h8 ?_ k2 k3 hc⟩
  unfold uartStore
  split
  · exact h9
  · split
    · exact h9
    · split <;> exact h9
theorem PlU.refcome (h : PlU w b1 b2 G s s0 W) (z : Int) (hz : 0 ≤ z ∧ z ≤ 255) : Calls Try.prog 13 #[.pointer (some ⟨b2, 0, none⟩), .int .u8 z] W fun e W' => e = .returned (.bool (decide (s0.inn.length < 16))) ∧ PlU w b1 b2 G s (uartCome s0 z) W' := by
  obtain ⟨F, d, h1, h2, h3, h4, h5, h6, h7, h8, h9⟩ := h
  refine (refcome3 F b2 s0 d z W h2 h3 h1.2.1 h9 hz).mono fun e W' ⟨he, ⟨d', k2, k3⟩, hc⟩ => ⟨he, PlU.its h1 h2 h4 h5 h6 h7 h8 ?_ k2 k3 hc⟩
  unfold uartCome
  split
  · simp; omega
  · exact h9
theorem PlU.refhigh (h : PlU w b1 b2 G s s0 W) : Calls Try.prog 15 #[.pointer (some ⟨b2, 0, none⟩)] W fun e W' => e = .returned (.bool (s0.raises && decide (0 < s0.inn.length))) ∧ W = W' := by
  obtain ⟨F, d, h1, h2, h3, h4, h5, h6, h7, h8, h9⟩ := h
  exact refhigh3 F b2 s0 d W h2 h3
theorem PlU.lt2 (h : PlU w b1 b2 G s s0 W) : b2 < W.heap.size := by obtain ⟨F, d, h1, h2, _⟩ := h; exact h2.lt
/-- What the document's UART has sent. -/
theorem PlU.outs (h : PlU w b1 b2 G s s0 W) : ∃ A c, W.cell? ⟨b2, 3, none⟩ = some (.slice A s0.out.length c) ∧ Shows W W.heap.size A s0.out.length s0.out := by
  obtain ⟨F, d, h1, h2, ⟨_, _, _, _, A, c, e, hs, _⟩, _⟩ := h
  exact ⟨A, c, by (rw [dev_cell h2 rfl, e] <;> rfl), hs⟩
end
/-- A new UART of the document, as it lies. -/
abbrev ref3Z : Obj := .cells #[.int .i64 3, .slice none 0 0, .slice none 0 0, .slice none 0 0, .bool false, .bool false, .int .u32 0, .int .u32 0, .int .u32 0, .int .u32 0, .int .u32 0, .int .u32 0, .int .u32 0, .int .u32 0] 37
theorem PlU.zero (w w1 : World) (hb : Below w.heap.size w w1) : PlU w w1.heap.size (w1.heap.size + 1) none ⟨[], [], false, false⟩ ⟨[], [], false, false⟩ ((w1.alloc uartZ).alloc ref3Z) := by
  have b2 : Below (w1.alloc uartZ).heap.size (w1.alloc uartZ) ((w1.alloc uartZ).alloc ref3Z) := (Below.refl _ _).alloc (Nat.le_refl _) _
  have e1 : (w1.alloc uartZ).heap.size = w1.heap.size + 1 := by simp
  have hs := hb.size
  refine ⟨fun k => k = w1.heap.size, ⟨3, .slice none 0 0, .slice none 0 0, .slice none 0 0, false, false, 0, 0, 0, 0, 0, 0, 0, 0⟩, (UartAt.zero w1).keep (fun k hk => b2.block k (by rw [e1]; omega)) b2.size, ?_, ⟨rfl, rfl, rfl, RowB.nil _ _, RowB.nil _ _⟩, fun g O e => by (cases e), (hb.alloc hb.size _).alloc (by rw [e1]; omega) _, fun k hk => by rw [hk]; exact hs, by omega, by omega, by simp⟩
  have h := heap_alloc_new (w1.alloc uartZ) ref3Z
  rw [e1] at h
  exact h
theorem uartStore_mod (s : UartS) (off v : Int) (h0 : 0 ≤ v) : uartStore s off (v % 4294967296) = uartStore s off v := by
  have e1 : v % 4294967296 % 256 = v % 256 := by omega
  have e2 : v % 4294967296 / 2 % 2 = v / 2 % 2 := by omega
  have e3 : v % 4294967296 % 2 = v % 2 := by omega
  unfold uartStore
  rw [e1, e2, e3]
theorem uartStore_out (s : UartS) (off v : Int) : (uartStore s off v).out.length ≤ s.out.length + 1 := by
  unfold uartStore
  split
  · simp
  · split
    · exact Nat.le_succ _
    · split <;> exact Nat.le_succ _
theorem i64_and_255 (N : Int) : bits .and .i64 N 255 = N % 256 := by
  have h : (BitVec.ofInt 64 N &&& BitVec.ofInt 64 255).toNat = (N % 256).toNat := by
    rw [BitVec.toNat_and, BitVec.toNat_ofInt, show (BitVec.ofInt 64 255).toNat = 2 ^ 8 - 1 from rfl, Nat.and_two_pow_sub_one_eq_mod]
    omega
  show IntKind.i64.wrap ((BitVec.ofInt 64 N &&& BitVec.ofInt 64 255).toNat : Int) = _
  rw [h, IntWalk.i64_in _ (by omega)]
  omega
end Go.Proofs.Ytjilkifecdigfaa
