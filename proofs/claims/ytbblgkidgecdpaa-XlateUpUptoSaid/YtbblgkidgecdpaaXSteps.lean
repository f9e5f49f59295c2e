/-
  Layer 13: the program's steps: what Ranges says of each node on the way.
-/
import Derived.Test.YtbblgkidgecdpaaXRanges
import Derived.Test.YtbblgkidgecdpaaXClimb
import Derived.Test.YtbblgkidgecdpaaBase7
namespace Go.Proofs.Ytbblgkidgecdpaa
open Go.RowKit
set_option linter.unusedVariables false
set_option linter.unusedSimpArgs false

theorem rangesV_len {parent n : Nd} : (rangesV parent n).2.2.length ≤ heftN n + 1 := by
  unfold rangesV
  split
  · exact Nat.zero_le _
  · rename_i x hx
    split
    · exact Nat.zero_le _
    · split
      · exact Nat.succ_le_succ (Nat.zero_le _)
      · obtain ⟨k, hk, rfl⟩ := List.getElem_of_mem (List.mem_of_find?_eq_some hx)
        show (rngs _ _ _ _ _).length ≤ _
        rw [rngs, List.length_map, List.length_range]
        exact Nat.le_succ_of_le (Nat.le_trans (Nat.div_le_self _ _) (prop_heft hk))
/-- Where the part of a row of three cells an element begins. -/
def cut3 (A : Option Addr) (c l : Nat) : Option Addr := if c = l then A else A.map (·.add (l * 3))
section
variable {P : Program} {t e : TypeId} (ht : P.underlying t = some (.slice e)) (he : ∀ w, (Go.sizeOf e).run P w = .ok 3 w)
include ht he
theorem run_upto3 (A : Option Addr) (n c : Nat) (H : Int) (h : Nat) (hH : H = h) (hh : h ≤ c) (W : World) : (Instr.slice t (.slice A n c) none (some (.int .i64 H)) none).run P W = .ok (.slice A h c) W := by
  subst hH
  have ht' : P.underlying t = some (.slice (P.elem t)) := by simp [Program.elem, ht]
  have he' : P.elem t = e := by simp [Program.elem, ht]
  rw [run_slice_h W t _ _ _ ht' .i64 _ (by omega) (by omega), he', he]
  rcases A with _ | ⟨b, o, s⟩ <;> simp [Result.andThen, sliced, Addr.add]
theorem run_from3 (A : Option Addr) (n c : Nat) (L : Int) (l : Nat) (hL : L = l) (hl : l ≤ n) (W : World) : (Instr.slice t (.slice A n c) (some (.int .i64 L)) none none).run P W = .ok (.slice (cut3 A c l) (n - l) (c - l)) W := by
  subst hL
  have ht' : P.underlying t = some (.slice (P.elem t)) := by simp [Program.elem, ht]
  have he' : P.elem t = e := by simp [Program.elem, ht]
  rw [run_slice_l W t _ _ _ ht' .i64 _ (by omega) (by omega), he', he]
  simp [Result.andThen, sliced, cut3]
end
theorem size_node3 (w : World) : (Go.sizeOf 25).run Try.prog w = .ok 3 w := by kernel_rfl
theorem info_step : (Try.prog.info? 111).map (fun i => (i.zero, i.size, i.bytes)) = some (some (.agg #[.slice none 0 0, .int .i64 0]), 2, 32) := by kernel_rfl
theorem StepOk.keep {lo B B' : Nat} {w w' : World} {x : StepR} (h : StepOk lo B w x) (hk : ∀ b o, 0 < x.rn → x.ra = some ⟨b, o, none⟩ → b < B → w'.heap[b]? = w.heap[b]?) (hB : B ≤ B') : StepOk lo B' w' x := by
  obtain ⟨h1, h2⟩ := h
  refine ⟨⟨h1.1, fun h0 => ?_⟩, h2⟩
  obtain ⟨b, o, e, hb, hc⟩ := h1.2 h0
  have hs := fun (k : Nat) => World.cell?_of_block (a := ⟨b, k, none⟩) (hk b o h0 e hb)
  exact ⟨b, o, e, by omega, fun i hi => ⟨(hs _).trans (hc i hi).1, (hs _).trans (hc i hi).2.1, (hs _).trans (hc i hi).2.2⟩⟩
theorem srow_of {w : World} {B n : Nat} {A : Option Addr} {xs : List StepR} (h : Cel2 w B A n (xs.map StepR.two)) : SRow w B A xs := fun h0 => by
  obtain ⟨b, o, e, hb, hc⟩ := h.2 (by have := h.1; rw [List.length_map] at this; omega)
  refine ⟨b, o, e, hb, fun i hi => ?_⟩
  have := hc i (by rw [List.length_map]; exact hi)
  rw [List.getElem_map] at this
  exact this
/-- Step j says what Ranges says of the nodes j and j + 1. -/
def StepP (ns : List Nd) (j : Nat) (x : StepR) : Prop := ((rangesV (ns.getD j ndZ) (ns.getD (j + 1) ndZ)).2.1 = true → x.e = 0 ∧ x.L = (rangesV (ns.getD j ndZ) (ns.getD (j + 1) ndZ)).2.2) ∧ ((rangesV (ns.getD j ndZ) (ns.getD (j + 1) ndZ)).2.1 = false → x.e = 10)
/-- The steps so far. -/
def StepsI (lo : Nat) (ns : List Nd) (v : Value) (xs : List StepR) (W : World) : Prop :=
  W.ownsRow lo 111 2 v xs.length (flat2 (xs.map StepR.two)) ∧ (∀ x ∈ xs, StepOk lo W.heap.size W x ∧ (0 < x.rn → ∀ b o, x.ra = some ⟨b, o, none⟩ → v.ownBlock ≠ some b)) ∧ ∀ j (h : j < xs.length), StepP ns j xs[j]
/-- One more step. -/
theorem steps_step {lo : Nat} {ns : List Nd} {v : Value} {xs : List StepR} {W W4 : World} (h : StepsI lo ns v xs W) (hlo : lo ≤ W.heap.size) (hb : Below W.heap.size W W4) (x : StepR) (hx : StepOk W.heap.size W4.heap.size W4 x) (hp : StepP ns xs.length x) (hlen : xs.length ≤ 1048576) :
    ∃ A' c' w5, (Builtin.append_ #[90, 90] 90 #[v, .slice (some ⟨W4.heap.size, 0, none⟩) 1 1]).run Try.prog (W4.alloc (.cells #[x.sv, .int .i64 x.e] 111)) = .ok (.slice A' (xs.length + 1) c') w5 ∧ StepsI lo ns (.slice A' (xs.length + 1) c') (xs ++ [x]) w5 ∧ Below lo W4 w5 := by
  obtain ⟨h1, h2, h3⟩ := h
  have hsz := hb.size
  have h1' := own_on h1 hb
  obtain ⟨i0, hi, hz, hs1, hby⟩ := info_any info_step
  obtain ⟨A', c', w5, r5, o5, b5, g5, e5⟩ := app_pair Try.underlying90 hi hz hs1 hby rfl h1' x.two rfl rfl (by omega) (by omega) (by omega) 90
  have hlt := h1.lt
  have hs5 := g5.size
  refine ⟨A', c', w5, r5, ⟨?_, ?_, ?_⟩, b5⟩
  · rw [List.length_append, List.length_singleton, List.map_append, List.map_cons, List.map_nil]
    exact o5
  · intro y hy
    have hown : ∀ b o, 0 < y.rn → y.ra = some ⟨b, o, none⟩ → b < W4.heap.size ∧ v.ownBlock ≠ some b := by
      intro b o h0 he
      rcases List.mem_append.1 hy with hy | hy
      · obtain ⟨hs, ho⟩ := h2 y hy
        obtain ⟨b', o', e', hb', _⟩ := hs.1.2 h0
        obtain ⟨rfl, rfl⟩ : b' = b ∧ o' = o := by
          have := e'.symm.trans he
          simp only [Option.some.injEq, Addr.mk.injEq, and_true] at this
          exact this
        exact ⟨by omega, ho h0 _ _ he⟩
      · rw [List.mem_singleton.1 hy] at h0 he
        obtain ⟨b', o', e', hb', _⟩ := hx.1.2 h0
        obtain ⟨rfl, rfl⟩ : b' = b ∧ o' = o := by
          have := e'.symm.trans he
          simp only [Option.some.injEq, Addr.mk.injEq, and_true] at this
          exact this
        have hf := hx.2.2.2.2.2 h0 _ _ he
        exact ⟨hb', fun hv => by have := (hlt _ hv).2; omega⟩
    refine ⟨?_, fun h0 b o he hv => ?_⟩
    · rcases List.mem_append.1 hy with hy' | hy'
      · exact ((h2 y hy').1.keep (fun b o _ _ hbl => hb.block b hbl) hb.size).keep (fun b o h0 he hbl => g5.block b hbl (fun e => (hown b o h0 he).2 e.symm)) hs5
      · obtain rfl := List.mem_singleton.1 hy'
        have hk := hx.keep (w' := w5) (fun b o h0 he hbl => g5.block b hbl (fun e => (hown b o h0 he).2 e.symm)) hs5
        exact ⟨hk.1, hk.2.1, hk.2.2.1, hk.2.2.2.1, hk.2.2.2.2.1, fun h0 b o he => Nat.le_trans hlo (hk.2.2.2.2.2 h0 b o he)⟩
    · obtain ⟨hb1, hv1⟩ := hown b o h0 he
      rcases e5 with e | e
      · rw [e] at hv; exact hv1 hv
      · rw [e] at hv
        have := Option.some.inj hv
        omega
  · intro j hj
    by_cases hjx : j < xs.length
    · rw [List.getElem_append_left hjx]; exact h3 j hjx
    · have : j = xs.length := by rw [List.length_append, List.length_singleton] at hj; omega
      subst this
      simpa using hp

set_option maxRecDepth 20000 in
set_option maxHeartbeats 8000000 in
theorem steps_any (A : Option Addr) (m c k : Nat) (ns : List Nd) (w : World) (hm : m = k + 1) (hs : Cel3 w w.heap.size A m (ns.map Nd.tri)) (hin : ∀ x ∈ ns, x.In w w.heap.size) (hh : ∀ x ∈ ns, heftN x ≤ 1073741824) (hmc : m ≤ c) (hc : c ≤ 9223372036854775807) (hk : k ≤ 1048576) :
    Calls Try.prog 31 #[.slice A m c] w fun e w' => (∃ A' c' xs, e = .returned (.slice A' k c') ∧ xs.length = k ∧ k ≤ c' ∧ c' ≤ 9223372036854775807 ∧ SRow w' w'.heap.size A' xs ∧ FreshL w.heap.size A' ∧ (∀ x ∈ xs, StepOk w.heap.size w'.heap.size w' x) ∧ ∀ j (h : j < xs.length), StepP ns j xs[j]) ∧ Below w.heap.size w w' := by
  have HS := Lib.hid hs
  have HLN : Hid (ns.length = m) := Lib.hid (by have := hs.1; rwa [List.length_map] at this)
  have HIN := Lib.hid hin
  have HH := Lib.hid hh
  obtain ⟨g, hg⟩ : ∃ g, w.heap.size = g := ⟨_, rfl⟩
  have HG := Lib.hid hg
  have R1 : ∀ W : World, (Instr.slice 23 (.slice A m c) (some (.int .i64 1)) none none).run Try.prog W = .ok (.slice (cut3 A c 1) (m - 1) (c - 1)) W := fun W => run_from3 Try.underlying23 size_node3 A m c 1 1 rfl (by omega) W
  subst hm
  have hm1 : k + 1 - 1 = k := by omega
  rw [hm1] at R1
  obtain ⟨A1, hA1⟩ : ∃ A1, cut3 A c 1 = A1 := ⟨_, rfl⟩
  rw [hA1] at R1
  have HA1 := Lib.hid hA1
  clear hs hin hh hm1 hA1
  go_enter Try.func31, Try.ntmps31
  go_wp2_with fail
  go_loopw [3, 12] (fun l i wr => ∃ (j : Nat) (xs : List StepR), j ≤ k ∧ i = .int .i64 j ∧ xs.length = j ∧ StepsI g ns l xs wr ∧ Below g w wr) (fun _ i _ => k - (intOf i).toNat)
  case atStart => exact ⟨0, [], Nat.zero_le _, rfl, rfl, ⟨World.ownsRow_nil _ _ _ _, fun x hx => by (cases hx), fun j hj => absurd hj (Nat.not_lt_zero _)⟩, by rw [← hg]; exact Below.refl _ _⟩
  case round =>
    obtain ⟨j, xs, hj, rfl, hxl, hsi, hb⟩ := hrel
    have HSI := Lib.hid hsi
    have HB := Lib.hid hb
    have HXL := Lib.hid hxl
    obtain ⟨Av, cv, e0, hcel, hcv1, hcv2, hob⟩ := owned_cel2 hsi.1
    rw [hxl] at e0
    subst e0
    by_cases hlt : j < k
    · have hnl : j < ns.length := by rw [HLN.out]; omega
      have hnl1 : j + 1 < ns.length := by rw [HLN.out]; omega
      obtain ⟨b, o, e, hbl, hc3⟩ := (HS.out).2 (by omega)
      obtain rfl : A = _ := e
      obtain rfl : A1 = (if c = 1 then some ⟨b, o, none⟩ else some ⟨b, o + 3, none⟩) := by rw [← HA1.out]; rfl
      rw [if_neg (by omega)]
      have p := hc3 j (by rw [List.length_map]; exact hnl)
      have q := hc3 (j + 1) (by rw [List.length_map]; exact hnl1)
      rw [List.getElem_map] at p q
      have hg1 : ns.getD j ndZ = ns[j] := by simp [List.getD, List.getElem?_eq_getElem hnl]
      have hg2 : ns.getD (j + 1) ndZ = ns[j + 1] := by simp [List.getD, List.getElem?_eq_getElem hnl1]
      have HXI := Lib.hid (HIN.out _ (List.getElem_mem hnl))
      have HYI := Lib.hid (HIN.out _ (List.getElem_mem hnl1))
      have HXH := Lib.hid (HH.out _ (List.getElem_mem hnl))
      have HYH := Lib.hid (HH.out _ (List.getElem_mem hnl1))
      have HSP : Hid (∀ x : StepR, ((rangesV ns[j] ns[j + 1]).2.1 = true → x.e = 0 ∧ x.L = (rangesV ns[j] ns[j + 1]).2.2) → ((rangesV ns[j] ns[j + 1]).2.1 = false → x.e = 10) → StepP ns j x) := Lib.hid (fun x h1 h2 => by unfold StepP; rw [hg1, hg2]; exact ⟨h1, h2⟩)
      generalize ns[j] = X at *
      generalize ns[j + 1] = Y at *
      obtain ⟨p0, p1, p2⟩ := p
      obtain ⟨q0, q1, q2⟩ := q
      have ew : ∀ k, wr.cell? ⟨b, k, none⟩ = w.cell? ⟨b, k, none⟩ := fun k => hb.cell (p := ⟨b, k, none⟩) (by show b < g; omega)
      rw [← ew] at p0 p1 p2 q0 q1 q2
      have CR := Lib.hid (fun W (hW : Below w.heap.size w W) => xranges_own X Y W ((HXI.out.under hW).more hW.size) ((HYI.out.under hW).more hW.size) HXH.out HYH.out)
      have hlr := Nat.le_trans (rangesV_len (parent := X) (n := Y)) (Nat.succ_le_succ HYH.out)
      have h64 := rangesV_64 HXI.out HYI.out
      obtain ⟨o1, okr, L, hL⟩ : ∃ o1 okr L, rangesV X Y = (o1, okr, L) := ⟨_, _, _, rfl⟩
      rw [hL] at CR hlr h64 HSP
      have H64 := Lib.hid h64
      have HLR := Lib.hid hlr
      clear hL hlr h64 HXI HYI HXH HYH hnl hnl1 hg1 hg2 hc3 ew
      obtain ⟨xn, xpa, xpc, xps, xka, xkc, xks⟩ := X
      obtain ⟨yn, ypa, ypc, yps, yka, ykc, yks⟩ := Y
      replace p0 : wr.cell? ⟨b, o + j * 3, none⟩ = some (.string xn) := p0
      replace p1 : wr.cell? ⟨b, o + j * 3 + 1, none⟩ = some (.slice xpa xps.length xpc) := p1
      replace p2 : wr.cell? ⟨b, o + j * 3 + 2, none⟩ = some (.slice xka xks.length xkc) := p2
      have ej : o + (j + 1) * 3 = o + 3 + j * 3 := by omega
      rw [ej] at q0 q1 q2
      replace q0 : wr.cell? ⟨b, o + 3 + j * 3, none⟩ = some (.string yn) := q0
      replace q1 : wr.cell? ⟨b, o + 3 + j * 3 + 1, none⟩ = some (.slice ypa yps.length ypc) := q1
      replace q2 : wr.cell? ⟨b, o + 3 + j * 3 + 2, none⟩ = some (.slice yka yks.length ykc) := q2
      simp only [Nd.val, Nd.pv, Nd.kv, Nd.name, Nd.pa, Nd.pc, Nd.props, Nd.ka, Nd.kc, Nd.kids] at CR
      obtain ⟨V, hV⟩ : ∃ V, wr.alloc (.cells #[.string yn, .slice ypa yps.length ypc, .slice yka yks.length ykc] 25) = V := ⟨_, rfl⟩
      have bV : Below wr.heap.size wr V := by rw [← hV]; exact (Below.refl _ _).alloc (Nat.le_refl _) _
      have r0 : V.cell? ⟨wr.heap.size, 0, none⟩ = some (.string yn) := by rw [← hV]; exact World.cell?_alloc_new _ _ _ _
      have r1 : V.cell? ⟨wr.heap.size, 1, none⟩ = some (.slice ypa yps.length ypc) := by rw [← hV]; exact World.cell?_alloc_new _ _ _ _
      have r2 : V.cell? ⟨wr.heap.size, 2, none⟩ = some (.slice yka yks.length ykc) := by rw [← hV]; exact World.cell?_alloc_new _ _ _ _
      have hbw : b < wr.heap.size := by have := hb.size; omega
      have ko : ∀ {a : Addr} {v : Value}, a.block < wr.heap.size → wr.cell? a = some v → V.cell? a = some v := fun {a v} h h1 => (bV.cell (p := a) h).trans h1
      replace p0 := ko (a := ⟨b, o + j * 3, none⟩) hbw p0
      replace p1 := ko (a := ⟨b, o + j * 3 + 1, none⟩) hbw p1
      replace p2 := ko (a := ⟨b, o + j * 3 + 2, none⟩) hbw p2
      have HVD : Hid (Below wr.heap.size wr V.drew ∧ V.heap.size = wr.heap.size + 1) := Lib.hid ⟨bV.drew, by rw [← hV]; simp⟩
      have CL := Lib.hid (CR.out V.drew (by rw [HG.out]; exact hb.trans (bV.drew.mono (by have := hb.size; omega))))
      have HP := Lib.hid (fun (W : World) (h : Below V.heap.size V W) => And.intro (And.intro ((h.cell (p := ⟨b, o + j * 3, none⟩) (by have := bV.size; show b < _; omega)).trans p0) (And.intro ((h.cell (p := ⟨b, o + j * 3 + 1, none⟩) (by have := bV.size; show b < _; omega)).trans p1) ((h.cell (p := ⟨b, o + j * 3 + 2, none⟩) (by have := bV.size; show b < _; omega)).trans p2)))
        (And.intro ((h.cell (p := ⟨wr.heap.size, 0, none⟩) (by rw [← hV]; simp)).trans r0) (And.intro ((h.cell (p := ⟨wr.heap.size, 1, none⟩) (by rw [← hV]; simp)).trans r1) ((h.cell (p := ⟨wr.heap.size, 2, none⟩) (by rw [← hV]; simp)).trans r2))))
      have HBZ : Hid (g ≤ wr.heap.size) := Lib.hid (by have := hb.size; omega)
      clear CR bV ko hb hsi hxl hcel hob hcv1 hcv2 p0 p1 p2 r0 r1 r2 hbw
      generalize xps.length = xpl at *
      generalize xks.length = xkl at *
      generalize yps.length = ypl at *
      generalize yks.length = ykl at *
      have hjk1 : j < k + 1 := by omega
      have hjk2 : (j : Int) < (k : Int) + 1 := by omega
      go_wp2_with fail
      refine wp_region_held_drew (S := fun W => (W.cell? ⟨b, o + j * 3, none⟩ = some (.string xn) ∧ W.cell? ⟨b, o + j * 3 + 1, none⟩ = some (.slice xpa xpl xpc) ∧ W.cell? ⟨b, o + j * 3 + 2, none⟩ = some (.slice xka xkl xkc)) ∧ W.cell? ⟨wr.heap.size, 0, none⟩ = some (.string yn) ∧ W.cell? ⟨wr.heap.size, 1, none⟩ = some (.slice ypa ypl ypc) ∧ W.cell? ⟨wr.heap.size, 2, none⟩ = some (.slice yka ykl ykc)) (by kernel_rfl) (HP.out _ (Below.refl _ _).drew) (fun hHeld => ?_)
      clear hV
      refine held_take 0 rfl (by kernel_rfl) (by kernel_rfl) (by kernel_rfl) (fun _ _ _ h => h) (by rfl) hHeld (v := ?_) (fun w hSw => ?_) (fun _ => ?_)
      rotate_left
      · ((try dsimp only at hSw); go_simp; (try with_reducible rfl))
      simp only [Act.put, List.setIfInBounds_toArray, List.set_cons_zero, List.set_cons_succ]
      refine held_take 1 rfl (by kernel_rfl) (by kernel_rfl) (by kernel_rfl) (fun _ _ _ h => h) (by rfl) hHeld (v := ?_) (fun w hSw => ?_) (fun _ => ?_)
      rotate_left
      · ((try dsimp only at hSw); go_simp; (try with_reducible rfl))
      simp only [Act.put, List.setIfInBounds_toArray, List.set_cons_zero, List.set_cons_succ]
      refine held_take 2 rfl (by kernel_rfl) (by kernel_rfl) (by kernel_rfl) (fun _ _ _ h => h) (by rfl) hHeld (v := ?_) (fun w hSw => ?_) (fun _ => ?_)
      rotate_left
      · ((try dsimp only at hSw); go_simp; (try with_reducible rfl))
      simp only [Act.put, List.setIfInBounds_toArray, List.set_cons_zero, List.set_cons_succ]
      refine held_take 3 rfl (by kernel_rfl) (by kernel_rfl) (by kernel_rfl) (fun _ _ _ h => h) (by rfl) hHeld (v := ?_) (fun w hSw => ?_) (fun _ => ?_)
      rotate_left
      · ((try dsimp only at hSw); go_simp; (try with_reducible rfl))
      simp only [Act.put, List.setIfInBounds_toArray, List.set_cons_zero, List.set_cons_succ]
      refine held_take 4 rfl (by kernel_rfl) (by kernel_rfl) (by kernel_rfl) (fun _ _ _ h => h) (by rfl) hHeld (v := ?_) (fun w hSw => ?_) (fun _ => ?_)
      rotate_left
      · ((try dsimp only at hSw); go_simp; (try with_reducible rfl))
      simp only [Act.put, List.setIfInBounds_toArray, List.set_cons_zero, List.set_cons_succ]
      refine held_call 5 (by kernel_rfl) rfl (by rfl) (fun K hK => ?_)
      go_simp
      refine CL.out.mono ?_
      rintro e w4 ⟨ho1, ho2, hb4⟩
      have HB4 : Hid (Below wr.heap.size wr w4) := Lib.hid (HVD.out.1.trans (hb4.mono (by have := HVD.out.2; show _ ≤ V.heap.size; omega)))
      have HK4 := Lib.hid (HP.out w4 ((Below.refl V.heap.size V).drew.trans hb4))
      clear hb4
      cases okr
      · obtain ⟨A4, c4, rfl, hc4⟩ := ho2 rfl
        have hstep := steps_step HSI.out HBZ.out HB4.out ⟨A4, 0, c4, 10, []⟩ ⟨Cel3.nil _ _ _, Nat.zero_le _, hc4, Nat.zero_le _, fun r hr => (by cases hr), fun h => absurd h (Nat.lt_irrefl 0)⟩ (by rw [HXL.out]; exact HSP.out _ (fun h => by cases h) (fun _ => rfl)) (by rw [HXL.out]; omega)
        obtain ⟨A5, c5, w5, r5, hsi5, hb5⟩ := hstep
        rw [HXL.out] at r5
        replace r5 : (Builtin.append_ #[90, 90] 90 #[.slice Av j cv, .slice (some ⟨w4.heap.size, 0, none⟩) 1 1]).run Try.prog (w4.alloc (.cells #[.slice A4 0 c4, .int .i64 10] 111)) = .ok (.slice A5 (j + 1) c5) w5 := r5
        have HR5 := Lib.hid r5
        have HS5 := Lib.hid hsi5
        rw [HXL.out] at HS5
        have HB5 := Lib.hid (HB.out.trans ((HB4.out.mono HBZ.out).trans hb5))
        clear ho1 ho2 r5 hsi5 hb5
        dsimp only
        refine hK.out _ _ HK4.out (fun hHeld => ?_)
        clear hK K
        refine held_take 6 rfl (by kernel_rfl) (by kernel_rfl) (by kernel_rfl) (fun _ _ _ h => h) (by rfl) hHeld (v := ?_) (fun w hSw => ?_) (fun _ => ?_)
        rotate_left
        · ((try dsimp only at hSw); go_simp; (try with_reducible rfl))
        simp only [Act.put, List.setIfInBounds_toArray, List.set_cons_zero, List.set_cons_succ]
        refine held_take 7 rfl (by kernel_rfl) (by kernel_rfl) (by kernel_rfl) (fun _ _ _ h => h) (by rfl) hHeld (v := ?_) (fun w hSw => ?_) (fun _ => ?_)
        rotate_left
        · ((try dsimp only at hSw); go_simp; (try with_reducible rfl))
        simp only [Act.put, List.setIfInBounds_toArray, List.set_cons_zero, List.set_cons_succ]
        refine held_take 8 rfl (by kernel_rfl) (by kernel_rfl) (by kernel_rfl) (fun _ _ _ h => h) (by rfl) hHeld (v := ?_) (fun w hSw => ?_) (fun _ => ?_)
        rotate_left
        · ((try dsimp only at hSw); go_simp; (try with_reducible rfl))
        simp only [Act.put, List.setIfInBounds_toArray, List.set_cons_zero, List.set_cons_succ]
        refine held_take 9 rfl (by kernel_rfl) (by kernel_rfl) (by kernel_rfl) (fun _ _ _ h => h) (by rfl) hHeld (v := ?_) (fun w hSw => ?_) (fun _ => ?_)
        rotate_left
        · ((try dsimp only at hSw); go_simp; (try with_reducible rfl))
        simp only [Act.put, List.setIfInBounds_toArray, List.set_cons_zero, List.set_cons_succ]
        refine held_take 10 rfl (by kernel_rfl) (by kernel_rfl) (by kernel_rfl) (fun _ _ _ h => h) (by rfl) hHeld (v := ?_) (fun w hSw => ?_) (fun _ => ?_)
        rotate_left
        · ((try dsimp only at hSw); go_simp; (try with_reducible rfl))
        simp only [Act.put, List.setIfInBounds_toArray, List.set_cons_zero, List.set_cons_succ]
        refine held_take 11 rfl (by kernel_rfl) (by kernel_rfl) (by kernel_rfl) (fun _ _ _ h => h) (by rfl) hHeld (v := ?_) (fun w hSw => ?_) (fun _ => ?_)
        rotate_left
        · ((try dsimp only at hSw); go_simp; (try with_reducible rfl))
        simp only [Act.put, List.setIfInBounds_toArray, List.set_cons_zero, List.set_cons_succ]
        refine held_take 12 rfl (by kernel_rfl) (by kernel_rfl) (by kernel_rfl) (fun _ _ _ h => h) (by rfl) hHeld (v := ?_) (fun w hSw => ?_) (fun _ => ?_)
        rotate_left
        · ((try dsimp only at hSw); go_simp; (try with_reducible rfl))
        simp only [Act.put, List.setIfInBounds_toArray, List.set_cons_zero, List.set_cons_succ]
        refine wpAnyH_done (by kernel_rfl) ?_ _
        clear hHeld
        go_wp2_with (at_builtin; refine Lib.wpList_append_run_sl _ rfl _ _ _ rfl _ _ rfl rfl HR5.out ?_)
        go_roundw
        case rel => exact ⟨j + 1, xs ++ [⟨A4, 0, c4, 10, []⟩], by omega, by go_num, by (rw [List.length_append, HXL.out]; rfl), HS5.out, HB5.out⟩
        case measure => simp [intOf]; omega
      · obtain ⟨A4, m4, c4, rfl, s4, l4, l4', f4⟩ := ho1 rfl
        have hl4 : L.length = m4 := by have := s4.1; rwa [List.length_map] at this
        have hstep := steps_step HSI.out HBZ.out HB4.out ⟨A4, m4, c4, 0, L⟩ ⟨s4, l4, l4', by show m4 ≤ _; rw [← hl4]; have := HLR.out; omega, H64.out, fun _ b o h => Nat.le_trans (by have := HVD.out.2; show _ ≤ V.heap.size; omega) (f4 b o h)⟩ (by rw [HXL.out]; exact HSP.out _ (fun _ => ⟨rfl, rfl⟩) (fun h => by cases h)) (by rw [HXL.out]; omega)
        obtain ⟨A5, c5, w5, r5, hsi5, hb5⟩ := hstep
        rw [HXL.out] at r5
        replace r5 : (Builtin.append_ #[90, 90] 90 #[.slice Av j cv, .slice (some ⟨w4.heap.size, 0, none⟩) 1 1]).run Try.prog (w4.alloc (.cells #[.slice A4 m4 c4, .int .i64 0] 111)) = .ok (.slice A5 (j + 1) c5) w5 := r5
        have HR5 := Lib.hid r5
        have HS5 := Lib.hid hsi5
        rw [HXL.out] at HS5
        have HB5 := Lib.hid (HB.out.trans ((HB4.out.mono HBZ.out).trans hb5))
        clear ho1 ho2 r5 hsi5 hb5 s4 l4 l4' f4 hl4
        dsimp only
        refine hK.out _ _ HK4.out (fun hHeld => ?_)
        clear hK K
        refine held_take 6 rfl (by kernel_rfl) (by kernel_rfl) (by kernel_rfl) (fun _ _ _ h => h) (by rfl) hHeld (v := ?_) (fun w hSw => ?_) (fun _ => ?_)
        rotate_left
        · ((try dsimp only at hSw); go_simp; (try with_reducible rfl))
        simp only [Act.put, List.setIfInBounds_toArray, List.set_cons_zero, List.set_cons_succ]
        refine held_take 7 rfl (by kernel_rfl) (by kernel_rfl) (by kernel_rfl) (fun _ _ _ h => h) (by rfl) hHeld (v := ?_) (fun w hSw => ?_) (fun _ => ?_)
        rotate_left
        · ((try dsimp only at hSw); go_simp; (try with_reducible rfl))
        simp only [Act.put, List.setIfInBounds_toArray, List.set_cons_zero, List.set_cons_succ]
        refine held_take 8 rfl (by kernel_rfl) (by kernel_rfl) (by kernel_rfl) (fun _ _ _ h => h) (by rfl) hHeld (v := ?_) (fun w hSw => ?_) (fun _ => ?_)
        rotate_left
        · ((try dsimp only at hSw); go_simp; (try with_reducible rfl))
        simp only [Act.put, List.setIfInBounds_toArray, List.set_cons_zero, List.set_cons_succ]
        refine held_take 9 rfl (by kernel_rfl) (by kernel_rfl) (by kernel_rfl) (fun _ _ _ h => h) (by rfl) hHeld (v := ?_) (fun w hSw => ?_) (fun _ => ?_)
        rotate_left
        · ((try dsimp only at hSw); go_simp; (try with_reducible rfl))
        simp only [Act.put, List.setIfInBounds_toArray, List.set_cons_zero, List.set_cons_succ]
        refine held_take 10 rfl (by kernel_rfl) (by kernel_rfl) (by kernel_rfl) (fun _ _ _ h => h) (by rfl) hHeld (v := ?_) (fun w hSw => ?_) (fun _ => ?_)
        rotate_left
        · ((try dsimp only at hSw); go_simp; (try with_reducible rfl))
        simp only [Act.put, List.setIfInBounds_toArray, List.set_cons_zero, List.set_cons_succ]
        refine held_take 11 rfl (by kernel_rfl) (by kernel_rfl) (by kernel_rfl) (fun _ _ _ h => h) (by rfl) hHeld (v := ?_) (fun w hSw => ?_) (fun _ => ?_)
        rotate_left
        · ((try dsimp only at hSw); go_simp; (try with_reducible rfl))
        simp only [Act.put, List.setIfInBounds_toArray, List.set_cons_zero, List.set_cons_succ]
        refine held_take 12 rfl (by kernel_rfl) (by kernel_rfl) (by kernel_rfl) (fun _ _ _ h => h) (by rfl) hHeld (v := ?_) (fun w hSw => ?_) (fun _ => ?_)
        rotate_left
        · ((try dsimp only at hSw); go_simp; (try with_reducible rfl))
        simp only [Act.put, List.setIfInBounds_toArray, List.set_cons_zero, List.set_cons_succ]
        refine wpAnyH_done (by kernel_rfl) ?_ _
        clear hHeld
        go_wp2_with (at_builtin; refine Lib.wpList_append_run_sl _ rfl _ _ _ rfl _ _ rfl rfl HR5.out ?_)
        go_roundw
        case rel => exact ⟨j + 1, xs ++ [⟨A4, m4, c4, 0, L⟩], by omega, by go_num, by (rw [List.length_append, HXL.out]; rfl), HS5.out, HB5.out⟩
        case measure => simp [intOf]; omega
    · obtain rfl : j = k := by omega
      have HR := Lib.hid (srow_of (hxl ▸ hcel))
      have HF : Hid (FreshL g Av) := Lib.hid (fun b o h => (hob b (by rw [h]; rfl)).1)
      have HCC : Hid (j ≤ cv ∧ cv ≤ 9223372036854775807) := Lib.hid ⟨hxl ▸ hcv1, hcv2⟩
      clear hsi hb hxl hcel hcv1 hcv2 hob
      go_wp2
      go_ret
      rw [HG.out]
      exact ⟨⟨Av, cv, xs, rfl, HXL.out, HCC.out.1, HCC.out.2, HR.out, HF.out, fun x hx => (HSI.out.2.1 x hx).1, HSI.out.2.2⟩, HB.out⟩
end Go.Proofs.Ytbblgkidgecdpaa
