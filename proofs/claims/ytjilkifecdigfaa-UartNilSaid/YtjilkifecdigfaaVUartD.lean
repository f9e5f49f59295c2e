/-
  Layer 17, the program's own UART: its calls.
-/
import Derived.Test.YtjilkifecdigfaaVUartS
import Derived.Test.YtjilkifecdigfaaVPlayU
import Derived.Test.YtjilkifecdigfaaDBytes
import Derived.Lib.SlBuf
import Derived.Laws.IdiomCopy
import Derived.Deep.WholeRow
import Derived.Laws.BitsAllLaws
namespace Go.Proofs.Ytjilkifecdigfaa
open Go.RowKit
set_option linter.unusedVariables false
set_option linter.unusedSimpArgs false

theorem ChgB.row {b : Nat} {w w' : World} (h : ChgB b w w') (cs : Array Value) : ChgB b w (w'.setRow b cs) :=
  ⟨h.os, h.tape, h.output, by simpa using h.size, fun g hg hn => (setRow_other w' b g cs hn).trans (h.block g hg hn)⟩
theorem ChgB.toF {b : Nat} {F : Nat → Prop} {w w' : World} (h : ChgB b w w') (hb : F b) : ChgF F F w w' :=
  ⟨h.os, h.tape, h.output, h.size, fun g hg hn => h.block g hg (fun e => hn (e ▸ hb)), fun k hk => .inl hk⟩
section
variable {b : Nat} {cm : List Int} {n : Int} {lost may : Bool} {p : Option Addr} {la : List Int} {sz : Int} {w w' : World} (h : UBox w b cm n lost may p la sz)
include h
theorem UBox.lt : b < w.heap.size := (Array.getElem?_eq_some_iff.1 h.1).1
theorem UBox.c (i : Nat) (hi : i < 16) : w.cell? ⟨b, i, none⟩ = some (.int .u8 (cm.getD i 0)) := dev_cell h.1 (uc_came h.2.1 i hi)
theorem UBox.cn : w.cell? ⟨b, 16, none⟩ = some (.int .i64 n) := dev_cell h.1 (uc_n h.2.1)
theorem UBox.cl : w.cell? ⟨b, 17, none⟩ = some (.bool lost) := dev_cell h.1 (uc_lost h.2.1)
theorem UBox.cy : w.cell? ⟨b, 18, none⟩ = some (.bool may) := dev_cell h.1 (uc_may h.2.1)
theorem UBox.cp : w.cell? ⟨b, 19, none⟩ = some (.pointer p) := dev_cell h.1 (uc_p h.2.1)
theorem UBox.ca (i : Nat) (hi : i < 64) : w.cell? ⟨b, 20 + i, none⟩ = some (.int .u8 (la.getD i 0)) := dev_cell h.1 (uc_last h.2.1 h.2.2 i hi)
theorem UBox.cz : w.cell? ⟨b, 84, none⟩ = some (.int .i64 sz) := dev_cell h.1 (uc_sz h.2.1 h.2.2)
theorem UBox.fz (i : Nat) : w.frozen? ⟨b, i, none⟩ = false := dev_frozen i h.1
theorem UBox.drew : UBox w.drew b cm n lost may p la sz := h
theorem UBox.drewN (k : Nat) : UBox (w.drewN k) b cm n lost may p la sz := h
theorem UBox.on (hb : Below w.heap.size w w') : UBox w' b cm n lost may p la sz := ⟨(hb.block b h.lt).trans h.1, h.2⟩
theorem UBox.sn (m : Int) : UBox (w.setCell ⟨b, 16, none⟩ (.int .i64 m)) b cm m lost may p la sz := ⟨by rw [dev_set h.1, us_n h.2.1], h.2⟩
theorem UBox.sl (m : Bool) : UBox (w.setCell ⟨b, 17, none⟩ (.bool m)) b cm n m may p la sz := ⟨by rw [dev_set h.1, us_lost h.2.1], h.2⟩
theorem UBox.sy (m : Bool) : UBox (w.setCell ⟨b, 18, none⟩ (.bool m)) b cm n lost m p la sz := ⟨by rw [dev_set h.1, us_may h.2.1], h.2⟩
theorem UBox.sp (q : Option Addr) : UBox (w.setCell ⟨b, 19, none⟩ (.pointer q)) b cm n lost may q la sz := ⟨by rw [dev_set h.1, us_p h.2.1], h.2⟩
theorem UBox.ss (m : Int) : UBox (w.setCell ⟨b, 84, none⟩ (.int .i64 m)) b cm n lost may p la m := ⟨by rw [dev_set h.1, us_sz h.2.1 h.2.2], h.2⟩
theorem UBox.sc (i : Nat) (hi : i < 16) (z : Int) : UBox (w.setCell ⟨b, i, none⟩ (.int .u8 z)) b (cm.set i z) n lost may p la sz := ⟨by rw [dev_set h.1, us_came h.2.1 i hi], by simpa using h.2.1, h.2.2⟩
theorem UBox.sa (i : Nat) (hi : i < 64) (z : Int) : UBox (w.setCell ⟨b, 20 + i, none⟩ (.int .u8 z)) b cm n lost may p (la.set i z) sz := ⟨by rw [dev_set h.1, us_last h.2.1 h.2.2 i hi], h.2.1, by simpa using h.2.2⟩
end

theorem uint_bit (b : Bool) (x : Int) (w : World) : Calls Try.prog 20 #[.bool b, .int .u64 x] w fun e w' => e = .returned (.int .u64 (if b then x else 0)) ∧ w = w' := by
  cases b
  · go_enter Try.func20, Try.ntmps20
    go_wp2
    go_ret
    exact ⟨rfl, rfl⟩
  · go_enter Try.func20, Try.ntmps20
    go_wp2
    go_ret
    exact ⟨rfl, rfl⟩
section
variable {b : Nat} {cm : List Int} {n : Nat} {lost may : Bool} {p : Option Addr} {la : List Int} {sz : Int} {w w' : World} (h : UBox w b cm (n : Int) lost may p la sz)
include h
theorem uthere_any : Calls Try.prog 21 #[.pointer (some ⟨b, 0, none⟩)] w fun e w' => e = .returned (.bool (decide (0 < n))) ∧ w = w' := by
  have c := h.cn
  have q : decide ((0 : Int) < (n : Int)) = decide (0 < n) := by simp
  clear h
  go_enter Try.func21, Try.ntmps21
  go_wp2
  go_ret
  exact ⟨rfl, rfl⟩
end
theorem cut_copy {cm la : List Int} {k : Nat} {n : Int} {lost may : Bool} {p : Option Addr} {sz : Int} (h1 : cm.length = 16) (hk : k < 16) :
    ((uartCells cm n lost may p la sz).toList.take 0 ++ ((cm.drop 1).take k).map (Value.int .u8) ++ (uartCells cm n lost may p la sz).toList.drop (0 + (((cm.drop 1).take k).map (Value.int .u8)).length)).toArray = uartCells ((cm.drop 1).take k ++ cm.drop k) n lost may p la sz := by
  have e : min k (16 - 1) = k := by omega
  have e2 : k - 16 = 0 := by omega
  simp [uartCells, List.drop_append, h1, e, e2]
set_option maxHeartbeats 2000000 in
theorem utake_yes {b : Nat} {cm : List Int} {m : Nat} {lost may : Bool} {p : Option Addr} {la : List Int} {sz : Int} {w : World} (h : UBox w b cm (m : Int) lost may p la sz) (hm : 0 < m) (hm2 : m ≤ 16) :
    Calls Try.prog 19 #[.pointer (some ⟨b, 0, none⟩)] w fun e w' => e = .returned (.int .u8 (cm.getD 0 0)) ∧ UBox w' b ((cm.drop 1).take (m - 1) ++ cm.drop (m - 1)) ((m : Int) - 1) lost may p la sz ∧ ChgB b w w' := by
  have HT := Lib.hid (uthere_any h)
  have e1 : decide (0 < m) = true := decide_eq_true hm
  rw [e1] at HT
  have H := Lib.hid h
  have cn := h.cn
  have c0 := h.c 0 (by decide)
  have HS : Hid (w.drew.cell? ⟨b, 16, none⟩ = some (.int .i64 (m : Int))) := Lib.hid cn
  have HRUN : Hid ((Builtin.copy_ #[33, 33] 3 #[.slice (some ⟨b, 0, none⟩) 16 16, .slice (some ⟨b, 1, none⟩) (m - 1) 15]).run Try.prog w.drew = .ok (goInt ((m - 1 : Nat) : Int)) (w.drew.setRow b (uartCells ((cm.drop 1).take (m - 1) ++ cm.drop (m - 1)) m lost may p la sz))) := by
    refine Lib.hid ?_
    have hl : (((cm.drop 1).take (m - 1)).map (Value.int .u8)).length = m - 1 := by simp [h.2.1]; omega
    have r := run_copy_row Try.prog w.drew 33 33 3 5 b 0 16 16 ⟨b, 1, none⟩ (m - 1) 15 _ _ (((cm.drop 1).take (m - 1)).map (Value.int .u8)) Try.underlying33 (by kernel_rfl) h.1 (by rw [hl]; exact (Nat.min_eq_left (by omega)).symm) (fun j v hj => by
      obtain ⟨hj1, hj2⟩ := List.getElem?_eq_some_iff.1 hj
      rw [hl] at hj1
      rw [addr_add, ← hj2]
      have := h.c (1 + j) (by omega)
      rw [show w.drew.cell? ⟨b, 1 + j, none⟩ = w.cell? ⟨b, 1 + j, none⟩ from rfl, this]
      have hc : 1 + j < cm.length := by rw [h.2.1]; omega
      have hc2 : j + 1 < cm.length := by omega
      simp [List.getD, List.getElem?_eq_getElem hc2, Nat.add_comm]) (by rw [hl]; simp [h.2.1, h.2.2]; omega) (fun v hv => by obtain ⟨z, _, rfl⟩ := List.mem_map.1 hv; rfl)
    rw [cut_copy h.2.1 (by omega), hl] at r
    exact r
  have h16 : (m : Int) ≤ 16 := by omega
  have h1m : (1 : Int) ≤ (m : Int) := by omega
  have hlen : ((cm.drop 1).take (m - 1) ++ cm.drop (m - 1)).length = 16 := by simp [h.2.1]; omega
  have HB : Hid (UBox (w.drew.setRow b (uartCells ((cm.drop 1).take (m - 1) ++ cm.drop (m - 1)) m lost may p la sz)) b ((cm.drop 1).take (m - 1) ++ cm.drop (m - 1)) m lost may p la sz ∧ ChgB b w (w.drew.setRow b (uartCells ((cm.drop 1).take (m - 1) ++ cm.drop (m - 1)) m lost may p la sz))) := Lib.hid ⟨⟨setRow_heap w.drew b _ _ _ _ h.1, hlen, h.2.2⟩, (ChgB.refl b w).drew.row _⟩
  have HS1 : Hid ((w.drew.setRow b (uartCells ((cm.drop 1).take (m - 1) ++ cm.drop (m - 1)) m lost may p la sz)).cell? ⟨b, 16, none⟩ = some (.int .i64 (m : Int))) := Lib.hid HB.out.1.cn
  clear h e1 hlen
  generalize (cm.drop 1).take (m - 1) ++ cm.drop (m - 1) = cm2 at *
  go_enter Try.func19, Try.ntmps19
  go_wp2_with fail
  refine HT.out.mono ?_
  rintro e w1 ⟨rfl, rfl⟩
  go_wp2
  refine wp_region_held_drew (S := fun W => W.cell? ⟨b, 16, none⟩ = some (.int .i64 (m : Int))) (by kernel_rfl) HS.out (fun hHeld => ?_)
  refine tk 0 hHeld fun _ => ?_
  refine tk 1 hHeld fun _ => ?_
  refine tk 2 hHeld fun _ => ?_
  refine tk 3 hHeld fun _ => ?_
  refine tk 4 hHeld fun _ => ?_
  refine tk 5 hHeld fun _ => ?_
  refine tk 6 hHeld fun _ => ?_
  refine tk 7 hHeld fun _ => ?_
  refine tk 8 hHeld fun _ => ?_
  refine tk 9 hHeld fun _ => ?_
  refine tk 10 hHeld fun _ => ?_
  refine tk 11 hHeld fun _ => ?_
  refine held_call 12 (by kernel_rfl) rfl (by rfl) (fun K hK => ?_)
  refine Lib.wp_copy_run _ _ _ _ _ rfl _ _ rfl rfl HRUN.out ?_
  refine hK.out _ _ HS1.out (fun hHeld => ?_)
  clear hK K
  refine wpAnyH_done (by kernel_rfl) ?_ _
  clear hHeld
  obtain ⟨hu, hc⟩ := HB.out
  clear HRUN HS1 HB
  generalize w.drew.setRow b (uartCells cm2 (m : Int) lost may p la sz) = w2 at *
  have HU := Lib.hid hu
  have HC := Lib.hid hc
  have d1 := hu.cn
  have d2 := hu.fz 16
  have e1 : IntKind.i64.wrap ((m : Int) - 1) = (m : Int) - 1 := IntWalk.i64_in _ (by omega)
  clear hu hc cn c0
  go_wp2
  go_ret
  exact ⟨rfl, HU.out.sn _, HC.out.set _ _⟩
theorem utake_no {b : Nat} {cm : List Int} {lost may : Bool} {p : Option Addr} {la : List Int} {sz : Int} {w : World} (h : UBox w b cm 0 lost may p la sz) :
    Calls Try.prog 19 #[.pointer (some ⟨b, 0, none⟩)] w fun e w' => e = .returned (.int .u8 0) ∧ w = w' := by
  have HT := Lib.hid (uthere_any (n := 0) h)
  clear h
  go_enter Try.func19, Try.ntmps19
  go_wp2_with fail
  refine HT.out.mono ?_
  rintro e w1 ⟨rfl, rfl⟩
  go_wp2
  go_ret
  exact ⟨rfl, rfl⟩
set_option maxHeartbeats 2000000 in
theorem uadd_one {b : Nat} {cm : List Int} {n : Int} {lost may : Bool} {p : Option Addr} {la : List Int} {sz : Nat} {w : World} (h : UBox w b cm n lost may p la (sz : Int)) (hs : sz ≤ 1048576) (hr : (sz + 1) % 64 ≠ 0) (z : Int) :
    Calls Try.prog 25 #[.pointer (some ⟨b, 19, none⟩), .int .u8 z] w fun e w' => e = .returned (.tuple #[]) ∧ UBox w' b cm n lost may p (la.set (sz % 64) z) ((sz + 1 : Nat) : Int) ∧ ChgB b w w' := by
  obtain ⟨r, hrr⟩ : ∃ r, r = sz % 64 := ⟨_, rfl⟩
  have H := Lib.hid h
  have cz := h.cz
  have fz := h.fz 84
  have ca := h.ca r (by omega)
  have fr := h.fz (20 + r)
  have e1 : (sz : Int).tmod 64 = (r : Int) := by rw [Int.tmod_eq_emod_of_nonneg (by omega)]; omega
  have e2 : (sz : Int) % 64 = (r : Int) := by omega
  have h64 : (r : Int) < 64 := by omega
  have h64n : r < 64 := by omega
  have e3 : (((sz : Int) + 1) % 64 == 0) = false := by rw [beq_eq_false_iff_ne]; omega
  have e4 : IntKind.i64.wrap ((sz : Int) + 1) = (sz : Int) + 1 := IntWalk.i64_in _ (by omega)
  have HS : Hid (w.drew.cell? ⟨b, 84, none⟩ = some (.int .i64 (sz : Int))) := Lib.hid cz
  have H1 : Hid (UBox ((w.setCell ⟨b, 20 + r, none⟩ (.int .u8 z)).drew) b cm n lost may p (la.set r z) sz) := Lib.hid (h.sa r h64n z)
  have HC : Hid (ChgB b w ((w.setCell ⟨b, 20 + r, none⟩ (.int .u8 z)).drew)) := Lib.hid ((ChgB.refl b w).set _ _).drew
  have HS1 := Lib.hid H1.out.cz
  rw [← hrr]
  clear h hr hrr
  go_enter Try.func25, Try.ntmps25
  go_wp2
  refine wp_region_held_drew (S := fun W => W.cell? ⟨b, 84, none⟩ = some (.int .i64 (sz : Int))) (by kernel_rfl) HS.out (fun hHeld => ?_)
  refine tk 0 hHeld fun _ => ?_
  refine tk 1 hHeld fun _ => ?_
  refine tk 2 hHeld fun _ => ?_
  refine tk 3 hHeld fun _ => ?_
  refine tk 4 hHeld fun _ => ?_
  refine tk 5 hHeld fun _ => ?_
  refine tk 6 hHeld fun _ => ?_
  refine tk 7 hHeld fun _ => ?_
  refine tk 8 hHeld fun _ => ?_
  refine tk 9 hHeld fun _ => ?_
  refine held_call 10 (by kernel_rfl) rfl (by rfl) (fun K hK => ?_)
  go_simp
  refine hK.out _ _ HS1.out (fun hHeld => ?_)
  clear hK K
  refine wpAnyH_done (by kernel_rfl) ?_ _
  clear hHeld
  clear cz fz ca fr HS HS1
  have h1 := H1.out
  have hc := HC.out
  clear H1 HC
  generalize (w.setCell ⟨b, 20 + r, none⟩ (.int .u8 z)).drew = w2 at *
  have HU := Lib.hid h1
  have HC := Lib.hid hc
  have d1 := h1.cz
  have d2 := h1.fz 84
  clear h1 hc
  go_wp2
  go_end0
  exact ⟨rfl, HU.out.ss _, HC.out.set _ _⟩
theorem fold_set (off : Nat) : ∀ (l : List Value) (j : Nat) (cs : Array Value), off + j + l.length ≤ cs.size → (l.zipIdx j).foldl (fun cs (x : Value × Nat) => cs.setIfInBounds (off + x.2) x.1) cs = (cs.toList.take (off + j) ++ l ++ cs.toList.drop (off + j + l.length)).toArray
  | [], j, cs, h => by simp
  | v :: rest, j, cs, h => by
    simp only [List.zipIdx_cons, List.foldl_cons]
    rw [fold_set off rest (j + 1) _ (by simp at h ⊢; omega)]
    have e := list_seg_step cs.toList (off + j) v rest (by simp at h ⊢; omega)
    simpa [Array.toList_setIfInBounds, Nat.add_assoc] using e
theorem fold_arr (off : Nat) (l : List Value) (cs : Array Value) (h : off + l.length ≤ cs.size) : l.toArray.zipIdx.foldl (fun cs (x : Value × Nat) => cs.setIfInBounds (off + x.2) x.1) cs = (cs.toList.take off ++ l ++ cs.toList.drop (off + l.length)).toArray := by
  have := fold_set off l 0 cs (by simpa using h)
  rw [← Array.foldl_toList, Array.toList_zipIdx]
  simpa using this
theorem fill_cons (place : Nat → Option (Nat × Nat)) (cells : Array Value) (i : Nat) (v : Value) (rest : List (Nat × Value)) (off size : Nat) (hp : place i = some (off, size)) (hs : v.cells.size = size) (hl : off + size ≤ cells.size) :
    Instr.fill place cells ((i, v) :: rest) = Instr.fill place (v.cells.zipIdx.foldl (fun cs (x : Value × Nat) => cs.setIfInBounds (off + x.2) x.1) cells) rest := by
  simp only [Instr.fill, hp, hs]
  simp
  omega
theorem page_built (p : Option Addr) (xs : List Value) (h : xs.length = 64) : Try.prog.built 66 [(0, Value.pointer p), (1, Value.agg xs.toArray)] = some (Value.pointer p :: xs).toArray := by
  have e : ∀ parts, Try.prog.built 66 parts = Instr.fill (#[(0, 1), (1, 64)][·]?) (Value.pointer none :: List.replicate 64 (Value.int .u8 0)).toArray parts := fun parts => by kernel_rfl
  rw [e]
  obtain ⟨R, hR⟩ : ∃ R, R = List.replicate 64 (Value.int .u8 0) := ⟨_, rfl⟩
  have hl : R.length = 64 := by rw [hR]; simp
  rw [← hR]
  clear e hR
  have e1 := fold_arr 1 xs (Value.pointer p :: R).toArray (by simp [h, hl])
  have e2 : (Value.pointer p :: R).drop (1 + xs.length) = [] := List.drop_eq_nil_of_le (by simp [h, hl])
  have e0 : #[Value.pointer p].zipIdx.foldl (fun cs (x : Value × Nat) => cs.setIfInBounds (0 + x.2) x.1) (Value.pointer none :: R).toArray = (Value.pointer p :: R).toArray := by simp [Array.zipIdx]
  rw [fill_cons _ _ 0 (Value.pointer p) _ 0 1 rfl rfl (by simp)]
  rw [show (Value.pointer p).cells.zipIdx.foldl (fun cs (x : Value × Nat) => cs.setIfInBounds (0 + x.2) x.1) (Value.pointer none :: R).toArray = (Value.pointer p :: R).toArray from e0]
  rw [fill_cons _ _ 1 (Value.agg xs.toArray) _ 1 64 rfl (by simp [Value.cells, h]) (by simp [hl])]
  rw [show (Value.agg xs.toArray).cells.zipIdx.foldl (fun cs (x : Value × Nat) => cs.setIfInBounds (1 + x.2) x.1) (Value.pointer p :: R).toArray = _ from e1]
  simp [Instr.fill, e2]
theorem uload64 {b : Nat} {cm : List Int} {n : Int} {lost may : Bool} {p : Option Addr} {la : List Int} {sz : Int} {w : World} (h : UBox w b cm n lost may p la sz) :
    (Instr.loadAt 27 (.pointer (some ⟨b, 20, none⟩))).run Try.prog w = .ok (.agg (la.map (Value.int .u8)).toArray) w := by
  have hl : (loadCells ⟨b, 20, none⟩ (la.map (Value.int .u8)).length).run Try.prog w = .ok (la.map (Value.int .u8)).toArray w :=
    run_loadCells_list (P := Try.prog) w ⟨b, 20, none⟩ _ (fun j v hv => by
      obtain ⟨hj, hj2⟩ := List.getElem?_eq_some_iff.1 hv
      rw [List.length_map] at hj
      rw [addr_add, h.ca j (by rw [← h.2.2]; exact hj), ← hj2]
      simp [List.getD, List.getElem?_eq_getElem hj])
  rw [List.length_map, h.2.2] at hl
  have hi : (Try.prog.info? 27).map (·.size) = some 64 := by kernel_rfl
  have hu : Try.prog.underlying 27 = some (.array 64 5) := by kernel_rfl
  simp only [Instr.loadAt, Instr.sureAddr, Sem.run_bind, Sem.run_pure, Result.andThen_ok]
  cases hq : Try.prog.info? 27 with
  | none => simp [hq] at hi
  | some i =>
    have hs : i.size = 64 := by simpa [hq] using hi
    simp [loadVar, sizeOf, typeInfo, hq, hs, run_underlying hu, hl]
theorem exec_load {P : Program} {a : Act} {w : World} {o : Oper} {t : TypeId} {x : Operand} {v u : Value} (ho : o.op = .load t x) (hx : a.eval x = u) (h : (Instr.loadAt t u).run P w = .ok v w) : (execOp a.eval o).run P w = .ok (.value v) w := by
  unfold execOp
  simp only [ho, hx, Sem.run_bind, h, Result.andThen_ok, Sem.run_pure]
theorem exec_build {P : Program} {a : Act} {w : World} {o : Oper} {t : TypeId} {xs : List (Nat × Operand)} {u : List (Nat × Value)} {cs : Array Value} (ho : o.op = .build t xs.toArray) (hx : xs.map (fun x => (x.1, a.eval x.2)) = u) (h : P.built t u = some cs) : (execOp a.eval o).run P w = .ok (.value (.agg cs)) w := by
  unfold execOp
  simp only [ho, Sem.run_bind]
  rw [show (xs.toArray.map fun (i, x) => (i, a.eval x)) = u.toArray by rw [← hx]; simp, run_build w t u.toArray cs h]
  rfl
set_option maxHeartbeats 2000000 in
theorem uadd_page {b : Nat} {cm : List Int} {n : Int} {lost may : Bool} {p : Option Addr} {la : List Int} {sz : Nat} {w : World} (h : UBox w b cm n lost may p la (sz : Int)) (hs : sz ≤ 1048576) (hr : (sz + 1) % 64 = 0) (z : Int) :
    Calls Try.prog 25 #[.pointer (some ⟨b, 19, none⟩), .int .u8 z] w fun e w' => e = .returned (.tuple #[]) ∧ ∃ g, w.heap.size ≤ g ∧ w'.heap[g]? = some (.cells (Value.pointer p :: (la.set (sz % 64) z).map (Value.int .u8)).toArray 66 (0, 0)) ∧ UBox w' b cm n lost may (some ⟨g, 0, none⟩) (la.set (sz % 64) z) ((sz + 1 : Nat) : Int) ∧ ChgB b w w' := by
  obtain ⟨r, hrr⟩ : ∃ r, r = sz % 64 := ⟨_, rfl⟩
  have H := Lib.hid h
  have cz := h.cz
  have fz := h.fz 84
  have ca := h.ca r (by omega)
  have fr := h.fz (20 + r)
  have e1 : (sz : Int).tmod 64 = (r : Int) := by rw [Int.tmod_eq_emod_of_nonneg (by omega)]; omega
  have e2 : (sz : Int) % 64 = (r : Int) := by omega
  have h64 : (r : Int) < 64 := by omega
  have h64n : r < 64 := by omega
  have e3 : ((sz : Int) + 1) % 64 = 0 := by omega
  have e4 : IntKind.i64.wrap ((sz : Int) + 1) = (sz : Int) + 1 := IntWalk.i64_in _ (by omega)
  have HS : Hid (w.drew.cell? ⟨b, 84, none⟩ = some (.int .i64 (sz : Int))) := Lib.hid cz
  have H1 : Hid (UBox ((w.setCell ⟨b, 20 + r, none⟩ (.int .u8 z)).drew) b cm n lost may p (la.set r z) sz) := Lib.hid (h.sa r h64n z)
  have HC : Hid (ChgB b w ((w.setCell ⟨b, 20 + r, none⟩ (.int .u8 z)).drew)) := Lib.hid ((ChgB.refl b w).set _ _).drew
  have HS1 := Lib.hid H1.out.cz
  rw [← hrr]
  clear h hr hrr
  generalize la.set r z = lb at *
  go_enter Try.func25, Try.ntmps25
  go_wp2
  refine wp_region_held_drew (S := fun W => W.cell? ⟨b, 84, none⟩ = some (.int .i64 (sz : Int))) (by kernel_rfl) HS.out (fun hHeld => ?_)
  refine tk 0 hHeld fun _ => ?_
  refine tk 1 hHeld fun _ => ?_
  refine tk 2 hHeld fun _ => ?_
  refine tk 3 hHeld fun _ => ?_
  refine tk 4 hHeld fun _ => ?_
  refine tk 5 hHeld fun _ => ?_
  refine tk 6 hHeld fun _ => ?_
  refine tk 7 hHeld fun _ => ?_
  refine tk 8 hHeld fun _ => ?_
  refine tk 9 hHeld fun _ => ?_
  refine held_call 10 (by kernel_rfl) rfl (by rfl) (fun K hK => ?_)
  go_simp
  refine hK.out _ _ HS1.out (fun hHeld => ?_)
  clear hK K
  refine wpAnyH_done (by kernel_rfl) ?_ _
  clear hHeld
  clear cz fz ca fr HS HS1
  have h1 := H1.out
  have hc := HC.out
  clear H1 HC
  generalize (w.setCell ⟨b, 20 + r, none⟩ (.int .u8 z)).drew = w2 at *
  have HU : Hid (UBox (w2.setCell ⟨b, 84, none⟩ (.int .i64 ((sz : Int) + 1))) b cm n lost may p lb ((sz : Int) + 1)) := Lib.hid (h1.ss _)
  have HC : Hid (ChgB b w (w2.setCell ⟨b, 84, none⟩ (.int .i64 ((sz : Int) + 1)))) := Lib.hid (hc.set _ _)
  have d1 := h1.cz
  have d2 := h1.fz 84
  have c19 := HU.out.cp
  have HL : Hid ((Instr.loadAt 27 (.pointer (some ⟨b, 20, none⟩))).run Try.prog (w2.setCell ⟨b, 84, none⟩ (.int .i64 ((sz : Int) + 1))).drew = .ok (.agg (lb.map (Value.int .u8)).toArray) (w2.setCell ⟨b, 84, none⟩ (.int .i64 ((sz : Int) + 1))).drew) := Lib.hid (uload64 HU.out.drew)
  have hbg := h1.lt
  have d19 := h1.cp
  have g19 := h1.fz 19
  have HU3 : Hid (UBox ((w2.setCell ⟨b, 84, none⟩ (.int .i64 ((sz : Int) + 1))).alloc (.cells (Value.pointer p :: lb.map (Value.int .u8)).toArray 66)) b cm n lost may p lb ((sz : Int) + 1)) := Lib.hid (HU.out.on ((Below.refl _ _).alloc (Nat.le_refl _) _))
  have HU4 : Hid (UBox (((w2.setCell ⟨b, 84, none⟩ (.int .i64 ((sz : Int) + 1))).setCell ⟨b, 19, none⟩ (.pointer (some ⟨w2.heap.size, 0, none⟩))).alloc (.cells (Value.pointer p :: lb.map (Value.int .u8)).toArray 66)) b cm n lost may (some ⟨w2.heap.size, 0, none⟩) lb ((sz : Int) + 1)) := Lib.hid ((HU.out.sp _).on ((Below.refl _ _).alloc (Nat.le_refl _) _))
  have HC4 : Hid (ChgB b w (((w2.setCell ⟨b, 84, none⟩ (.int .i64 ((sz : Int) + 1))).setCell ⟨b, 19, none⟩ (.pointer (some ⟨w2.heap.size, 0, none⟩))).alloc (.cells (Value.pointer p :: lb.map (Value.int .u8)).toArray 66))) := Lib.hid ((HC.out.set _ _).trans (ChgB.ofBelow ((Below.refl _ _).alloc (Nat.le_refl _) _)))
  have HP4 : Hid ((((w2.setCell ⟨b, 84, none⟩ (.int .i64 ((sz : Int) + 1))).setCell ⟨b, 19, none⟩ (.pointer (some ⟨w2.heap.size, 0, none⟩))).alloc (.cells (Value.pointer p :: lb.map (Value.int .u8)).toArray 66)).heap[w2.heap.size]? = some (.cells (Value.pointer p :: lb.map (Value.int .u8)).toArray 66 (0, 0))) := Lib.hid (by
    have := heap_alloc_new ((w2.setCell ⟨b, 84, none⟩ (.int .i64 ((sz : Int) + 1))).setCell ⟨b, 19, none⟩ (.pointer (some ⟨w2.heap.size, 0, none⟩))) (.cells (Value.pointer p :: lb.map (Value.int .u8)).toArray 66)
    simpa [World.setCell] using this)
  have HL3 := Lib.hid (uload64 HU3.out.drew)
  have HL4 := Lib.hid (uload64 HU4.out.drew)
  have HG : Hid (w.heap.size ≤ w2.heap.size) := Lib.hid hc.size
  have HPB : Hid (Try.prog.built 66 [(0, Value.pointer p), (1, Value.agg (lb.map (Value.int .u8)).toArray)] = some (Value.pointer p :: lb.map (Value.int .u8)).toArray) := Lib.hid (page_built p _ (by rw [List.length_map]; exact h1.2.2))
  clear h1 hc
  go_wp2
  refine wp_region_held_drew (S := fun W => (Instr.loadAt 27 (.pointer (some ⟨b, 20, none⟩))).run Try.prog W = .ok (.agg (lb.map (Value.int .u8)).toArray) W) (by kernel_rfl) HL.out (fun hHeld => ?_)
  refine tk 0 hHeld fun _ => ?_
  refine tk 1 hHeld fun _ => ?_
  refine tk 2 hHeld fun _ => ?_
  refine tk 3 hHeld fun _ => ?_
  refine tk 5 hHeld fun _ => ?_
  refine tk 6 hHeld fun _ => ?_
  refine tk 7 hHeld fun _ => ?_
  refine held_take 8 rfl (by kernel_rfl) (by kernel_rfl) (by kernel_rfl) (fun _ _ _ h => h) (by rfl) hHeld (v := .agg (lb.map (Value.int .u8)).toArray) (fun w hSw => exec_load rfl rfl hSw) (fun _ => ?_)
  simp only [Act.put, List.setIfInBounds_toArray, List.set_cons_zero, List.set_cons_succ]
  refine held_call 4 (by kernel_rfl) rfl (by rfl) (fun K hK => ?_)
  go_simp
  refine hK.out _ _ HL.out (fun hHeld => ?_)
  clear hK K
  refine held_take 9 rfl (by kernel_rfl) (by kernel_rfl) (by kernel_rfl) (fun _ _ _ h => h) (by rfl) hHeld (v := .agg (Value.pointer p :: lb.map (Value.int .u8)).toArray) (fun w hSw => exec_build (xs := [(0, .tmp 31), (1, .tmp 35)]) (u := [(0, Value.pointer p), (1, Value.agg (lb.map (Value.int .u8)).toArray)]) rfl rfl HPB.out) (fun _ => ?_)
  simp only [Act.put, List.setIfInBounds_toArray, List.set_cons_zero, List.set_cons_succ]
  refine held_call 10 (by kernel_rfl) rfl (by rfl) (fun K hK => ?_)
  go_simp
  refine hK.out _ _ HL3.out (fun hHeld => ?_)
  clear hK K
  refine tk 11 hHeld fun _ => ?_
  refine tk 12 hHeld fun _ => ?_
  refine held_call 13 (by kernel_rfl) rfl (by rfl) (fun K hK => ?_)
  go_simp
  refine hK.out _ _ HL4.out (fun hHeld => ?_)
  clear hK K
  refine wpAnyH_done (by kernel_rfl) ?_ _
  clear hHeld
  go_wp2
  go_end0
  exact ⟨rfl, _, HG.out, HP4.out, HU4.out.drew, HC4.out.drew⟩
theorem make_u8s (k : Nat) (hk : k ≤ 1048576) (w : World) :
    (Instr.makeSlice 33 (.int .i64 (k : Int)) (.int .i64 (k : Int))).run Try.prog w = .ok (.slice (some ⟨w.heap.size, 0, none⟩) k k) (w.alloc (.cells (madeCells #[.int .u8 0] k) 5)) := by
  exact run_make_row' (P := Try.prog) 33 5 (.int .u8 0) 1 Try.underlying33 info_u8 rfl .i64 .i64 k (by omega) (by omega) w
/-- Bytes are copied into a row whose bytes there are 0. -/
theorem ucopy {W : World} {g a : Nat} {zs t : List Int} (h : BRow W g (List.replicate (a + zs.length) 0 ++ t)) (x : Addr) (sLen sCap dLen dCap : Nat) (hn : zs.length = Nat.min sLen dLen) (hsrc : ∀ j, j < zs.length → W.cell? (x.add j) = some (.int .u8 (zs.getD j 0))) :
    ∃ W', (Builtin.copy_ #[33, 33] 3 #[.slice (some ⟨g, a, none⟩) dLen dCap, .slice (some x) sLen sCap]).run Try.prog W = .ok (goInt (zs.length : Nat)) W' ∧ BRow W' g (List.replicate a 0 ++ (zs ++ t)) ∧ Below g W W' := by
  have r := run_copy_row Try.prog W 33 33 3 5 g a dLen dCap x sLen sCap _ _ (zs.map (Value.int .u8)) Try.underlying33 (by kernel_rfl) h (by rw [List.length_map]; exact hn) (fun j v hj => by
    obtain ⟨hj1, hj2⟩ := List.getElem?_eq_some_iff.1 hj
    rw [List.length_map] at hj1
    rw [hsrc j hj1, ← hj2]
    simp [List.getD, List.getElem?_eq_getElem hj1]) (by simp) (fun v hv => by obtain ⟨z, _, rfl⟩ := List.mem_map.1 hv; rfl)
  rw [List.length_map] at r
  refine ⟨_, r, ?_, ?_⟩
  · refine (setRow_heap W g _ _ _ _ h).trans ?_
    congr 3
    have e : a - (a + zs.length) = 0 := by omega
    simp [List.take_append, e]
  · exact ⟨rfl, rfl, rfl, by simp, fun k hk => setRow_other W g k _ (by omega)⟩
set_option maxRecDepth 20000 in
set_option maxHeartbeats 4000000 in
theorem uall_any {b : Nat} {F : Nat → Prop} {cm : List Int} {n : Int} {lost may : Bool} {p : Option Addr} {la pg out : List Int} {sz : Nat} {w : World} (h : UBox w b cm n lost may p la (sz : Int)) (hs : sz ≤ 1048576) (hp : Pages w F b p pg) (hF : ∀ k, F k → k < w.heap.size) (ho : out = pg ++ la.take (sz % 64)) (hsz : out.length = sz) (hpl : pg.length = sz - sz % 64) (hz : ∀ z ∈ out, 0 ≤ z ∧ z < 256) :
    Calls Try.prog 27 #[.pointer (some ⟨b, 19, none⟩)] w fun e w' => (∃ A c, e = .returned (.slice A sz c) ∧ Shows w' w'.heap.size A sz out) ∧ Below w.heap.size w w' := by
  have HM := Lib.hid (make_u8s sz hs w)
  have HR := Lib.hid (made_brow w sz)
  have HB1 := Lib.hid ((Below.refl w.heap.size w).alloc (Nat.le_refl _) (.cells (madeCells #[.int .u8 0] sz) 5))
  have HU := Lib.hid (h.on HB1.out)
  have HP := Lib.hid hp
  have HFF := Lib.hid hF
  have HZ := Lib.hid hz
  obtain ⟨R, hR⟩ : ∃ R, R = sz % 64 := ⟨_, rfl⟩
  obtain ⟨M, hM⟩ : ∃ M, M = sz - R := ⟨_, rfl⟩
  rw [← hR] at ho hpl
  rw [← hM] at hpl
  have HO := Lib.hid ho
  have HSZ := Lib.hid hsz
  have hplen := hpl
  have hlt : R < 64 := by omega
  have e1 : (sz : Int).tmod 64 = (R : Int) := by rw [Int.tmod_eq_emod_of_nonneg (by omega)]; omega
  have e2 : IntKind.i64.wrap (R : Int) = (R : Int) := IntWalk.i64_in _ (by omega)
  have e3 : IntKind.i64.wrap ((sz : Int) - (R : Int)) = (M : Int) := by rw [IntWalk.i64_in _ (by omega)]; omega
  have e4 : (sz : Int) - (R : Int) = (M : Int) := by omega
  have e5 : (sz : Int) % 64 = (R : Int) := by omega
  have e6 : IntKind.i64.wrap (M : Int) = (M : Int) := IntWalk.i64_in _ (by omega)
  have hMi : (M : Int) ≤ (sz : Int) := by omega
  have hMs : M ≤ sz := by omega
  have hMR : sz - M = R := by omega
  have hMM : M + R = sz := by omega
  have hll := h.2.2
  have hbl := h.lt
  have cz := h.cz
  have cp := h.cp
  have H := Lib.hid h
  clear h hp hF hz ho hsz hR hM hpl
  go_enter Try.func27, Try.ntmps27
  have hm := HM.out
  go_wp2
  clear hm
  generalize w.alloc (.cells (madeCells #[.int .u8 0] sz) 5) = w1 at *
  have HS : Hid (w1.drew.cell? ⟨b, 84, none⟩ = some (.int .i64 (sz : Int))) := Lib.hid HU.out.cz
  clear cz cp
  refine wp_region_held_drew (S := fun W => W.cell? ⟨b, 84, none⟩ = some (.int .i64 (sz : Int))) (by kernel_rfl) HS.out (fun hHeld => ?_)
  refine tk 0 hHeld fun _ => ?_
  refine tk 1 hHeld fun _ => ?_
  refine tk 2 hHeld fun _ => ?_
  refine tk 3 hHeld fun _ => ?_
  refine tk 4 hHeld fun _ => ?_
  refine tk 5 hHeld fun _ => ?_
  refine tk 6 hHeld fun _ => ?_
  refine tk 7 hHeld fun _ => ?_
  refine tk 8 hHeld fun _ => ?_
  refine tk 9 hHeld fun _ => ?_
  refine tk 10 hHeld fun _ => ?_
  refine wpAnyH_done (by kernel_rfl) ?_ _
  clear hHeld
  go_wp2
  clear e1 e2 e3 e4 e5
  refine wp_region_held_drew (S := fun W => True) (by kernel_rfl) trivial (fun hHeld => ?_)
  by_cases hR0 : R = 0
  · have hq : sz = M := by omega
    obtain rfl : sz = M := hq
    have hRM : sz - sz = 0 := by omega
    have HR2 : Hid (BRow w1.drew.drew w.heap.size (List.replicate sz 0 ++ la.take R)) := Lib.hid (by rw [hR0, List.take_zero, List.append_nil]; exact HR.out)
    have HB2 : Hid (Below w.heap.size w w1.drew.drew) := Lib.hid HB1.out.drew.drew
    have HRUN : Hid ((Builtin.copy_ #[33, 33] 3 #[.slice (some ⟨w.heap.size, 0, none⟩) 0 0, .slice (some ⟨b, 20, none⟩) 64 64]).run Try.prog w1.drew.drew = .ok (goInt (0 : Nat)) w1.drew.drew) := Lib.hid (run_copy_none w1.drew.drew 33 33 3 5 _ _ _ _ _ _ Try.underlying33 (by kernel_rfl) rfl)
    refine tk 0 hHeld fun _ => ?_
    refine tk 1 hHeld fun _ => ?_
    refine tk 2 hHeld fun _ => ?_
    refine tk 3 hHeld fun _ => ?_
    refine tk 4 hHeld fun _ => ?_
    refine tk 5 hHeld fun _ => ?_
    refine tk 6 hHeld fun _ => ?_
    refine held_call 7 (by kernel_rfl) rfl (by rfl) (fun K hK => ?_)
    refine Lib.wp_copy_run _ _ _ _ _ rfl _ _ rfl rfl HRUN.out ?_
    clear hRM
    refine hK.out _ _ trivial (fun hHeld => ?_)
    clear hK K
    refine wpAnyH_done (by kernel_rfl) ?_ _
    clear hHeld
    have c19 := (H.out.on HB2.out).cp
    clear HM HR HU HB1 HRUN e6 hMi hMs hMR hMM hll hbl
    go_wp2
    go_loopw [4, 5] (fun e q wr => ∃ (l t : List Int) (x : Option Addr), e = .int .i64 (l.length : Nat) ∧ q = .pointer x ∧ Pages w F b x l ∧ l ++ t = out ∧ BRow wr w.heap.size (List.replicate l.length 0 ++ t) ∧ Below w.heap.size w wr) (fun e _ _ => (intOf e).toNat)
    case atStart => exact ⟨pg, la.take R, p, by rw [hplen], rfl, HP.out, HO.out.symm, by rw [hplen]; exact HR2.out, HB2.out⟩
    case round =>
      obtain ⟨l, t, x, rfl, rfl, hpg, hlo, hrow, hb⟩ := hrel
      have HROW := Lib.hid hrow
      have HB := Lib.hid hb
      clear hrow hb
      cases hpg with
      | nil =>
        obtain rfl : t = out := hlo
        have hsh := Lib.hid (BRow.shows (n := sz) HROW.out (by simpa using HSZ.out) (by simpa using HZ.out))
        go_wp2
        go_ret
        exact ⟨⟨_, _, rfl, by simpa using hsh.out⟩, HB.out⟩
      | cons hk hF hb hz hzs hl =>
        rename_i k q l' zs
        have hkw : k < w.heap.size := HFF.out k hF
        have HL := Lib.hid hl
        have hE : (l' ++ zs).length = l'.length + 64 := by rw [List.length_append, hz]
        have hlen := HSZ.out
        rw [← hlo, List.length_append, hE] at hlen
        obtain ⟨E, hEE⟩ : ∃ E, E = l'.length := ⟨_, rfl⟩
        obtain ⟨N, hN⟩ : ∃ N, N = (l' ++ zs).length := ⟨_, rfl⟩
        rw [← hN] at HROW
        rw [← hN]
        have hNE : N = E + 64 := by omega
        have f1 : (N : Int) - 64 = (E : Int) := by omega
        have f2 : IntKind.i64.wrap (E : Int) = (E : Int) := IntWalk.i64_in _ (by omega)
        have f3 : (E : Int) ≤ (sz : Int) := by omega
        have f4 : ¬ sz = E := by omega
        have HEE := Lib.hid hEE
        have HNE := Lib.hid hNE
        have HK := Lib.hid (fun W (hb : Below w.heap.size w W) => (hb.block k hkw).trans hk)
        have ck : wr.cell? ⟨k, 0, none⟩ = some (.pointer q) := dev_cell (HK.out _ HB.out) rfl
        have HRX : Hid (∃ W3, (Builtin.copy_ #[33, 33] 3 #[.slice (some ⟨w.heap.size, E, none⟩) (sz - E) (sz - E), .slice (some ⟨k, 1, none⟩) 64 64]).run Try.prog wr.drew = .ok (goInt (zs.length : Nat)) W3 ∧ BRow W3 w.heap.size (List.replicate E 0 ++ (zs ++ t)) ∧ Below w.heap.size wr.drew W3) := Lib.hid (by
          refine ucopy (W := wr.drew) (t := t) (by rw [hz, ← hNE]; exact HROW.out) ⟨k, 1, none⟩ 64 64 _ _ (by rw [hz]; exact (Nat.min_eq_left (by omega)).symm) (fun j hj => ?_)
          rw [addr_add]
          exact dev_cell (HK.out _ HB.out.drew) (by simp [Nat.add_comm 1 j, List.getD, List.getElem?_eq_getElem hj]))
        obtain ⟨W3, hr3, hrow3, hb3⟩ := HRX.out
        have HRUN3 := Lib.hid hr3
        have HROW3 := Lib.hid hrow3
        have HB3 : Hid (Below w.heap.size w W3) := Lib.hid (HB.out.drew.trans (hb3.mono (by exact Nat.le_refl _)))
        have ck3 : W3.cell? ⟨k, 0, none⟩ = some (.pointer q) := dev_cell (HK.out _ HB3.out) rfl
        have HLO : Hid (l' ++ (zs ++ t) = out) := Lib.hid (by rw [← List.append_assoc]; exact hlo)
        clear HRX hr3 hrow3 hb3 hk hF hb hzs hl hlo hE hlen hN hNE hkw hEE
        go_wp2_with fail
        refine wp_region_held_drew (S := fun W => True) (by kernel_rfl) trivial (fun hHeld => ?_)
        refine tk 0 hHeld fun _ => ?_
        refine tk 1 hHeld fun _ => ?_
        refine tk 2 hHeld fun _ => ?_
        refine tk 3 hHeld fun _ => ?_
        refine tk 4 hHeld fun _ => ?_
        refine tk 5 hHeld fun _ => ?_
        refine tk 6 hHeld fun _ => ?_
        refine held_call 7 (by kernel_rfl) rfl (by rfl) (fun K hK => ?_)
        refine Lib.wp_copy_run _ _ _ _ _ rfl _ _ rfl rfl HRUN3.out ?_
        refine hK.out _ _ trivial (fun hHeld => ?_)
        clear hK K
        refine wpAnyH_done (by kernel_rfl) ?_ _
        clear hHeld
        go_wp2_with fail
        exact ⟨⟨l', zs ++ t, q, by rw [← HEE.out], rfl, HL.out, HLO.out, by rw [← HEE.out]; exact HROW3.out, HB3.out⟩, by simp [intOf]; have := HNE.out; omega⟩
  · have hq : ¬ sz = M := by omega
    have HRX : Hid (∃ W2, (Builtin.copy_ #[33, 33] 3 #[.slice (some ⟨w.heap.size, M, none⟩) R R, .slice (some ⟨b, 20, none⟩) 64 64]).run Try.prog w1.drew.drew = .ok (goInt ((la.take R).length : Nat)) W2 ∧ BRow W2 w.heap.size (List.replicate M 0 ++ (la.take R ++ [])) ∧ Below w.heap.size w1.drew.drew W2) := Lib.hid (by
      have hl : (la.take R).length = R := by rw [List.length_take, hll]; omega
      refine ucopy (W := w1.drew.drew) (t := []) (by rw [hl, hMM, List.append_nil]; exact HR.out) ⟨b, 20, none⟩ 64 64 _ _ (by rw [hl]; exact (Nat.min_eq_right (by omega)).symm) (fun j hj => ?_)
      rw [hl] at hj
      rw [addr_add]
      refine (HU.out.ca j (by omega)).trans ?_
      simp [List.getD, List.getElem?_take_of_lt hj])
    obtain ⟨W2, hr2, hrow2, hb2⟩ := HRX.out
    have HRUN := Lib.hid hr2
    have HR2 : Hid (BRow W2 w.heap.size (List.replicate M 0 ++ la.take R)) := Lib.hid (by simpa using hrow2)
    have HB2 : Hid (Below w.heap.size w W2) := Lib.hid (HB1.out.drew.drew.trans (hb2.mono (Nat.le_refl _)))
    clear HRX hr2 hrow2 hb2
    refine tk 0 hHeld fun _ => ?_
    refine tk 1 hHeld fun _ => ?_
    refine tk 2 hHeld fun _ => ?_
    refine tk 3 hHeld fun _ => ?_
    refine tk 4 hHeld fun _ => ?_
    refine tk 5 hHeld fun _ => ?_
    refine tk 6 hHeld fun _ => ?_
    refine held_call 7 (by kernel_rfl) rfl (by rfl) (fun K hK => ?_)
    refine Lib.wp_copy_run _ _ _ _ _ rfl _ _ rfl rfl HRUN.out ?_
    clear hq
    refine hK.out _ _ trivial (fun hHeld => ?_)
    clear hK K
    refine wpAnyH_done (by kernel_rfl) ?_ _
    clear hHeld
    have c19 := (H.out.on HB2.out).cp
    clear HM HR HU HB1 HRUN e6 hMi hMs hMR hMM hll hbl
    go_wp2
    go_loopw [4, 5] (fun e q wr => ∃ (l t : List Int) (x : Option Addr), e = .int .i64 (l.length : Nat) ∧ q = .pointer x ∧ Pages w F b x l ∧ l ++ t = out ∧ BRow wr w.heap.size (List.replicate l.length 0 ++ t) ∧ Below w.heap.size w wr) (fun e _ _ => (intOf e).toNat)
    case atStart => exact ⟨pg, la.take R, p, by rw [hplen], rfl, HP.out, HO.out.symm, by rw [hplen]; exact HR2.out, HB2.out⟩
    case round =>
      obtain ⟨l, t, x, rfl, rfl, hpg, hlo, hrow, hb⟩ := hrel
      have HROW := Lib.hid hrow
      have HB := Lib.hid hb
      clear hrow hb
      cases hpg with
      | nil =>
        obtain rfl : t = out := hlo
        have hsh := Lib.hid (BRow.shows (n := sz) HROW.out (by simpa using HSZ.out) (by simpa using HZ.out))
        go_wp2
        go_ret
        exact ⟨⟨_, _, rfl, by simpa using hsh.out⟩, HB.out⟩
      | cons hk hF hb hz hzs hl =>
        rename_i k q l' zs
        have hkw : k < w.heap.size := HFF.out k hF
        have HL := Lib.hid hl
        have hE : (l' ++ zs).length = l'.length + 64 := by rw [List.length_append, hz]
        have hlen := HSZ.out
        rw [← hlo, List.length_append, hE] at hlen
        obtain ⟨E, hEE⟩ : ∃ E, E = l'.length := ⟨_, rfl⟩
        obtain ⟨N, hN⟩ : ∃ N, N = (l' ++ zs).length := ⟨_, rfl⟩
        rw [← hN] at HROW
        rw [← hN]
        have hNE : N = E + 64 := by omega
        have f1 : (N : Int) - 64 = (E : Int) := by omega
        have f2 : IntKind.i64.wrap (E : Int) = (E : Int) := IntWalk.i64_in _ (by omega)
        have f3 : (E : Int) ≤ (sz : Int) := by omega
        have f4 : ¬ sz = E := by omega
        have HEE := Lib.hid hEE
        have HNE := Lib.hid hNE
        have HK := Lib.hid (fun W (hb : Below w.heap.size w W) => (hb.block k hkw).trans hk)
        have ck : wr.cell? ⟨k, 0, none⟩ = some (.pointer q) := dev_cell (HK.out _ HB.out) rfl
        have HRX : Hid (∃ W3, (Builtin.copy_ #[33, 33] 3 #[.slice (some ⟨w.heap.size, E, none⟩) (sz - E) (sz - E), .slice (some ⟨k, 1, none⟩) 64 64]).run Try.prog wr.drew = .ok (goInt (zs.length : Nat)) W3 ∧ BRow W3 w.heap.size (List.replicate E 0 ++ (zs ++ t)) ∧ Below w.heap.size wr.drew W3) := Lib.hid (by
          refine ucopy (W := wr.drew) (t := t) (by rw [hz, ← hNE]; exact HROW.out) ⟨k, 1, none⟩ 64 64 _ _ (by rw [hz]; exact (Nat.min_eq_left (by omega)).symm) (fun j hj => ?_)
          rw [addr_add]
          exact dev_cell (HK.out _ HB.out.drew) (by simp [Nat.add_comm 1 j, List.getD, List.getElem?_eq_getElem hj]))
        obtain ⟨W3, hr3, hrow3, hb3⟩ := HRX.out
        have HRUN3 := Lib.hid hr3
        have HROW3 := Lib.hid hrow3
        have HB3 : Hid (Below w.heap.size w W3) := Lib.hid (HB.out.drew.trans (hb3.mono (by exact Nat.le_refl _)))
        have ck3 : W3.cell? ⟨k, 0, none⟩ = some (.pointer q) := dev_cell (HK.out _ HB3.out) rfl
        have HLO : Hid (l' ++ (zs ++ t) = out) := Lib.hid (by rw [← List.append_assoc]; exact hlo)
        clear HRX hr3 hrow3 hb3 hk hF hb hzs hl hlo hE hlen hN hNE hkw hEE
        go_wp2_with fail
        refine wp_region_held_drew (S := fun W => True) (by kernel_rfl) trivial (fun hHeld => ?_)
        refine tk 0 hHeld fun _ => ?_
        refine tk 1 hHeld fun _ => ?_
        refine tk 2 hHeld fun _ => ?_
        refine tk 3 hHeld fun _ => ?_
        refine tk 4 hHeld fun _ => ?_
        refine tk 5 hHeld fun _ => ?_
        refine tk 6 hHeld fun _ => ?_
        refine held_call 7 (by kernel_rfl) rfl (by rfl) (fun K hK => ?_)
        refine Lib.wp_copy_run _ _ _ _ _ rfl _ _ rfl rfl HRUN3.out ?_
        refine hK.out _ _ trivial (fun hHeld => ?_)
        clear hK K
        refine wpAnyH_done (by kernel_rfl) ?_ _
        clear hHeld
        go_wp2_with fail
        exact ⟨⟨l', zs ++ t, q, by rw [← HEE.out], rfl, HL.out, HLO.out, by rw [← HEE.out]; exact HROW3.out, HB3.out⟩, by simp [intOf]; have := HNE.out; omega⟩
theorem acc16 {off width : Int} (ho : U64v off) (h : accE 16 off width = 0) : (off = 0 ∨ off = 4 ∨ off = 8 ∨ off = 12) ∧ width = 4 := by
  obtain ⟨o0, o1⟩ := ho
  rcases accE_cases 16 off width with ⟨e, _⟩ | ⟨e, _⟩ | ⟨e, h1, h2, h3⟩
  · rw [e] at h; cases h
  · rw [e] at h; cases h
  · exact ⟨by omega, h2⟩
set_option maxHeartbeats 4000000 in
theorem uartLoadOK : UartLoadOK := by
  intro b F s off width w h ho
  have CK := Lib.hid (check_any off width 16 w ho ⟨by decide, by decide⟩ _ rfl)
  have HA := Lib.hid h
  unfold uartLoadE uartReadE
  by_cases hr : accE 16 off width = 0
  · rw [if_pos hr, if_pos hr, hr]
    rw [hr] at CK
    obtain ⟨hoff, rfl⟩ := acc16 ho hr
    clear ho hr
    obtain ⟨hb, hF, cm, p, la, pg, hu, h16, hcm, hla, hin, hpg, hout, hpl⟩ := h
    obtain ⟨zs, os, lost, may⟩ := s
    dsimp only at hu h16 hin hout hpl
    rcases hoff with rfl | rfl | rfl | rfl
    · rcases zs with _ | ⟨z, zs⟩
      · have HT := Lib.hid (utake_no hu)
        clear hu h16 hcm hla hin hpg hout hpl hF
        go_enter Try.func7, Try.ntmps7
        go_wp2_with fail
        refine CK.out.mono ?_
        rintro e w1 ⟨rfl, rfl⟩
        go_wp2_with fail
        refine HT.out.mono ?_
        rintro e w1 ⟨rfl, rfl⟩
        go_wp2
        go_ret2
        exact ⟨rfl, F, HA.out, (ChgB.refl b w).toF hb⟩
      · have HT := Lib.hid (utake_yes (m := (z :: zs).length) hu (by simp) h16)
        obtain ⟨ys, hys⟩ : ∃ ys, cm = z :: ys := by
          rcases cm with _ | ⟨y, ys⟩
          · simp at hin
          · simp at hin
            exact ⟨ys, by rw [hin.1]⟩
        have hbz := hcm z (by rw [hys]; simp)
        have e0 : cm.getD 0 0 = z := by rw [hys]; rfl
        rw [e0] at HT
        have w1 : IntKind.u64.wrap z = z := IntWalk.u64_in _ (by omega)
        have HB := Lib.hid hb
        have HFF := Lib.hid hF
        have HREST : Hid (∀ w', UBox w' b ((cm.drop 1).take ((z :: zs).length - 1) ++ cm.drop ((z :: zs).length - 1)) (((z :: zs).length : Int) - 1) lost may p la os.length → ChgB b w w' → UartAt w' b F ⟨zs, os, lost, may⟩) := Lib.hid (fun w' hu' hc => by
          have e1 : (((z :: zs).length : Int) - 1) = (zs.length : Nat) := by simp
          rw [e1] at hu'
          refine ⟨hb, fun k hk => Nat.lt_of_lt_of_le (hF k hk) hc.size, _, p, la, pg, hu', by simp at h16 ⊢; omega, ?_, hla, ?_, hpg.keep (fun k hk hn => hc.block k (hF k hk) hn) (fun k hk => hk), hout, hpl⟩
          · intro y hy
            rcases List.mem_append.1 hy with h | h
            · exact hcm y (List.mem_of_mem_drop (List.mem_of_mem_take h))
            · exact hcm y (List.mem_of_mem_drop h)
          · simp [hys] at hin ⊢
            have hy : zs.length ≤ ys.length := by
              have := congrArg List.length hin
              simp at this
              omega
            rw [List.take_append_of_le_length (by simp; omega), List.take_take, Nat.min_self]
            exact hin)
        clear hu h16 hcm hla hin hpg hout hpl hys hbz e0 hF hb
        go_enter Try.func7, Try.ntmps7
        go_wp2_with fail
        refine CK.out.mono ?_
        rintro e w1 ⟨rfl, rfl⟩
        go_wp2_with fail
        refine HT.out.mono ?_
        rintro e w2 ⟨rfl, hu2, hc2⟩
        have H2 := Lib.hid (HREST.out _ hu2 hc2)
        have H3 := Lib.hid (hc2.toF HB.out)
        clear hu2 hc2
        go_wp2
        go_ret2
        exact ⟨rfl, F, H2.out, H3.out⟩
    · have HT := Lib.hid (uthere_any (n := zs.length) hu.drew)
      have HS : Hid (w.drew.cell? ⟨b, 17, none⟩ = some (.bool lost)) := Lib.hid hu.cl
      obtain ⟨Pz, hP⟩ : ∃ Pz, decide (0 < zs.length) = Pz := ⟨_, rfl⟩
      rw [hP] at HT
      have H1 := Lib.hid (fun w => uint_bit Pz 1 w)
      have H2 := Lib.hid (fun w => uint_bit lost 2 w)
      have e : uartLoad ⟨zs, os, lost, may⟩ 4 = bitI Pz + 2 * bitI lost := by rw [← hP]; rfl
      have e2 : uartRead ⟨zs, os, lost, may⟩ 4 = ⟨zs, os, lost, may⟩ := rfl
      rw [e, e2]
      have q : bits .or .u64 (if Pz then 1 else 0) (if lost then 2 else 0) = bitI Pz + 2 * bitI lost := by cases Pz <;> cases lost <;> rfl
      generalize (if Pz then (1 : Int) else 0) = X at *
      generalize (if lost then (2 : Int) else 0) = Y at *
      generalize bitI Pz + 2 * bitI lost = Z at *
      clear hu h16 hcm hla hin hpg hout hpl hF e e2 hP
      go_enter Try.func7, Try.ntmps7
      go_wp2_with fail
      refine CK.out.mono ?_
      rintro e w1 ⟨rfl, rfl⟩
      go_wp2
      refine wp_region_held_drew (S := fun W => W.cell? ⟨b, 17, none⟩ = some (.bool lost)) (by kernel_rfl) HS.out (fun hHeld => ?_)
      refine tk 0 hHeld fun _ => ?_
      refine tk 3 hHeld fun _ => ?_
      refine tk 4 hHeld fun _ => ?_
      refine tk 5 hHeld fun _ => ?_
      refine tk 6 hHeld fun _ => ?_
      refine held_call 1 (by kernel_rfl) rfl (by rfl) (fun K hK => ?_)
      go_simp
      refine HT.out.mono ?_
      rintro e w1 ⟨rfl, rfl⟩
      dsimp only
      refine hK.out _ _ HS.out (fun hHeld => ?_)
      clear hK K
      refine held_call 2 (by kernel_rfl) rfl (by rfl) (fun K hK => ?_)
      go_simp
      refine (H1.out _).mono ?_
      rintro e w1 ⟨rfl, rfl⟩
      dsimp only
      refine hK.out _ _ HS.out (fun hHeld => ?_)
      clear hK K
      refine held_call 7 (by kernel_rfl) rfl (by rfl) (fun K hK => ?_)
      go_simp
      refine (H2.out _).mono ?_
      rintro e w1 ⟨rfl, rfl⟩
      dsimp only
      refine hK.out _ _ HS.out (fun hHeld => ?_)
      clear hK K
      refine tk 8 hHeld fun _ => ?_
      refine tk 9 hHeld fun _ => ?_
      refine tk 10 hHeld fun _ => ?_
      refine wpAnyH_done (by kernel_rfl) ?_ _
      clear hHeld
      go_wp2
      go_ret2
      exact ⟨rfl, F, HA.out.keep (fun _ _ => rfl) (Nat.le_refl _), (ChgB.refl b w).drew.toF hb⟩
    · have H1 := Lib.hid (fun w => uint_bit may 1 w)
      have c18 := hu.cy
      have e : uartLoad ⟨zs, os, lost, may⟩ 8 = (if may then 1 else 0) := rfl
      have e2 : uartRead ⟨zs, os, lost, may⟩ 8 = ⟨zs, os, lost, may⟩ := rfl
      rw [e, e2]
      generalize (if may then (1 : Int) else 0) = X at *
      clear hu h16 hcm hla hin hpg hout hpl hF e e2
      go_enter Try.func7, Try.ntmps7
      go_wp2_with fail
      refine CK.out.mono ?_
      rintro e w1 ⟨rfl, rfl⟩
      go_wp2_with fail
      refine (H1.out _).mono ?_
      rintro e w1 ⟨rfl, rfl⟩
      go_wp2
      go_ret2
      exact ⟨rfl, F, HA.out, (ChgB.refl b w).toF hb⟩
    · have c16 := hu.cn
      have e : uartLoad ⟨zs, os, lost, may⟩ 12 = (zs.length : Nat) := rfl
      have e2 : uartRead ⟨zs, os, lost, may⟩ 12 = ⟨zs, os, lost, may⟩ := rfl
      rw [e, e2]
      have w3 : IntKind.u64.wrap (zs.length : Int) = (zs.length : Int) := IntWalk.u64_in _ (by omega)
      clear hu h16 hcm hla hin hpg hout hpl hF e e2
      go_enter Try.func7, Try.ntmps7
      go_wp2_with fail
      refine CK.out.mono ?_
      rintro e w1 ⟨rfl, rfl⟩
      go_wp2
      go_ret2
      exact ⟨rfl, F, HA.out, (ChgB.refl b w).toF hb⟩
  · rw [if_neg hr, if_neg hr]
    have hb := h.1
    generalize accE 16 off width = r at *
    have q : (r != 0) = true := by rw [bne_iff_ne]; exact hr
    clear hr h ho
    go_enter Try.func7, Try.ntmps7
    go_wp2_with fail
    refine CK.out.mono ?_
    rintro e w1 ⟨rfl, rfl⟩
    go_wp2
    go_ret2
    exact ⟨rfl, F, HA.out, (ChgB.refl b w).toF hb⟩

theorem uartHighOK : UartHighOK := by
  intro b F s w h
  have HA := Lib.hid h
  obtain ⟨hb, hF, cm, p, la, pg, hu, _⟩ := h
  obtain ⟨zs, os, lost, may⟩ := s
  have HT := Lib.hid (uthere_any (n := zs.length) hu)
  have c18 := hu.cy
  generalize decide (0 < zs.length) = Pz at *
  have HB := Lib.hid (Below.refl w.heap.size w)
  clear hu
  cases may
  · go_enter Try.func14, Try.ntmps14
    go_wp2
    go_ret
    exact ⟨rfl, HB.out⟩
  · go_enter Try.func14, Try.ntmps14
    go_wp2_with fail
    refine HT.out.mono ?_
    rintro e w1 ⟨rfl, rfl⟩
    go_wp2
    go_ret
    exact ⟨by simp, HB.out⟩
theorem uartSentOK : UartSentOK := by
  intro b F s w h hl
  obtain ⟨hb, hF, cm, p, la, pg, hu, h16, hcm, hla, hin, hpg, hout, hpl⟩ := h
  have e1 : s.out.length - pg.length = s.out.length % 64 := by omega
  have HL := Lib.hid (uall_any hu hl hpg hF (by rw [← e1]; exact hout) rfl hpl (fun z hz => by
    rw [hout] at hz
    rcases List.mem_append.1 hz with h | h
    · exact hpg.byte z h
    · exact hla z (List.mem_of_mem_take h)))
  clear hu h16 hcm hla hin hpg hout hpl hF
  go_enter Try.func16, Try.ntmps16
  go_wp2_with fail
  refine HL.out.mono ?_
  rintro e w1 ⟨⟨A, c, rfl, hs⟩, hb⟩
  have HS := Lib.hid hs
  have HB := Lib.hid hb
  clear hs hb
  go_wp2
  go_ret
  exact ⟨⟨A, c, rfl, HS.out⟩, HB.out⟩
theorem u64_and_1 (v : Int) (h : U64v v) : bits .and .u64 v 1 = v % 2 := by
  obtain ⟨h0, h1⟩ := h
  obtain ⟨n, rfl⟩ := Int.eq_ofNat_of_zero_le h0
  have e : (BitVec.ofInt 64 (n : Int) &&& BitVec.ofInt 64 1).toNat = n % 2 := by
    rw [BitVec.toNat_and, BitVec.toNat_ofInt, show (BitVec.ofInt 64 1).toNat = 2 ^ 1 - 1 from rfl, Nat.and_two_pow_sub_one_eq_mod]
    omega
  show IntKind.u64.wrap ((BitVec.ofInt 64 (n : Int) &&& BitVec.ofInt 64 1).toNat : Int) = _
  rw [e, IntWalk.u64_in _ (by omega)]
  omega
theorem u64_and_2 (v : Int) (h : U64v v) : bits .and .u64 v 2 = v / 2 % 2 * 2 := by
  obtain ⟨h0, h1⟩ := h
  obtain ⟨n, rfl⟩ := Int.eq_ofNat_of_zero_le h0
  have e := u64_and_nat n 2 (by omega) (by omega)
  have e2 := nat_bit 1 n
  rw [show ((2 : Nat) : Int) = 2 from rfl] at e
  rw [e]
  simp only [Nat.pow_one] at e2
  rw [e2]
  omega
theorem uart_sent {w w' : World} {b : Nat} {F : Nat → Prop} {cm : List Int} {p : Option Addr} {la pg : List Int} {s : UartS} {z : Int} (hz : 0 ≤ z ∧ z < 256) (hb : F b) (hF : ∀ k, F k → k < w.heap.size) (h16 : s.inn.length ≤ 16) (hcm : ∀ z ∈ cm, 0 ≤ z ∧ z < 256) (hla : ∀ z ∈ la, 0 ≤ z ∧ z < 256) (hin : s.inn = cm.take s.inn.length) (hpg : Pages w F b p pg) (hout : s.out = pg ++ la.take (s.out.length - pg.length)) (hpl : pg.length = s.out.length - s.out.length % 64)
    (hr : (s.out.length + 1) % 64 ≠ 0) (hu : UBox w' b cm s.inn.length s.lost s.raises p (la.set (s.out.length % 64) z) ((s.out.length + 1 : Nat) : Int)) (hc : ChgB b w w') : UartAt w' b F { s with out := s.out ++ [z] } := by
  have e1 : s.out.length - pg.length = s.out.length % 64 := by omega
  have hl : la.length = 64 := by have := hu.2.2; simpa using this
  refine ⟨hb, fun k hk => Nat.lt_of_lt_of_le (hF k hk) hc.size, cm, p, _, pg, by simpa using hu, h16, hcm, ?_, hin, hpg.keep (fun k hk hn => hc.block k (hF k hk) hn) (fun k hk => hk), ?_, ?_⟩
  · intro y hy
    rcases List.mem_or_eq_of_mem_set hy with h | h
    · exact hla y h
    · exact h ▸ hz
  · rw [e1] at hout
    have e2 : (s.out ++ [z]).length - pg.length = s.out.length % 64 + 1 := by simp; omega
    show s.out ++ [z] = _
    rw [show ({ s with out := s.out ++ [z] } : UartS).out = s.out ++ [z] from rfl, e2, List.take_succ_eq_append_getElem (by simp [hl]; omega)]
    rw [List.take_set_of_le (Nat.le_refl _), List.getElem_set_self]
    rw [← List.append_assoc, ← hout]
  · show _ = (s.out ++ [z]).length - (s.out ++ [z]).length % 64
    simp
    omega
theorem uart_page {w w' : World} {b g : Nat} {F : Nat → Prop} {cm : List Int} {p : Option Addr} {la pg : List Int} {s : UartS} {z : Int} (hz : 0 ≤ z ∧ z < 256) (hb : F b) (hF : ∀ k, F k → k < w.heap.size) (h16 : s.inn.length ≤ 16) (hcm : ∀ z ∈ cm, 0 ≤ z ∧ z < 256) (hla : ∀ z ∈ la, 0 ≤ z ∧ z < 256) (hin : s.inn = cm.take s.inn.length) (hpg : Pages w F b p pg) (hout : s.out = pg ++ la.take (s.out.length - pg.length)) (hpl : pg.length = s.out.length - s.out.length % 64)
    (hr : (s.out.length + 1) % 64 = 0) (hg : w.heap.size ≤ g) (hgp : w'.heap[g]? = some (.cells (Value.pointer p :: (la.set (s.out.length % 64) z).map (Value.int .u8)).toArray 66 (0, 0))) (hu : UBox w' b cm s.inn.length s.lost s.raises (some ⟨g, 0, none⟩) (la.set (s.out.length % 64) z) ((s.out.length + 1 : Nat) : Int)) (hc : ChgB b w w') : UartAt w' b (fun k => F k ∨ k = g) { s with out := s.out ++ [z] } ∧ ChgF F (fun k => F k ∨ k = g) w w' := by
  have e1 : s.out.length - pg.length = s.out.length % 64 := by omega
  have e63 : s.out.length % 64 = 63 := by omega
  have hl : la.length = 64 := by have := hu.2.2; simpa using this
  have hbl := hF b hb
  have hlb : ∀ y ∈ la.set (s.out.length % 64) z, 0 ≤ y ∧ y < 256 := by
    intro y hy
    rcases List.mem_or_eq_of_mem_set hy with h | h
    · exact hla y h
    · exact h ▸ hz
  refine ⟨⟨.inl hb, fun k hk => hk.elim (fun h => Nat.lt_of_lt_of_le (hF k h) hc.size) (fun h => h ▸ (Array.getElem?_eq_some_iff.1 hgp).1), cm, _, _, pg ++ la.set (s.out.length % 64) z, by simpa using hu, h16, hcm, hlb, hin, ?_, ?_, ?_⟩, ⟨hc.os, hc.tape, hc.output, hc.size, fun k hk hn => hc.block k hk (fun e => hn (e ▸ hb)), fun k hk => hk.elim .inl (fun h => .inr (h ▸ hg))⟩⟩
  · exact .cons hgp (.inr rfl) (by omega) (by simpa using hl) hlb (hpg.keep (fun k hk hn => hc.block k (hF k hk) hn) (fun k hk => .inl hk))
  · rw [e1, e63] at hout
    have e2 : (s.out ++ [z]).length - (pg ++ la.set (s.out.length % 64) z).length = 0 := by simp; omega
    have e3 : la.set 63 z = la.take 63 ++ [z] := by
      have h : (la.set 63 z).take (63 + 1) = la.set 63 z := List.take_of_length_le (by simp [hl])
      rw [← h, List.take_succ_eq_append_getElem (by simp [hl]), List.take_set_of_le (Nat.le_refl _), List.getElem_set_self]
    show s.out ++ [z] = _
    rw [show ({ s with out := s.out ++ [z] } : UartS).out = s.out ++ [z] from rfl, e2, List.take_zero, List.append_nil, e63, e3, ← List.append_assoc, ← hout]
  · show _ = (s.out ++ [z]).length - (s.out ++ [z]).length % 64
    simp
    omega
set_option maxHeartbeats 4000000 in
theorem uartStoreOK : UartStoreOK := by
  intro b F s off width v w h ho hv hl
  have CK := Lib.hid (check_any off width 16 w ho ⟨by decide, by decide⟩ _ rfl)
  have HA := Lib.hid h
  unfold uartStoreE
  by_cases hr : accE 16 off width = 0
  · rw [if_pos hr, hr]
    rw [hr] at CK
    obtain ⟨hoff, rfl⟩ := acc16 ho hr
    clear ho hr
    obtain ⟨hb, hF, cm, p, la, pg, hu, h16, hcm, hla, hin, hpg, hout, hpl⟩ := h
    have HB := Lib.hid hb
    rcases hoff with rfl | rfl | rfl | rfl
    · have w1 : IntKind.u8.wrap v = v % 256 := IntKind.wrap_u8' v
      have hz : 0 ≤ v % 256 ∧ v % 256 < 256 := by omega
      have e0 : uartStore s 0 v = { s with out := s.out ++ [v % 256] } := rfl
      rw [e0]
      generalize v % 256 = z at *
      by_cases hr : (s.out.length + 1) % 64 = 0
      · have HP := Lib.hid (uadd_page hu (by omega) hr z)
        have HR := Lib.hid (fun w' g hg hgp hu' hc => uart_page (w := w) (w' := w') (b := b) (g := g) hz hb hF h16 hcm hla hin hpg hout hpl hr hg hgp hu' hc)
        clear hu h16 hcm hla hin hpg hout hpl hF hz hr
        go_enter Try.func10, Try.ntmps10
        go_wp2_with fail
        refine CK.out.mono ?_
        rintro e w1 ⟨rfl, rfl⟩
        go_wp2_with fail
        refine HP.out.mono ?_
        rintro e w2 ⟨rfl, g, hg, hgp, hu2, hc2⟩
        have HX := Lib.hid (HR.out _ g hg hgp hu2 hc2)
        clear hg hgp hu2 hc2
        go_wp2
        go_ret
        exact ⟨rfl, _, HX.out.1, HX.out.2⟩
      · have HP := Lib.hid (uadd_one hu (by omega) hr z)
        have HR := Lib.hid (fun w' hu' hc => uart_sent (w := w) (w' := w') (b := b) hz hb hF h16 hcm hla hin hpg hout hpl hr hu' hc)
        clear hu h16 hcm hla hin hpg hout hpl hF hz hr
        go_enter Try.func10, Try.ntmps10
        go_wp2_with fail
        refine CK.out.mono ?_
        rintro e w1 ⟨rfl, rfl⟩
        go_wp2_with fail
        refine HP.out.mono ?_
        rintro e w2 ⟨rfl, hu2, hc2⟩
        have HX := Lib.hid (HR.out _ hu2 hc2)
        have HC := Lib.hid (hc2.toF HB.out)
        clear hu2 hc2
        go_wp2
        go_ret
        exact ⟨rfl, _, HX.out, HC.out⟩
    · have c17 := hu.cl
      have f17 := hu.fz 17
      have q : (bits .and .u64 v 2 == 0) = decide (v / 2 % 2 = 0) := by
        rw [u64_and_2 v hv]
        by_cases hq : v / 2 % 2 = 0
        · rw [decide_eq_true hq, beq_iff_eq]; omega
        · rw [decide_eq_false hq, beq_eq_false_iff_ne]; omega
      have e0 : uartStore s 4 v = { s with lost := s.lost && decide (v / 2 % 2 = 0) } := rfl
      rw [e0]
      generalize decide (v / 2 % 2 = 0) = X at *
      have HR : Hid (∀ L, UartAt (w.setCell ⟨b, 17, none⟩ (.bool L)) b F { s with lost := L }) := Lib.hid (fun L => ⟨hb, fun k hk => by have := hF k hk; simpa using this, cm, p, la, pg, hu.sl L, h16, hcm, hla, hin, hpg.keep (fun k hk hn => Below.heap_setCell _ _ _ _ hn) (fun k hk => hk), hout, hpl⟩)
      obtain ⟨zs, os, lost, may⟩ := s
      clear hu h16 hcm hla hin hpg hout hpl hF
      dsimp only at c17 HR ⊢
      cases lost
      · go_enter Try.func10, Try.ntmps10
        go_wp2_with fail
        refine CK.out.mono ?_
        rintro e w1 ⟨rfl, rfl⟩
        go_wp2
        go_ret
        exact ⟨rfl, F, HR.out false, ((ChgB.refl b w).set _ _).toF HB.out⟩
      · go_enter Try.func10, Try.ntmps10
        go_wp2_with fail
        refine CK.out.mono ?_
        rintro e w1 ⟨rfl, rfl⟩
        go_wp2
        go_ret
        exact ⟨rfl, F, by simpa using HR.out X, ((ChgB.refl b w).set _ _).toF HB.out⟩
    · have c18 := hu.cy
      have f18 := hu.fz 18
      have q : (bits .and .u64 v 1 != 0) = decide (v % 2 = 1) := by
        rw [u64_and_1 v hv]
        by_cases hq : v % 2 = 1
        · rw [decide_eq_true hq, bne_iff_ne]; omega
        · rw [decide_eq_false hq, bne_eq_false_iff_eq]; omega
      have e0 : uartStore s 8 v = { s with raises := decide (v % 2 = 1) } := rfl
      rw [e0]
      generalize decide (v % 2 = 1) = X at *
      have HR : Hid (UartAt (w.setCell ⟨b, 18, none⟩ (.bool X)) b F { s with raises := X }) := Lib.hid (⟨hb, fun k hk => by have := hF k hk; simpa using this, cm, p, la, pg, hu.sy X, h16, hcm, hla, hin, hpg.keep (fun k hk hn => Below.heap_setCell _ _ _ _ hn) (fun k hk => hk), hout, hpl⟩)
      clear hu h16 hcm hla hin hpg hout hpl hF
      go_enter Try.func10, Try.ntmps10
      go_wp2_with fail
      refine CK.out.mono ?_
      rintro e w1 ⟨rfl, rfl⟩
      go_wp2
      go_ret
      exact ⟨rfl, F, HR.out, ((ChgB.refl b w).set _ _).toF HB.out⟩
    · have e0 : uartStore s 12 v = s := rfl
      rw [e0]
      clear hu h16 hcm hla hin hpg hout hpl hF
      go_enter Try.func10, Try.ntmps10
      go_wp2_with fail
      refine CK.out.mono ?_
      rintro e w1 ⟨rfl, rfl⟩
      go_wp2
      go_ret
      exact ⟨rfl, F, HA.out, (ChgB.refl b w).toF HB.out⟩
  · rw [if_neg hr]
    have HB := Lib.hid h.1
    generalize accE 16 off width = r at *
    have q : (r != 0) = true := by rw [bne_iff_ne]; exact hr
    clear hr h ho
    go_enter Try.func10, Try.ntmps10
    go_wp2_with fail
    refine CK.out.mono ?_
    rintro e w1 ⟨rfl, rfl⟩
    go_wp2
    go_ret
    exact ⟨rfl, F, HA.out, (ChgB.refl b w).toF HB.out⟩

set_option maxHeartbeats 4000000 in
theorem uartComeOK : UartComeOK := by
  intro b F s z w h hz
  obtain ⟨hb, hF, cm, p, la, pg, hu, h16, hcm, hla, hin, hpg, hout, hpl⟩ := h
  have HB := Lib.hid hb
  have c16 := hu.cn
  have hcml := hu.2.1
  unfold uartCome
  by_cases hn : s.inn.length < 16
  · rw [if_pos hn, if_pos hn]
    have H1 : Hid (UBox (w.setCell ⟨b, s.inn.length, none⟩ (.int .u8 z)).drew b (cm.set s.inn.length z) s.inn.length s.lost s.raises p la s.out.length) := Lib.hid (hu.sc _ hn z)
    have HR : Hid (∀ w', UBox w' b (cm.set s.inn.length z) ((s.inn.length + 1 : Nat) : Int) s.lost s.raises p la s.out.length → ChgB b w w' → UartAt w' b F { s with inn := s.inn ++ [z] }) := Lib.hid (fun w' hu' hc => by
      refine ⟨hb, fun k hk => Nat.lt_of_lt_of_le (hF k hk) hc.size, _, p, la, pg, by simpa using hu', by simp; omega, ?_, hla, ?_, hpg.keep (fun k hk hn => hc.block k (hF k hk) hn) (fun k hk => hk), hout, hpl⟩
      · intro y hy
        rcases List.mem_or_eq_of_mem_set hy with h | h
        · exact hcm y h
        · exact h ▸ ⟨hz.1, by omega⟩
      · show s.inn ++ [z] = _
        rw [show (({ s with inn := s.inn ++ [z] } : UartS).inn).length = s.inn.length + 1 by simp, List.take_succ_eq_append_getElem (by simp; omega), List.take_set_of_le (Nat.le_refl _), List.getElem_set_self, ← hin])
    have cc := hu.c s.inn.length hn
    have ff := hu.fz s.inn.length
    have q : ((s.inn.length : Int) == 16) = false := by rw [beq_eq_false_iff_ne]; omega
    have HS : Hid (w.drew.cell? ⟨b, 16, none⟩ = some (.int .i64 (s.inn.length : Int))) := Lib.hid c16
    have HS1 := Lib.hid H1.out.cn
    have HC : Hid (ChgB b w (w.setCell ⟨b, s.inn.length, none⟩ (.int .u8 z)).drew) := Lib.hid ((ChgB.refl b w).set _ _).drew
    have k1 : (s.inn.length : Int) < 16 := by omega
    have e4 : IntKind.i64.wrap ((s.inn.length : Int) + 1) = (s.inn.length : Int) + 1 := IntWalk.i64_in _ (by omega)
    generalize s.inn.length = m at *
    clear hu h16 hcm hla hin hpg hout hpl hF
    go_enter Try.func12, Try.ntmps12
    go_wp2
    refine wp_region_held_drew (S := fun W => W.cell? ⟨b, 16, none⟩ = some (.int .i64 (m : Int))) (by kernel_rfl) HS.out (fun hHeld => ?_)
    refine tk 0 hHeld fun _ => ?_
    refine tk 1 hHeld fun _ => ?_
    refine tk 2 hHeld fun _ => ?_
    refine tk 3 hHeld fun _ => ?_
    refine tk 4 hHeld fun _ => ?_
    refine tk 5 hHeld fun _ => ?_
    refine tk 6 hHeld fun _ => ?_
    refine tk 7 hHeld fun _ => ?_
    refine tk 8 hHeld fun _ => ?_
    refine held_call 9 (by kernel_rfl) rfl (by rfl) (fun K hK => ?_)
    go_simp
    refine hK.out _ _ HS1.out (fun hHeld => ?_)
    clear hK K
    refine wpAnyH_done (by kernel_rfl) ?_ _
    clear hHeld
    obtain ⟨h1, h2⟩ := And.intro H1.out HC.out
    clear H1 HC HS1 HS c16 cc ff
    generalize (w.setCell ⟨b, m, none⟩ (.int .u8 z)).drew = w2 at *
    have HU := Lib.hid h1
    have HC := Lib.hid h2
    have d1 := h1.cn
    have d2 := h1.fz 16
    clear h1 h2
    go_wp2
    go_ret
    exact ⟨rfl, F, HR.out _ (HU.out.sn _) (HC.out.set _ _), (HC.out.set _ _).toF HB.out⟩
  · rw [if_neg hn, if_neg hn]
    have q : ((s.inn.length : Int) == 16) = true := by rw [beq_iff_eq]; omega
    have c17 := hu.cl
    have f17 := hu.fz 17
    have HR : Hid (UartAt (w.setCell ⟨b, 17, none⟩ (.bool true)) b F { s with lost := true }) := Lib.hid (⟨hb, fun k hk => by have := hF k hk; simpa using this, cm, p, la, pg, hu.sl true, h16, hcm, hla, hin, hpg.keep (fun k hk hn => Below.heap_setCell _ _ _ _ hn) (fun k hk => hk), hout, hpl⟩)
    clear hu h16 hcm hla hin hpg hout hpl hF hn
    go_enter Try.func12, Try.ntmps12
    go_wp2
    go_ret
    exact ⟨rfl, F, HR.out, ((ChgB.refl b w).set _ _).toF HB.out⟩

theorem uartNilOK : UartNilOK := by
  refine ⟨fun off width w => ?_, fun off width v w => ?_, fun z w => ?_, fun w => ?_, fun w => ?_⟩
  · go_enter Try.func7, Try.ntmps7
    go_wp2
    go_ret2
    exact ⟨rfl, Below.refl _ _⟩
  · go_enter Try.func10, Try.ntmps10
    go_wp2
    go_ret
    exact ⟨rfl, Below.refl _ _⟩
  · go_enter Try.func12, Try.ntmps12
    go_wp2
    go_ret
    exact ⟨rfl, Below.refl _ _⟩
  · go_enter Try.func16, Try.ntmps16
    go_wp2
    go_ret
    exact ⟨⟨_, _, rfl⟩, Below.refl _ _⟩
  · go_enter Try.func14, Try.ntmps14
    go_wp2
    go_ret
    exact ⟨rfl, Below.refl _ _⟩
theorem uartRead_any (w : World) : Calls Try.prog 17 #[] w fun e w' => e = .returned (.int .u64 7) ∧ Below w.heap.size w w' := by
  obtain ⟨Z, hZ, hz1⟩ := uart_zero
  have HA0 := UartAt.zero w
  have HB0 := Lib.hid ((Below.refl w.heap.size w).alloc (Nat.le_refl _) uartZ)
  rw [hZ] at HA0 HB0
  have HA := Lib.hid HA0
  have HC := Lib.hid (uartComeOK w.heap.size _ _ 7 _ HA0 (by decide))
  have HL := Lib.hid (fun F W (h : UartAt W w.heap.size F ⟨[7], [], false, false⟩) => uartLoadOK w.heap.size F _ 0 4 W h ⟨by decide, by decide⟩)
  clear HA0 hZ
  go_enter Try.func17, Try.ntmps17
  go_wp2_with fail
  refine HC.out.mono ?_
  rintro e w1 ⟨rfl, F, h1, hc⟩
  have H1 := Lib.hid h1
  have HB1 := Lib.hid (HB0.out.trans (hc.below (fun k hk => by rw [hk]; exact Nat.le_refl _) HB0.out.size))
  have HF := Lib.hid (hc.lo (B := w.heap.size) (fun k hk => by rw [hk]; exact Nat.le_refl _) HB0.out.size)
  clear h1 hc
  go_wp2_with fail
  refine (HL.out F _ H1.out).mono ?_
  rintro e w2 ⟨rfl, F2, h2, hc⟩
  have HB2 := Lib.hid (HB1.out.trans (hc.below HF.out HB1.out.size))
  clear h2 hc
  go_wp2
  go_ret
  exact ⟨rfl, HB2.out⟩
theorem awake17 : Awake17 := by
  intro w
  obtain ⟨Z, hZ, hz1⟩ := uart_zero
  have HA0 := UartAt.zero w
  have HB0 := Lib.hid ((Below.refl w.heap.size w).alloc (Nat.le_refl _) uartZ)
  rw [hZ] at HA0 HB0
  have HC := Lib.hid (uartComeOK w.heap.size _ _ 7 _ HA0 (by decide))
  have HR := Lib.hid (fun w => uartRead_any w)
  clear HA0 hZ
  go_enter Try.func6, Try.ntmps6
  go_wp2_with fail
  refine HC.out.mono ?_
  rintro e w1 ⟨rfl, F, h1, hc⟩
  have HB1 := Lib.hid (HB0.out.trans (hc.below (fun k hk => by rw [hk]; exact Nat.le_refl _) HB0.out.size))
  clear h1 hc
  go_wp2_with fail
  refine (HR.out _).mono ?_
  rintro e w2 ⟨rfl, hb⟩
  have HB2 := Lib.hid (HB1.out.trans (hb.mono HB1.out.size))
  clear hb
  go_wp2
  go_ret
  exact ⟨rfl, HB2.out⟩
end Go.Proofs.Ytjilkifecdigfaa
