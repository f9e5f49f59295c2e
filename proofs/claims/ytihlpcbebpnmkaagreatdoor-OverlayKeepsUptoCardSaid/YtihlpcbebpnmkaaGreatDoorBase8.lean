/-
  Base, part 8: what the proofs of this claim lean on.
-/
import Derived.Test.YtihlpcbebpnmkaaGreatDoorBase1
import Derived.Test.YtihlpcbebpnmkaaGreatDoorBase7
import Derived.Test.YtihlpcbebpnmkaaGreatDoorBase3
import Derived.Test.YtihlpcbebpnmkaaGreatDoorBase4
import Derived.Lib.SlBuf
import Derived.Test.YtihlpcbebpnmkaaGreatDoorBase2
import Derived.OwnWalk
import Derived.BigQuiet
import Derived.Test.YtihlpcbebpnmkaaGreatDoorBase5
import Derived.Deep.DrawnRows

/-! Layer 3: which property, or which node right below, has a name. -/
namespace Go.Proofs.YtihlpcbebpnmkaaGreatDoor
open Go.RowKit
set_option linter.unusedVariables false
set_option linter.unusedSimpArgs false

set_option maxHeartbeats 1000000 in
theorem reffind_any (n : Nd) (s : ByteArray) (w : World) (hin : n.In w w.heap.size) (r : Int) (hr : r = idxOf (n.props.map PV.name) s) :
    Calls Tryz.prog 11 #[n.val, .string s] w fun e w' => e = .returned (.int .i64 r) ∧ Below w.heap.size w w' := by
  obtain ⟨nm, pa, pc, ps, ka, kc, ks⟩ := n
  have HI := Lib.hid hin
  have HR := Lib.hid hr
  obtain ⟨hl, hm⟩ : ps.length ≤ pc ∧ pc ≤ 9223372036854775807 := hin.plen
  have HM := Lib.hid (show (ps.map PV.name).length = ps.length from List.length_map _)
  clear hin hr
  show Calls _ _ #[.agg #[.string nm, .slice pa ps.length pc, .slice ka ks.length kc], .string s] _ _
  go_enter Tryz.func11, Tryz.ntmps11
  go_wp2_with fail
  go_loop [9] (fun i => ∃ k : Nat, k ≤ ps.length ∧ i = .int .i64 k ∧ Missed (ps.map PV.name) s k) (fun i => ps.length - (intOf i).toNat)
  case atStart => exact ⟨0, Nat.zero_le _, rfl, Missed.zero _ _⟩
  case round =>
    obtain ⟨k, hk, rfl, hmiss⟩ := hrel
    have HA := Lib.hid hmiss
    clear hmiss
    by_cases hlt : k < ps.length
    · have HB := Lib.hid ((Below.refl w.heap.size w).alloc (Nat.le_refl _) (.cells #[Value.string nm, .slice pa ps.length pc, .slice ka ks.length kc] 27))
      obtain ⟨b, o, e, hb, c0, c1⟩ := (HI.out.under HB.out).pcell (i := k) hlt
      obtain rfl : pa = _ := e
      replace c0 : _ = some (Value.string ps[k].name) := c0
      clear c1
      have hxm : Hid ((ps.map PV.name)[k]'(by rw [HM.out]; exact hlt) = ps[k].name) := List.getElem_map _
      obtain ⟨x, hx⟩ : ∃ x, x = ps[k].name := ⟨_, rfl⟩
      rw [← hx] at c0 hxm
      clear hx
      by_cases hxs : x = s
      · subst hxs
        obtain rfl : r = k := by rw [HR.out]; exact HA.out.hit _ hxm.out
        go_wp2
        go_ret
        exact ⟨rfl, HB.out⟩
      · have hne := str_ne hxs
        have HF := Lib.hid (HA.out.succ (by rw [HM.out]; exact hlt) (by rw [hxm.out]; exact hxs))
        clear hxs
        go_wp2
        go_round
        case rel => exact ⟨k + 1, by omega, by go_num, HF⟩
        case measure => simp [intOf]; omega
    · obtain rfl : r = -1 := by rw [HR.out]; exact HA.out.all (by rw [HM.out]; exact hlt)
      go_wp2
      go_ret
      exact ⟨rfl, (Below.refl _ _).alloc (Nat.le_refl _) _⟩
set_option maxHeartbeats 1000000 in
theorem refkid_any (n : Nd) (s : ByteArray) (w : World) (hin : n.In w w.heap.size) (r : Int) (hr : r = idxOf (n.kids.map Nd.name) s) :
    Calls Tryz.prog 20 #[n.val, .string s] w fun e w' => e = .returned (.int .i64 r) ∧ Below w.heap.size w w' := by
  obtain ⟨nm, pa, pc, ps, ka, kc, ks⟩ := n
  have HI := Lib.hid hin
  have HR := Lib.hid hr
  obtain ⟨hl, hm⟩ : ks.length ≤ kc ∧ kc ≤ 9223372036854775807 := hin.klen
  have HM := Lib.hid (show (ks.map Nd.name).length = ks.length from List.length_map _)
  clear hin hr
  show Calls _ _ #[.agg #[.string nm, .slice pa ps.length pc, .slice ka ks.length kc], .string s] _ _
  go_enter Tryz.func20, Tryz.ntmps20
  go_wp2_with fail
  go_loop [9] (fun i => ∃ k : Nat, k ≤ ks.length ∧ i = .int .i64 k ∧ Missed (ks.map Nd.name) s k) (fun i => ks.length - (intOf i).toNat)
  case atStart => exact ⟨0, Nat.zero_le _, rfl, Missed.zero _ _⟩
  case round =>
    obtain ⟨k, hk, rfl, hmiss⟩ := hrel
    have HA := Lib.hid hmiss
    clear hmiss
    by_cases hlt : k < ks.length
    · have HB := Lib.hid ((Below.refl w.heap.size w).alloc (Nat.le_refl _) (.cells #[Value.string nm, .slice pa ps.length pc, .slice ka ks.length kc] 27))
      obtain ⟨b, o, e, hb, c0, c1, c2⟩ := (HI.out.under HB.out).kcell (i := k) hlt
      obtain rfl : ka = _ := e
      replace c0 : _ = some (Value.string ks[k].name) := c0
      clear c1 c2
      have hxm : Hid ((ks.map Nd.name)[k]'(by rw [HM.out]; exact hlt) = ks[k].name) := List.getElem_map _
      obtain ⟨x, hx⟩ : ∃ x, x = ks[k].name := ⟨_, rfl⟩
      rw [← hx] at c0 hxm
      clear hx
      by_cases hxs : x = s
      · subst hxs
        obtain rfl : r = k := by rw [HR.out]; exact HA.out.hit _ hxm.out
        go_wp2
        go_ret
        exact ⟨rfl, HB.out⟩
      · have hne := str_ne hxs
        have HF := Lib.hid (HA.out.succ (by rw [HM.out]; exact hlt) (by rw [hxm.out]; exact hxs))
        clear hxs
        go_wp2
        go_round
        case rel => exact ⟨k + 1, by omega, by go_num, HF⟩
        case measure => simp [intOf]; omega
    · obtain rfl : r = -1 := by rw [HR.out]; exact HA.out.all (by rw [HM.out]; exact hlt)
      go_wp2
      go_ret
      exact ⟨rfl, (Below.refl _ _).alloc (Nat.le_refl _) _⟩

theorem kid1_any (k : Nd) (s : ByteArray) (c : Nat) (w : World) (hc : w.cell? ⟨c, 0, none⟩ = some (.string s)) (r : Bool) (hr : (k.name.toList == s.toList) = r) :
    Calls Tryz.prog 44 #[k.val, .pointer (some ⟨c, 0, none⟩)] w fun e w' => e = .returned (.bool r) ∧ Below w.heap.size w w' := by
  obtain ⟨nm, pa, pc, ps, ka, kc, ks⟩ := k
  obtain rfl : (nm.toList == s.toList) = r := hr
  have hc1 : ∀ o, (w.alloc o).cell? ⟨c, 0, none⟩ = some (.string s) := fun o => Lib.cell?_alloc_some o hc
  clear hc
  show Calls _ _ #[.agg #[.string nm, .slice pa ps.length pc, .slice ka ks.length kc], .pointer (some ⟨c, 0, none⟩)] _ _
  go_enter Tryz.func44, Tryz.ntmps44
  go_wp2
  go_ret
  exact ⟨rfl, (Below.refl _ _).alloc (Nat.le_refl _) _⟩

set_option maxHeartbeats 1000000 in
theorem idxfunc_any (n : Nd) (s : ByteArray) (c : Nat) (w : World) (hin : n.In w w.heap.size) (hc : w.cell? ⟨c, 0, none⟩ = some (.string s)) (r : Int) (hr : r = idxOf (n.kids.map Nd.name) s) :
    Calls Tryz.prog 43 #[n.kv, .func (.func 44) #[] #[.pointer (some ⟨c, 0, none⟩)]] w fun e w' => e = .returned (.int .i64 r) ∧ Below w.heap.size w w' := by
  obtain ⟨nm, pa, pc, ps, ka, kc, ks⟩ := n
  have HI := Lib.hid hin
  have HR := Lib.hid hr
  have HC := Lib.hid hc
  have HL := Lib.hid (World.block_lt_of_cell? w _ hc)
  obtain ⟨hl, hm⟩ : ks.length ≤ kc ∧ kc ≤ 9223372036854775807 := hin.klen
  have HM := Lib.hid (show (ks.map Nd.name).length = ks.length from List.length_map _)
  clear hin hr hc
  show Calls _ _ #[.slice ka ks.length kc, .func (.func 44) #[] #[.pointer (some ⟨c, 0, none⟩)]] _ _
  go_enter Tryz.func43, Tryz.ntmps43
  go_wp2_with fail
  go_loopw [8] (fun i wr => ∃ k : Nat, k ≤ ks.length ∧ i = .int .i64 k ∧ Missed (ks.map Nd.name) s k ∧ Below w.heap.size w wr) (fun i _ => ks.length - (intOf i).toNat)
  case atStart => exact ⟨0, Nat.zero_le _, rfl, Missed.zero _ _, Below.refl _ _⟩
  case round =>
    obtain ⟨k, hk, rfl, hmiss, hb⟩ := hrel
    have HA := Lib.hid hmiss
    have HB := Lib.hid hb
    clear hmiss hb
    by_cases hlt : k < ks.length
    · obtain ⟨b, o, e, hb, c0, c1, c2⟩ := (HI.out.under HB.out).kcell (i := k) hlt
      obtain rfl : ka = _ := e
      replace c0 : _ = some (Value.string ks[k].name) := c0
      replace c1 : _ = some (Value.slice ks[k].pa ks[k].props.length ks[k].pc) := c1
      replace c2 : _ = some (Value.slice ks[k].ka ks[k].kids.length ks[k].kc) := c2
      have hxm : Hid ((ks.map Nd.name)[k]'(by rw [HM.out]; exact hlt) = ks[k].name) := List.getElem_map _
      have HK := Lib.hid (fun (r : Bool) (hr : (ks[k].name.toList == s.toList) = r) => kid1_any ks[k] s c wr ((HB.out.cell HL.out).trans HC.out) r hr)
      by_cases hxs : ks[k].name = s
      · have C := Lib.hid (HK.out true (by rw [hxs]; simp))
        have HX := Lib.hid hxs
        clear hxs
        obtain rfl : r = k := by rw [HR.out]; exact HA.out.hit _ (hxm.out.trans HX.out)
        go_wp2_with (go_at_call 44; refine C.out.mono ?_; rintro e w' ⟨rfl, hb'⟩)
        go_ret
        exact ⟨rfl, HB.out.trans ((by assumption : Below wr.heap.size wr _).mono HB.out.size)⟩
      · have C := Lib.hid (HK.out false (str_ne hxs))
        have HF := Lib.hid (HA.out.succ (by rw [HM.out]; exact hlt) (by rw [hxm.out]; exact hxs))
        clear hxs
        go_wp2_with (go_at_call 44; refine C.out.mono ?_; rintro e w' ⟨rfl, hb'⟩)
        go_roundw
        case rel => exact ⟨k + 1, by omega, by go_num, HF, HB.out.trans ((by assumption : Below wr.heap.size wr _).mono HB.out.size)⟩
        case measure => simp [intOf]; omega
    · obtain rfl : r = -1 := by rw [HR.out]; exact HA.out.all (by rw [HM.out]; exact hlt)
      go_wp2
      go_ret
      exact ⟨rfl, HB.out⟩

set_option maxHeartbeats 1000000 in
theorem kid_any (n : Nd) (s : ByteArray) (w : World) (hin : n.In w w.heap.size) (r : Int) (hr : r = idxOf (n.kids.map Nd.name) s) :
    Calls Tryz.prog 27 #[n.val, .string s] w fun e w' => e = .returned (.int .i64 r) ∧ Below w.heap.size w w' := by
  obtain ⟨nm, pa, pc, ps, ka, kc, ks⟩ := n
  have HI := Lib.hid hin
  have HR := Lib.hid hr
  clear hin hr
  show Calls _ _ #[.agg #[.string nm, .slice pa ps.length pc, .slice ka ks.length kc], .string s] _ _
  go_enter Tryz.func27, Tryz.ntmps27
  go_wp2_with fail
  have HB := Lib.hid (((Below.refl w.heap.size w).alloc (Nat.le_refl _) (.cells #[Value.string nm, .slice pa ps.length pc, .slice ka ks.length kc] 27)).alloc (by simp) (.cells #[Value.string s] 9))
  refine (idxfunc_any _ s (w.heap.size + 1) _ ((HI.out.under HB.out).more HB.out.size) (World.cell?_alloc2_new _ _ _ _) r HR.out).mono ?_
  rintro e w' ⟨rfl, hb⟩
  have HB2 := Lib.hid (HB.out.trans (hb.mono HB.out.size))
  clear hb
  go_wp2
  go_ret
  exact ⟨rfl, HB2.out⟩
end Go.Proofs.YtihlpcbebpnmkaaGreatDoor

/-! What a value says: cells, a text, texts, the one cell of a property: the document's answers. -/
namespace Go.Proofs.YtihlpcbebpnmkaaGreatDoor
open Go.RowKit
set_option linter.unusedVariables false
set_option linter.unusedSimpArgs false

theorem info_u32 : (Tryz.prog.info? 22).map (fun i => (i.zero, i.size, i.bytes)) = some (some (.int .u32 0), 1, 4) := by kernel_rfl
theorem info_str : (Tryz.prog.info? 9).map (fun i => (i.zero, i.size, i.bytes)) = some (some (.string ⟨#[]⟩), 1, 16) := by kernel_rfl

/-- append of one value, laid by the call itself. -/
theorem app_lit {t e : TypeId} {i0 : TypeInfo} {z : Value} {bytes : Nat} (ht : Tryz.prog.underlying t = some (.slice e)) (hi : Tryz.prog.info? e = some i0) (hz : i0.zero = some z) (hs1 : i0.size = 1) (hby : i0.bytes = bytes) (hzs : z.cells.size = 1)
    {w : World} {B n : Nat} {v : Value} {xs : List Value} (h : w.ownsRow B e 1 v n xs) (x : Value) (hx : x.oneCell' = true) (hbig : (n + 1) * bytes ≤ 140737488355328) (hlen : n + 1 ≤ 140737488355328) (hB : B ≤ w.heap.size) (ty : TypeId) :
    ∃ A' c' w', (Builtin.append_ #[t, t] ty #[v, .slice (some ⟨w.heap.size, 0, none⟩) 1 1]).run Tryz.prog (w.alloc (.cells #[x] e)) = .ok (.slice A' (n + 1) c') w' ∧ w'.ownsRow B e 1 (.slice A' (n + 1) c') (n + 1) (xs ++ [x]) ∧ Below B w w' := by
  have hl : xs.length = n := by have := h.1; omega
  have h1 : (w.alloc (.cells #[x] e)).ownsRow B e 1 v xs.length xs := by rw [hl]; exact h.alloc _
  have hc : Cel (w.alloc (.cells #[x] e)) (w.heap.size + 1) (some ⟨w.heap.size, 0, none⟩) 1 [x] := ⟨rfl, fun _ => ⟨w.heap.size, 0, rfl, Nat.lt_succ_self _, fun i hi => by
    obtain rfl : i = 0 := by omega
    exact World.cell?_alloc_new _ _ _ _⟩⟩
  obtain ⟨v', w', r, g1, g2, g3⟩ := app_cel ht hi hz hs1 hby hzs 1 h1 hc (fun u hu => by rw [List.mem_singleton.1 hu]; exact hx) (by rw [hl]; simpa using hbig) (by rw [hl]; simpa using hlen) (by simp; omega) ty
  rw [List.length_append, hl] at g1
  have g1' : w'.ownsRow B e 1 v' (n + 1) (xs ++ [x]) := g1
  obtain ⟨A', c', rfl, _⟩ := owned_cel g1'
  exact ⟨A', c', w', r, g1', ((Below.refl B w).alloc hB (.cells #[x] e)).grown g2 (by simp; omega) (fun q hq => (h1.lt q hq).1)⟩

/-- The cells of a value. -/
def cellV (zs : List Int) (i : Nat) : Value := .int .u32 (numTo zs (4 * i) 4)
def cellRow (zs : List Int) (k : Nat) : List Value := (List.range k).map (cellV zs)
theorem cellRow_next (zs : List Int) (k : Nat) : cellRow zs (k + 1) = cellRow zs k ++ [cellV zs k] := by
  unfold cellRow; rw [List.range_succ, List.map_append]; rfl
def CellsOut (w w' : World) (n : Nat) (zs : List Int) (e : Ending) : Prop :=
  (n % 4 ≠ 0 → e = .returned (.tuple #[.slice none 0 0, .int .i64 4])) ∧ (n % 4 = 0 → ∃ A c, e = .returned (.tuple #[.slice A (n / 4) c, .int .i64 0]) ∧ w'.ownsRow w.heap.size 22 1 (.slice A (n / 4) c) (n / 4) (cellRow zs (n / 4)))

theorem numTo_u32 {w : World} {B n : Nat} {A : Option Addr} {zs : List Int} (hs : Shows w B A n zs) (a : Nat) : 0 ≤ numTo zs a 4 ∧ numTo zs a 4 ≤ 4294967295 := by
  have h := numTo_bound zs a hs.byte 4
  have e : (256 : Int) ^ 4 = 4294967296 := by decide
  omega

set_option maxRecDepth 20000 in
set_option maxHeartbeats 4000000 in
theorem refcells_any (A : Option Addr) (n c : Nat) (zs : List Int) (w : World) (hs : Shows w w.heap.size A n zs) (hn : n ≤ 140737488351232) (hnc : n ≤ c) (hc : c ≤ 9223372036854775807) :
    Calls Tryz.prog 31 #[.slice A n c] w fun e w' => CellsOut w w' n zs e ∧ Below w.heap.size w w' := by
  have HS := Lib.hid hs
  have HC := Lib.hid (And.intro hnc hc)
  clear hs hnc hc
  by_cases h4 : n % 4 = 0
  · have q1 : (((n : Int) % 4) != 0) = false := by rw [bne_eq_false_iff_eq]; omega
    have H4 := Lib.hid h4
    have info := info_any info_u32
    clear h4
    go_enter Tryz.func31, Tryz.ntmps31
    go_wp2_with fail
    go_loopw [4, 5] (fun out i wr => ∃ k a : Nat, Hid (a = 4 * k ∧ a ≤ n) ∧ i = .int .i64 a ∧ (∃ Ao co, out = .slice Ao k co ∧ wr.ownsRow w.heap.size 22 1 (.slice Ao k co) k (cellRow zs k)) ∧ Below w.heap.size w wr) (fun _ i _ => n - (intOf i).toNat)
    case atStart => exact ⟨0, 0, Lib.hid ⟨rfl, Nat.zero_le _⟩, rfl, ⟨none, 0, rfl, World.ownsRow_nil _ _ _ _⟩, Below.refl _ _⟩
    case round =>
      obtain ⟨k, a, HA, rfl, ⟨Ao, co, rfl, hown⟩, hb⟩ := hrel
      have HB := Lib.hid hb
      have HO := Lib.hid hown
      by_cases hlt : a < n
      · have ha4 : a + 4 ≤ n := by have := HA.out; have := H4.out; omega
        have CN := Lib.hid (number_yes A n c 4 a zs wr w.heap.size (HS.out.below hb) ha4 (by omega) (by omega) (by omega))
        have hnum := numTo_u32 HS.out a
        obtain ⟨x, hx⟩ : ∃ x, numTo zs a 4 = x := ⟨_, rfl⟩
        rw [hx] at CN hnum
        have HX : Hid (cellV zs k = .int .u32 x) := Lib.hid (by rw [← hx, cellV, ← HA.out.1])
        have hcv : IntKind.u32.wrap x = x := IntWalk.u32_in _ hnum
        obtain ⟨i0, hi, hz, hs1, hby⟩ := info
        obtain ⟨A', c', w', r, g1, g2⟩ := app_lit Tryz.underlying75 hi hz hs1 hby rfl hown (.int .u32 x) rfl (by have := HA.out; omega) (by have := HA.out; omega) hb.size 75
        have HR := Lib.hid (And.intro g1 (hb.trans g2))
        clear hx hi hz hs1 hby g1 g2 hown hb
        go_wp2_with fail
        refine CN.out.mono ?_
        rintro e w2 ⟨rfl, rfl⟩
        go_wp2_with (at_builtin; refine Lib.wpList_append_run_sl _ rfl _ _ _ rfl _ _ rfl rfl r ?_)
        go_roundw
        case rel => exact ⟨k + 1, a + 4, Lib.hid ⟨by have := HA.out; omega, ha4⟩, by go_num, ⟨A', c', rfl, by rw [cellRow_next, HX.out]; exact HR.out.1⟩, HR.out.2⟩
        case measure => simp [intOf]; omega
      · have HE : Hid (k = n / 4) := Lib.hid (by have := HA.out; omega)
        clear hown hb
        go_wp2
        go_ret2
        exact ⟨⟨fun h => absurd H4.out h, fun _ => ⟨Ao, co, by rw [← HE.out]; rfl, by rw [← HE.out]; exact HO.out⟩⟩, HB.out⟩
  · have q1 : (((n : Int) % 4) != 0) = true := by rw [bne_iff_ne]; omega
    have H4 := Lib.hid h4
    clear h4
    go_enter Tryz.func31, Tryz.ntmps31
    go_wp2
    go_ret2
    exact ⟨⟨fun _ => rfl, fun h => absurd h H4.out⟩, Below.refl _ _⟩

/-- The text that a value is. -/
noncomputable def textV (zs : List Int) : Option (List Int) := match textFrom zs 0 with
  | none => none
  | some s => if s.length + 1 = zs.length then some s else none
def TextVOut (e : Ending) (o : Option (List Int)) : Prop := e = .returned (.tuple (match o with | none => #[.string ⟨#[]⟩, .int .i64 4] | some s => #[.string (strOfNums s), .int .i64 0]))
theorem strOf_size6 (s : List Int) : (strOfNums s).size = s.length := by
  show (strOfNums s).data.toList.length = s.length
  rw [strOfNums_data, List.length_map]

/-! ### Texts -/
noncomputable def textsGo (zs : List Int) : Nat → Nat → List (List Int)
  | 0, _ => []
  | f + 1, a => if a < zs.length then (match textFrom zs a with | none => [] | some s => s :: textsGo zs f (a + s.length + 1)) else []
/-- The texts that a value is. -/
noncomputable def textsV (zs : List Int) : Option (List (List Int)) := if 0 < zs.length ∧ zs.getD (zs.length - 1) 0 ≠ 0 then none else some (textsGo zs zs.length 0)
abbrev strRow (l : List (List Int)) : List Value := l.map fun s => Value.string (strOfNums s)
def TextsOut (w w' : World) (zs : List Int) (e : Ending) : Prop :=
  (textsV zs = none → e = .returned (.tuple #[.slice none 0 0, .int .i64 4])) ∧ (∀ l, textsV zs = some l → ∃ A c, e = .returned (.tuple #[.slice A l.length c, .int .i64 0]) ∧ w'.ownsRow w.heap.size 9 1 (.slice A l.length c) l.length (strRow l))
theorem text_there {zs : List Int} {a : Nat} (h : zs.getD (zs.length - 1) 0 = 0) (ha : a < zs.length) : ∃ s, textFrom zs a = some s := by
  rw [textFrom, if_pos]
  · exact ⟨_, rfl⟩
  · refine List.mem_of_getElem? (i := zs.length - 1 - a) ?_
    rw [List.getElem?_drop, show a + (zs.length - 1 - a) = zs.length - 1 by omega, List.getElem?_eq_getElem (by omega)]
    simp only [List.getD, List.getElem?_eq_getElem (show zs.length - 1 < zs.length by omega), Option.getD_some] at h
    rw [h]

end Go.Proofs.YtihlpcbebpnmkaaGreatDoor

/-! Layer 11: a cell of bytes of the call's own is set, or raised. -/
namespace Go.Proofs.YtihlpcbebpnmkaaGreatDoor
open Go.RowKit
set_option linter.unusedVariables false
set_option linter.unusedSimpArgs false

set_option maxRecDepth 20000 in
set_option maxHeartbeats 4000000 in
theorem set_any (D : Nat → Prop) (A : Option Addr) (n c : Nat) (q v : Int) (w : World) (h : SlB w D (.slice A n c)) (hq : -9223372036854775808 ≤ q ∧ q ≤ 9223372036854775807) (hv : 0 ≤ v ∧ v ≤ 4294967295) :
    Calls Tryz.prog 86 #[.slice A n c, .int .i64 q, .int .u32 v] w fun e w' => (∃ r : Bool, e = .returned (.bool r)) ∧ Wrote D w w' := by
  obtain ⟨zs, hs⟩ := h.shows
  obtain ⟨hnc, hc, hn⟩ := h.caps
  by_cases hin : 0 ≤ q ∧ 4 ≤ (n : Int) - q
  · obtain ⟨a, rfl⟩ : ∃ a : Nat, q = (a : Int) := ⟨q.toNat, by omega⟩
    have ha : a + 4 ≤ n := by omega
    have CG := Lib.hid (get_yes A n c a zs w _ hs ha (by omega) hnc (by unfold maxLen; exact hc))
    have CP := Lib.hid (fun W => put_any none 0 0 [] v W (Shows.nil _ _) (by omega) hv.1 hv.2)
    have r1 := run_from (P := Tryz.prog) Tryz.underlying59 size_u8 A n c (a : Int) a rfl (by omega)
    have hcut : cutAt A c a = A.map (·.add a) := by unfold cutAt; rw [if_neg (by omega)]
    obtain ⟨b, o, hA, hD, hbw, hcell⟩ : ∃ b o, A = some ⟨b, o, none⟩ ∧ D b ∧ b < w.heap.size ∧ ∀ i, i < n → w.frozen? ⟨b, o + i, none⟩ = false ∧ ∃ z, w.cell? ⟨b, o + i, none⟩ = some (.int .u8 z) ∧ 0 ≤ z ∧ z < 256 := by
      obtain ⟨A', n', c', e, _, _, _, h4⟩ := h
      simp only [Value.slice.injEq] at e
      obtain ⟨rfl, rfl, rfl⟩ := e
      exact h4 (by omega)
    subst hA
    have hcut2 : cutAt (some ⟨b, o, none⟩) c a = some ⟨b, o + a, none⟩ := by rw [hcut, Option.map_some, addr_add]
    rw [hcut2] at r1
    have HC := Lib.hid hcell
    have HD := Lib.hid hD
    have HBW := Lib.hid hbw
    have HN := Lib.hid (And.intro ha (And.intro hn (And.intro hnc hc)))
    obtain ⟨x, hx⟩ : ∃ x, numTo zs a 4 = x := ⟨_, rfl⟩
    rw [hx] at CG
    obtain ⟨na, hna⟩ : ∃ na, n - a = na := ⟨_, rfl⟩
    obtain ⟨ca, hca⟩ : ∃ ca, c - a = ca := ⟨_, rfl⟩
    rw [hna, hca] at r1
    have HNA := Lib.hid (show 4 ≤ na by omega)
    clear h hs hcell hD hbw hin hq hcut hcut2 hx hna hca
    go_enter Tryz.func86, Tryz.ntmps86
    go_wp2_with fail
    refine CG.out.mono ?_
    rintro e w2 ⟨rfl, rfl⟩
    go_wp2_with fail
    refine wp_region_held_drew (S := fun _ => True) (by kernel_rfl) trivial (fun hHeld => ?_)
    refine held_take 0 rfl (by kernel_rfl) (by kernel_rfl) (by kernel_rfl) (fun _ _ _ h => h) (by rfl) hHeld (v := ?_) (fun w hSw => ?_) (fun _ => ?_)
    rotate_left
    · ((try dsimp only at hSw); go_simp; (try with_reducible rfl))
    simp only [Act.put, List.setIfInBounds_toArray, List.set_cons_zero, List.set_cons_succ]
    refine held_take 1 rfl (by kernel_rfl) (by kernel_rfl) (by kernel_rfl) (fun _ _ _ h => h) (by rfl) hHeld (v := ?_) (fun w hSw => ?_) (fun _ => ?_)
    rotate_left
    · ((try dsimp only at hSw); go_simp; (try with_reducible rfl))
    simp only [Act.put, List.setIfInBounds_toArray, List.set_cons_zero, List.set_cons_succ]
    refine held_take 2 rfl (by kernel_rfl) (by kernel_rfl) (by kernel_rfl) (fun _ _ _ h => h) (by rfl) hHeld (v := ?_) (fun w hSw => ?_) (fun _ => ?_)
    rotate_left
    · ((try dsimp only at hSw); go_simp; (try with_reducible rfl))
    simp only [Act.put, List.setIfInBounds_toArray, List.set_cons_zero, List.set_cons_succ]
    refine held_take 3 rfl (by kernel_rfl) (by kernel_rfl) (by kernel_rfl) (fun _ _ _ h => h) (by rfl) hHeld (v := ?_) (fun w hSw => ?_) (fun _ => ?_)
    rotate_left
    · ((try dsimp only at hSw); go_simp; (try with_reducible rfl))
    simp only [Act.put, List.setIfInBounds_toArray, List.set_cons_zero, List.set_cons_succ]
    refine held_call 4 (by kernel_rfl) rfl (by rfl) (fun K hK => ?_)
    go_simp
    refine (CP.out _).mono ?_
    rintro e w3 ⟨A', c', rfl, hs3, h31, h32, hb3⟩
    have HB3 : Hid (Below w.heap.size w w3) := Lib.hid ((Below.refl _ w).drew.trans hb3)
    obtain ⟨b', o', rfl, hb', hcell'⟩ := hs3.at_ (by omega)
    have hlen : ([] ++ four v).length = 4 := hs3.1
    have HRUN : Hid ((Builtin.copy_ #[59, 59] 3 #[.slice (some ⟨b, o + a, none⟩) na ca, .slice (some ⟨b', o', none⟩) 4 c']).run Tryz.prog w3 = .ok (goInt (([] ++ four v).map (Value.int .u8)).length) (w3.setCells b (o + a) (([] ++ four v).map (Value.int .u8)))) := Lib.hid (run_copy_cells (P := Tryz.prog) w3 59 59 3 5 b (o + a) na ca ⟨b', o', none⟩ 4 c' _ Tryz.underlying59 (by kernel_rfl) (by rw [List.length_map, hlen]; exact (Nat.min_eq_left HNA.out).symm) (fun j u hj => by
        obtain ⟨hj1, hj2⟩ := List.getElem?_eq_some_iff.1 hj
        rw [List.length_map] at hj1
        rw [addr_add, hcell' j (by omega), ← hj2, List.getElem_map]
        congr 2
        simp only [List.getD, List.getElem?_eq_getElem hj1, Option.getD_some]) (fun j hj => by
        rw [List.length_map, hlen] at hj
        obtain ⟨_, z, hz, _⟩ := HC.out (a + j) (by have := HN.out.1; omega)
        rw [show o + a + j = o + (a + j) by omega, (HB3.out.cell (p := ⟨b, o + (a + j), none⟩) HBW.out), hz]
        rfl) (fun j hj => by
        rw [List.length_map, hlen] at hj
        obtain ⟨hf, _⟩ := HC.out (a + j) (by have := HN.out.1; omega)
        rw [show o + a + j = o + (a + j) by omega]
        exact (HB3.out.frozen (p := ⟨b, o + (a + j), none⟩) HBW.out).trans hf) (fun u hu => by
        obtain ⟨z, _, rfl⟩ := List.mem_map.1 hu
        rfl))
    have HW : Hid (Wrote D w (w3.setCells b (o + a) (([] ++ four v).map (Value.int .u8)))) := Lib.hid ((Wrote.of_below D HB3.out).trans (Wrote.setCells b _ _ _ HD.out (fun i hi => by
      rw [hlen] at hi
      obtain ⟨_, z, hz, _⟩ := HC.out (a + i) (by have := HN.out.1; omega)
      exact ⟨z, by rw [show o + a + i = o + (a + i) by omega]; exact (HB3.out.cell (p := ⟨b, o + (a + i), none⟩) HBW.out).trans hz⟩) hs3.2.1))
    clear hcell' hs3 hb3 hb'
    dsimp only
    refine hK.out _ _ trivial (fun hHeld => ?_)
    clear hK K
    refine held_call 5 (by kernel_rfl) rfl (by rfl) (fun K hK => ?_)
    refine Lib.wp_copy_run _ _ _ _ _ rfl _ _ rfl rfl HRUN.out ?_
    refine hK.out _ _ trivial (fun hHeld => ?_)
    clear hK K
    refine wpAnyH_done (by kernel_rfl) ?_ _
    clear hHeld
    go_wp2
    go_ret
    exact ⟨⟨_, rfl⟩, HW.out⟩
  · have CG := Lib.hid (get_no A n c q w hin (by omega) hq)
    have HW := Lib.hid (Wrote.refl D w)
    clear h hs hin
    go_enter Tryz.func86, Tryz.ntmps86
    go_wp2_with fail
    refine CG.out.mono ?_
    rintro e w2 ⟨rfl, rfl⟩
    go_wp2
    go_ret
    exact ⟨⟨_, rfl⟩, HW.out⟩

set_option maxRecDepth 20000 in
set_option maxHeartbeats 4000000 in
theorem raise_any (D : Nat → Prop) (A : Option Addr) (n c : Nat) (q v : Int) (w : World) (h : SlB w D (.slice A n c)) (hq : -9223372036854775808 ≤ q ∧ q ≤ 9223372036854775807) (hv : 0 ≤ v ∧ v ≤ 4294967295) :
    Calls Tryz.prog 59 #[.slice A n c, .int .i64 q, .int .u32 v] w fun e w' => (∃ r : Int, e = .returned (.int .i64 r)) ∧ Wrote D w w' := by
  obtain ⟨zs, hs⟩ := h.shows
  obtain ⟨hnc, hc, hn⟩ := h.caps
  have HW := Lib.hid (Wrote.refl D w)
  by_cases hin : 0 ≤ q ∧ 4 ≤ (n : Int) - q
  · obtain ⟨a, rfl⟩ : ∃ a : Nat, q = (a : Int) := ⟨q.toNat, by omega⟩
    have ha : a + 4 ≤ n := by omega
    have CG := Lib.hid (get_yes A n c a zs w _ hs ha (by omega) hnc (by unfold maxLen; exact hc))
    have CS := Lib.hid (fun u hu => set_any D A n c (a : Int) u w h hq hu)
    have hb := numTo_u32 hs a
    obtain ⟨x, hx⟩ : ∃ x, numTo zs a 4 = x := ⟨_, rfl⟩
    rw [hx] at CG hb
    clear h hs hin hx
    by_cases hg : 4294967294 < x + v
    · have e1 : IntKind.u64.wrap (x + v) = x + v := IntWalk.u64_in _ (by omega)
      have k1 : x + v > 4294967294 := hg
      have k2 : decide (x + v > 4294967294) = true := decide_eq_true hg
      go_enter Tryz.func59, Tryz.ntmps59
      go_wp2_with fail
      refine CG.out.mono ?_
      rintro e w2 ⟨rfl, rfl⟩
      go_wp2
      go_ret
      exact ⟨⟨_, rfl⟩, HW.out⟩
    · have e1 : IntKind.u64.wrap (x + v) = x + v := IntWalk.u64_in _ (by omega)
      have e2 : IntKind.u32.wrap (x + v) = x + v := IntWalk.u32_in _ (by omega)
      have k1 : ¬ (x + v > 4294967294) := hg
      have k2 : decide (x + v > 4294967294) = false := decide_eq_false hg
      go_enter Tryz.func59, Tryz.ntmps59
      go_wp2_with fail
      refine CG.out.mono ?_
      rintro e w2 ⟨rfl, rfl⟩
      go_wp2_with fail
      refine (CS.out (x + v) (by omega)).mono ?_
      rintro e w3 ⟨⟨r, rfl⟩, hw3⟩
      have HW3 := Lib.hid hw3
      clear hw3
      go_wp2
      go_ret
      exact ⟨⟨_, rfl⟩, HW3.out⟩
  · have CG := Lib.hid (get_no A n c q w hin (by omega) hq)
    clear h hs hin
    go_enter Tryz.func59, Tryz.ntmps59
    go_wp2_with fail
    refine CG.out.mono ?_
    rintro e w2 ⟨rfl, rfl⟩
    go_wp2
    go_ret
    exact ⟨⟨_, rfl⟩, HW.out⟩
end Go.Proofs.YtihlpcbebpnmkaaGreatDoor

/-! Layer 11: the program's raiseHandles. -/
namespace Go.Proofs.YtihlpcbebpnmkaaGreatDoor
open Go.RowKit
set_option linter.unusedVariables false
set_option linter.unusedSimpArgs false
attribute [local go_sem ↓] Go.wp_at_zero Go.wp_at_succ

theorem Wrote.blk {D : Nat → Prop} {w w' : World} (h : Wrote D w w') {g : Nat} (hg : g < w.heap.size) (hn : ¬ D g) : w'.heap[g]? = w.heap[g]? := h.chg.block g hg hn
theorem rh1_any (nm : ByteArray) (a : Option Addr) (n c : Nat) (w : World) :
    Calls Tryz.prog 58 #[.agg #[.string nm, .slice a n c]] w fun e w' => (∃ r : Bool, e = .returned (.bool r)) ∧ Below w.heap.size w w' := by
  go_enter Tryz.func58, Tryz.ntmps58
  go_wp2
  go_ret
  exact ⟨⟨_, rfl⟩, (Below.refl _ _).alloc (Nat.le_refl _) _⟩

set_option maxHeartbeats 1000000 in
theorem rhidx_any (pa : Option Addr) (pc : Nat) (ps : List PV) (w : World) (hp : PRow w w.heap.size pa ps) (hl : ps.length ≤ pc ∧ pc ≤ 9223372036854775807 ∧ ps.length * 40 ≤ 140737488351232) :
    Calls Tryz.prog 57 #[.slice pa ps.length pc, .func (.func 58) #[] #[]] w fun e w' => (∃ r : Int, e = .returned (.int .i64 r) ∧ -1 ≤ r ∧ r < ps.length) ∧ Below w.heap.size w w' := by
  have HP := Lib.hid hp
  have C := Lib.hid rh1_any
  obtain ⟨L, hL⟩ : ∃ L, ps.length = L := ⟨_, rfl⟩
  have HL := Lib.hid hL
  rw [hL] at hl ⊢
  obtain ⟨l1, l2, l3⟩ := hl
  clear hp hL
  go_enter Tryz.func57, Tryz.ntmps57
  go_wp2_with fail
  go_loopw [8] (fun i wr => ∃ k : Nat, k ≤ L ∧ i = .int .i64 k ∧ Below w.heap.size w wr) (fun i _ => L - (intOf i).toNat)
  case atStart => exact ⟨0, Nat.zero_le _, rfl, Below.refl _ _⟩
  case round =>
    obtain ⟨k, hk, rfl, hb⟩ := hrel
    have HB := Lib.hid hb
    by_cases hlt : k < L
    · obtain ⟨b, o, e, hbb, hc⟩ := HP.out (by rw [HL.out]; omega)
      obtain ⟨c0, c1⟩ := hc k (by rw [HL.out]; exact hlt)
      obtain rfl : pa = _ := e
      replace c0 := (hb.cell (p := ⟨b, o + k * 2, none⟩) hbb).trans c0
      replace c1 := (hb.cell (p := ⟨b, o + k * 2 + 1, none⟩) hbb).trans c1
      generalize ps[k]'(by rw [HL.out]; exact hlt) = x at *
      replace c1 : _ = some (Value.slice x.addr x.zs.length x.cap) := c1
      clear hb hbb hc
      go_wp2_with fail
      refine (C.out _ _ _ _ _).mono ?_
      rintro e w2 ⟨⟨r, rfl⟩, hb2⟩
      have HB2 := Lib.hid (HB.out.trans (hb2.mono HB.out.size))
      clear hb2
      cases r
      · go_wp2
        go_roundw
        case rel => exact ⟨k + 1, by omega, by go_num, HB2.out⟩
        case measure => simp [intOf]; omega
      · go_wp2
        go_ret
        exact ⟨⟨_, rfl, by omega, by omega⟩, HB2.out⟩
    · go_wp2
      go_ret
      exact ⟨⟨_, rfl, by omega, by omega⟩, HB.out⟩

set_option maxRecDepth 20000 in
set_option maxHeartbeats 4000000 in
theorem raiseHandles_any (D : Nat → Prop) (v : Int) (hv : 0 ≤ v ∧ v ≤ 4294967295) : ∀ (n : Nd) (w : World), Lies w D n → (∀ g, D g → g < w.heap.size) →
    Calls Tryz.prog 36 #[n.val, .int .u32 v] w fun e w' => (∃ r : Int, e = .returned (.int .i64 r)) ∧ Wrote D w w' := by
  refine Nd.ind ?_
  intro n ih w hl hD
  have HIH := Lib.hid ih
  have HLI := Lib.hid hl
  have HD := Lib.hid hD
  have HV := Lib.hid hv
  obtain ⟨h1, h2, h3, _⟩ := hl.parts
  clear ih hl hD hv
  obtain ⟨nm, pa, pc, ps, ka, kc, ks⟩ := n
  simp only [Nd.val, Nd.pv, Nd.kv, Nd.name, Nd.pa, Nd.pc, Nd.props, Nd.ka, Nd.kc, Nd.kids] at HIH h1 h2 h3 ⊢
  have HB0 := Lib.hid ((Below.refl w.heap.size w).alloc (Nat.le_refl _) (.cells #[.string nm, .slice pa ps.length pc, .slice ka ks.length kc] 27))
  have HX0 := Lib.hid (heap_alloc_new w (.cells #[.string nm, .slice pa ps.length pc, .slice ka ks.length kc] 27))
  have HPAR : Hid (∀ W : World, Wrote D w W → PRow W W.heap.size pa ps ∧ (∀ p ∈ ps, SlB W D p.val) ∧ KRow W W.heap.size ka ks ∧ ∀ k ∈ ks, Lies W D k) := Lib.hid (fun W h => by
    obtain ⟨_, _, _, p4, p5, p6, _, _, p9⟩ := (HLI.out.wrote h).parts
    exact ⟨p4, fun p hp => (p5 p hp).2, p6, p9⟩)
  have HRI := Lib.hid (fun (W : World) (h : Wrote D w W) => rhidx_any pa pc ps W (HPAR.out W h).1 ⟨h2.1, h2.2, h1.2.1⟩)
  have HSZ : Hid (∀ W : World, w.alloc (.cells #[.string nm, .slice pa ps.length pc, .slice ka ks.length kc] 27) = W → W.heap.size = w.heap.size + 1) := Lib.hid (fun W h => by rw [← h]; simp)
  obtain ⟨W0, hW0⟩ : ∃ W0, w.alloc (.cells #[.string nm, .slice pa ps.length pc, .slice ka ks.length kc] 27) = W0 := ⟨_, rfl⟩
  have HS0 := Lib.hid (HSZ.out W0 hW0)
  rw [hW0] at HB0 HX0
  have HWA : Hid (Wrote D w W0) := Lib.hid (Wrote.of_below D HB0.out)
  obtain ⟨KL, hKL⟩ : ∃ KL, ks.length = KL := ⟨_, rfl⟩
  have HKL := Lib.hid hKL
  rw [hKL] at h1 h3 HX0 hW0 ⊢
  obtain ⟨h31, h32⟩ := h3
  clear hKL HSZ
  go_enter Tryz.func36, Tryz.ntmps36
  have c1 : W0.cell? ⟨w.heap.size, 1, none⟩ = some (.slice pa ps.length pc) := by rw [Lib.cell_of_heap HX0.out]; rfl
  go_wp2_with fail
  clear hW0
  refine (HRI.out W0 HWA.out).mono ?_
  rintro e w1 ⟨⟨r, rfl, hr0, hr1⟩, hb1⟩
  have HX1 := Lib.hid ((hb1.block w.heap.size (by have := HS0.out; omega)).trans HX0.out)
  have HW1 := Lib.hid (HWA.out.on hb1)
  have HS1 : Hid (w.heap.size + 1 ≤ w1.heap.size) := Lib.hid (by have h1 := HS0.out; have h2 := hb1.size; omega)
  clear hb1 c1
  have HB1 : Hid (w.heap.size ≤ w1.heap.size) := Lib.hid (by have := HS1.out; omega)
  have LOOP : ∀ W2 : World, Wrote D w W2 → W2.heap[w.heap.size]? = some (.cells #[.string nm, .slice pa ps.length pc, .slice ka KL kc] 27 (0, 0)) → True := fun _ _ _ => trivial
  by_cases hr : 0 ≤ r
  · obtain ⟨i, rfl⟩ : ∃ i : Nat, r = (i : Int) := ⟨r.toNat, by omega⟩
    have hi : i < ps.length := by omega
    obtain ⟨q1, q2, _, _⟩ := HPAR.out w1 HW1.out
    obtain ⟨b, o, e, hbb, hc⟩ := q1 (by omega)
    obtain rfl : pa = _ := e
    obtain ⟨d0, d1⟩ := hc i hi
    have hsl := q2 _ (List.getElem_mem hi)
    generalize ps[i] = x at *
    replace d1 : _ = some (Value.slice x.addr x.zs.length x.cap) := d1
    have CR := Lib.hid (raise_any D x.addr x.zs.length x.cap 0 v w1 hsl (by omega) HV.out)
    have c1 : w1.cell? ⟨w.heap.size, 1, none⟩ = some (.slice (some ⟨b, o, none⟩) ps.length pc) := by rw [Lib.cell_of_heap HX1.out]; rfl
    have k1 : ((i : Int) ≥ 0) := by omega
    have k2 : decide ((i : Int) ≥ 0) = true := decide_eq_true k1
    clear q1 q2 hc hsl hbb d0 hr0 LOOP
    go_wp2_with fail
    refine CR.out.mono ?_
    rintro e w2 ⟨⟨r2, rfl⟩, hw2⟩
    have HW2 := Lib.hid (HW1.out.trans hw2)
    have HX2 := Lib.hid ((hw2.blk (by have := HS1.out; omega) (fun h => by have := HD.out _ h; omega)).trans HX1.out)
    clear hw2 c1 d1 CR
    by_cases he : r2 = 0
    · subst he
      have c2 : w2.cell? ⟨w.heap.size, 2, none⟩ = some (.slice ka KL kc) := by rw [Lib.cell_of_heap HX2.out]; rfl
      go_wp2_with fail
      clear c2
      go_loopw [29] (fun i wr => ∃ k : Nat, k ≤ KL ∧ i = .int .i64 k ∧ Wrote D w wr) (fun i _ => KL - (intOf i).toNat)
      case atStart => exact ⟨0, Nat.zero_le _, rfl, HW2.out⟩
      case round =>
        obtain ⟨k, hk, rfl, hwr⟩ := hrel
        have HWR := Lib.hid hwr
        by_cases hlt : k < KL
        · have hkl : k < ks.length := by rw [HKL.out]; exact hlt
          obtain ⟨_, _, q6, _⟩ := HPAR.out wr hwr
          obtain ⟨kb, ko, e, hkb, hkc⟩ := q6 (by omega)
          obtain ⟨e0, e1, e2⟩ := hkc k hkl
          obtain rfl : ka = _ := e
          have HAL := Lib.hid ((Below.refl wr.heap.size wr).alloc (Nat.le_refl _) (.cells #[.string (ks[k]'hkl).name, (ks[k]'hkl).pv, (ks[k]'hkl).kv] 27))
          have CK := Lib.hid (HIH.out (ks[k]'hkl) (List.getElem_mem hkl) _ ((HPAR.out _ (hwr.on HAL.out)).2.2.2 _ (List.getElem_mem hkl)) (fun g hg => by have h1 := HD.out g hg; have h2 := hwr.size; have h3 := HAL.out.size; omega))
          generalize (ks[k]'hkl) = X at *
          simp only [Nd.pv, Nd.kv] at e1 e2 CK HAL
          clear hwr q6 hkc hkb hkl
          go_wp2_with fail
          refine CK.out.mono ?_
          rintro e w4 ⟨⟨r4, rfl⟩, hw4⟩
          have HW4 := Lib.hid ((HWR.out.on HAL.out).trans hw4)
          clear hw4 e0 e1 e2 CK
          by_cases he : r4 = 0
          · subst he
            go_wp2
            go_roundw
            case rel => exact ⟨k + 1, by omega, by go_num, HW4.out⟩
            case measure => simp [intOf]; omega
          · have j1 : (r4 != 0) = true := by rw [bne_iff_ne]; exact he
            go_wp2
            go_ret
            exact ⟨⟨_, rfl⟩, HW4.out⟩
        · go_wp2
          go_ret
          exact ⟨⟨_, rfl⟩, HWR.out⟩
    · have j1 : (r2 != 0) = true := by rw [bne_iff_ne]; exact he
      go_wp2
      go_ret
      exact ⟨⟨_, rfl⟩, HW2.out⟩
  · have k1 : ¬ (r ≥ 0) := hr
    have k2 : decide (r ≥ 0) = false := decide_eq_false hr
    clear hr0 LOOP hr1 hr
    have c2 : w1.cell? ⟨w.heap.size, 2, none⟩ = some (.slice ka KL kc) := by rw [Lib.cell_of_heap HX1.out]; rfl
    go_wp2_with fail
    clear c2
    go_loopw [29] (fun i wr => ∃ k : Nat, k ≤ KL ∧ i = .int .i64 k ∧ Wrote D w wr) (fun i _ => KL - (intOf i).toNat)
    case atStart => exact ⟨0, Nat.zero_le _, rfl, HW1.out⟩
    case round =>
      obtain ⟨k, hk, rfl, hwr⟩ := hrel
      have HWR := Lib.hid hwr
      by_cases hlt : k < KL
      · have hkl : k < ks.length := by rw [HKL.out]; exact hlt
        obtain ⟨_, _, q6, _⟩ := HPAR.out wr hwr
        obtain ⟨kb, ko, e, hkb, hkc⟩ := q6 (by omega)
        obtain ⟨e0, e1, e2⟩ := hkc k hkl
        obtain rfl : ka = _ := e
        have HAL := Lib.hid ((Below.refl wr.heap.size wr).alloc (Nat.le_refl _) (.cells #[.string (ks[k]'hkl).name, (ks[k]'hkl).pv, (ks[k]'hkl).kv] 27))
        have CK := Lib.hid (HIH.out (ks[k]'hkl) (List.getElem_mem hkl) _ ((HPAR.out _ (hwr.on HAL.out)).2.2.2 _ (List.getElem_mem hkl)) (fun g hg => by have h1 := HD.out g hg; have h2 := hwr.size; have h3 := HAL.out.size; omega))
        generalize (ks[k]'hkl) = X at *
        simp only [Nd.pv, Nd.kv] at e1 e2 CK HAL
        clear hwr q6 hkc hkb hkl
        go_wp2_with fail
        refine CK.out.mono ?_
        rintro e w4 ⟨⟨r4, rfl⟩, hw4⟩
        have HW4 := Lib.hid ((HWR.out.on HAL.out).trans hw4)
        clear hw4 e0 e1 e2 CK
        by_cases he : r4 = 0
        · subst he
          go_wp2
          go_roundw
          case rel => exact ⟨k + 1, by omega, by go_num, HW4.out⟩
          case measure => simp [intOf]; omega
        · have j1 : (r4 != 0) = true := by rw [bne_iff_ne]; exact he
          go_wp2
          go_ret
          exact ⟨⟨_, rfl⟩, HW4.out⟩
      · go_wp2
        go_ret
        exact ⟨⟨_, rfl⟩, HWR.out⟩
end Go.Proofs.YtihlpcbebpnmkaaGreatDoor

/-! The one cell of a node's property: the document's answer. -/
namespace Go.Proofs.YtihlpcbebpnmkaaGreatDoor
open Go.RowKit
set_option linter.unusedVariables false
set_option linter.unusedSimpArgs false

theorem idx_or : ∀ (l : List ByteArray) (s : ByteArray), idxOf l s = -1 ∨ ∃ k : Nat, ∃ h : k < l.length, idxOf l s = (k : Int) ∧ l[k] = s
  | [], s => .inl rfl
  | x :: l, s => by
    by_cases hx : x = s
    · exact .inr ⟨0, by simp, by rw [idxOf, if_pos hx]; rfl, by simpa using hx⟩
    · rcases idx_or l s with h | ⟨k, h1, h2, h3⟩
      · exact .inl (by rw [idxOf, if_neg hx, h]; rfl)
      · exact .inr ⟨k + 1, by simpa using h1, by rw [idxOf, if_neg hx, h2, if_neg (by omega)]; omega, by simpa using h3⟩

/-- The one cell of a node's property: the cell, whether it is there, the error. -/
def oneV (n : Nd) (s : ByteArray) : Int × Bool × Int :=
  match n.props.find? fun p => decide (p.name = s) with
  | none => (0, false, 0)
  | some p => if p.zs.length = 4 then (numTo p.zs 0 4, true, 0) else (0, false, 4)
def oneVal (o : Int × Bool × Int) : Value := .tuple #[.int .u32 o.1, .bool o.2.1, .int .i64 o.2.2]
theorem find_none : ∀ {ps : List PV} {s : ByteArray}, idxOf (ps.map PV.name) s = -1 → ps.find? (fun p => decide (p.name = s)) = none
  | [], _, _ => rfl
  | p :: r, s, h => by
    rw [List.map_cons, idxOf] at h
    by_cases hp : p.name = s
    · rw [if_pos hp] at h; omega
    · rw [if_neg hp] at h
      rw [List.find?_cons_of_neg (by simpa using hp)]
      refine find_none ?_
      rcases idx_or (r.map PV.name) s with h1 | ⟨k, _, h2, _⟩
      · exact h1
      · rw [h2, if_neg (by omega)] at h; omega
theorem find_at : ∀ {ps : List PV} {s : ByteArray} {k : Nat} (hk : k < ps.length), idxOf (ps.map PV.name) s = (k : Int) → ps.find? (fun p => decide (p.name = s)) = some ps[k]
  | [], _, _, hk, _ => absurd hk (by simp)
  | p :: r, s, k, hk, h => by
    rw [List.map_cons, idxOf] at h
    by_cases hp : p.name = s
    · rw [if_pos hp] at h
      obtain rfl : k = 0 := by omega
      rw [List.find?_cons_of_pos (by simpa using hp)]; rfl
    · rw [if_neg hp] at h
      rw [List.find?_cons_of_neg (by simpa using hp)]
      by_cases h0 : idxOf (r.map PV.name) s < 0
      · rw [if_pos h0] at h; omega
      · rw [if_neg h0] at h
        obtain ⟨j, rfl⟩ : ∃ j, k = j + 1 := ⟨k - 1, by omega⟩
        exact find_at (by simpa using hk) (by omega)
theorem prop_heft {n : Nd} {k : Nat} (h : k < n.props.length) : n.props[k].zs.length ≤ heftN n := by
  have e : heftN n = 16 + n.name.size + (n.props.map heftP).sum + heftL n.kids := by cases n; rw [heftN]; rfl
  have h1 := heftP_next n.props k h
  have h2 := heftP_take n.props (k + 1)
  have e2 : heftP n.props[k] = 16 + n.props[k].name.size + n.props[k].zs.length := rfl
  omega

set_option maxRecDepth 20000 in
set_option maxHeartbeats 4000000 in
theorem refone_all (n : Nd) (s : ByteArray) (w : World) (hin : n.In w w.heap.size) :
    Calls Tryz.prog 18 #[n.val, .string s] w fun e w' => e = .returned (oneVal (oneV n s)) ∧ Below w.heap.size w w' := by
  obtain ⟨r, hr⟩ : ∃ r, r = idxOf (n.props.map PV.name) s := ⟨_, rfl⟩
  have CF := Lib.hid (fun W hW => reffind_any n s W hW r hr)
  have HI := Lib.hid hin
  have HF : Hid ((r < 0 ∧ oneV n s = (0, false, 0)) ∨ ∃ k : Nat, ∃ h : k < n.props.length, r = (k : Int) ∧ oneV n s = if n.props[k].zs.length = 4 then (numTo n.props[k].zs 0 4, true, 0) else (0, false, 4)) := Lib.hid (by
    rcases idx_or (n.props.map PV.name) s with h | ⟨k, h1, h2, _⟩
    · exact .inl ⟨by omega, by rw [oneV, find_none h]⟩
    · rw [List.length_map] at h1
      exact .inr ⟨k, h1, hr.trans h2, by rw [oneV, find_at h1 h2]⟩)
  have HZ := Lib.hid (fun k (h : k < n.props.length) => (hin.prop (List.getElem_mem h)).1.2)
  obtain ⟨O, hO⟩ : ∃ O, oneV n s = O := ⟨_, rfl⟩
  rw [hO] at HF ⊢
  clear hr hin hO
  obtain ⟨nm, pa, pc, ps, ka, kc, ks⟩ := n
  simp only [Nd.val, Nd.pv, Nd.kv, Nd.name, Nd.pa, Nd.pc, Nd.props, Nd.ka, Nd.kc, Nd.kids] at CF HF HZ ⊢
  have HB := Lib.hid ((Below.refl w.heap.size w).alloc (Nat.le_refl _) (.cells #[Value.string nm, .slice pa ps.length pc, .slice ka ks.length kc] 27))
  go_enter Tryz.func18, Tryz.ntmps18
  go_wp2_with fail
  refine (CF.out _ (Nd.In.more HB.out.size (HI.out.under HB.out))).mono ?_
  rintro e w1 ⟨rfl, hb⟩
  have HB1 := Lib.hid (HB.out.trans (hb.mono HB.out.size))
  have x1 := (hb.cell (p := ⟨w.heap.size, 1, none⟩) (by simp)).trans (World.cell?_alloc_new _ _ _ _)
  replace x1 : _ = some (Value.slice pa ps.length pc) := x1
  clear hb
  rcases HF.out with ⟨hr0, hv⟩ | ⟨k, hk, hrk, hv⟩
  · subst hv
    clear HF x1
    go_wp2
    go_ret3
    exact ⟨rfl, HB1.out⟩
  · subst hrk
    obtain ⟨b, o, e, _, _, c1⟩ := (HI.out.under HB1.out).pcell (i := k) hk
    obtain rfl : pa = _ := e
    replace c1 : _ = some (Value.slice ps[k].addr ps[k].zs.length ps[k].cap) := c1
    have hp := (HI.out.under HB1.out).prop (p := ps[k]) (List.getElem_mem hk)
    have hz := HZ.out k hk
    have CC := refcells_any ps[k].addr ps[k].zs.length ps[k].cap ps[k].zs w1 (hp.2.1.more HB1.out.size) (by omega) hp.2.2.1 hp.2.2.2
    obtain ⟨P, hP⟩ : ∃ P, ps[k] = P := ⟨_, rfl⟩
    have hv' : O = if P.zs.length = 4 then (numTo P.zs 0 4, true, 0) else (0, false, 4) := by rw [← hP]; exact hv
    rw [hP] at c1 CC hz
    obtain ⟨N, hN⟩ : ∃ N, P.zs.length = N := ⟨_, rfl⟩
    rw [hN] at c1 CC hz hv'
    have HV := Lib.hid hv'
    have hpl : ps.length ≤ pc ∧ pc ≤ 9223372036854775807 := HI.out.plen
    obtain ⟨hpl1, hpl2⟩ := hpl
    have HCC := Lib.hid CC
    clear HF hv hv' hp CC hP hN
    go_wp2_with fail
    refine HCC.out.mono ?_
    rintro e w2 ⟨⟨q1, q2⟩, hb⟩
    have HB2 := Lib.hid (HB1.out.trans (hb.mono HB1.out.size))
    clear hb c1 x1
    by_cases h4 : N % 4 = 0
    · obtain ⟨A, c, rfl, hrow⟩ := q2 h4
      obtain ⟨A', c', e, hcel, _, _, _⟩ := owned_cel hrow
      simp only [Value.slice.injEq, true_and] at e
      obtain ⟨rfl, rfl⟩ := e
      obtain ⟨M, hM⟩ : ∃ M, N / 4 = M := ⟨_, rfl⟩
      rw [hM] at hcel
      rw [hM]
      by_cases h1 : M = 1
      · subst h1
        obtain ⟨bc, oc, rfl, _, hc0⟩ := hcel.2 (by omega)
        have d0 := hc0 0 (by omega)
        rw [Nat.add_zero] at d0
        replace d0 : w2.cell? ⟨bc, oc, none⟩ = some (Value.int .u32 (numTo P.zs 0 4)) := d0
        obtain ⟨v, hv⟩ : ∃ v, numTo P.zs 0 4 = v := ⟨_, rfl⟩
        have HO : Hid (O = (v, true, 0)) := Lib.hid (by rw [HV.out, if_pos (by omega), hv])
        rw [hv] at d0
        clear q1 q2 hrow hcel hc0 hv hM h4
        go_wp2
        go_ret3
        exact ⟨by rw [HO.out]; rfl, HB2.out⟩
      · have k1 : ((M : Int) != 1) = true := by rw [bne_iff_ne]; omega
        have HO : Hid (O = (0, false, 4)) := Lib.hid (by rw [HV.out, if_neg (by omega)])
        clear q1 q2 hrow hcel hM h4 h1
        go_wp2
        go_ret3
        exact ⟨by rw [HO.out]; rfl, HB2.out⟩
    · obtain rfl := q1 h4
      have HO : Hid (O = (0, false, 4)) := Lib.hid (by rw [HV.out, if_neg (by omega)])
      clear q1 q2 h4
      go_wp2
      go_ret3
      exact ⟨by rw [HO.out]; rfl, HB2.out⟩
theorem refone_any (n : Nd) (s : ByteArray) (w : World) (hin : n.In w w.heap.size) (hz : heftN n ≤ 1073741824) :
    Calls Tryz.prog 18 #[n.val, .string s] w fun e w' => e = .returned (oneVal (oneV n s)) ∧ Below w.heap.size w w' := refone_all n s w hin
end Go.Proofs.YtihlpcbebpnmkaaGreatDoor

/-! Layer 3: the first error of a node, and of those below it. -/
namespace Go.Proofs.YtihlpcbebpnmkaaGreatDoor
open Go.RowKit
set_option linter.unusedVariables false
set_option linter.unusedSimpArgs false

set_option maxHeartbeats 4000000 in
theorem alone_any (n : Nd) (d : Int) (w : World) (hin : n.In w w.heap.size) (hd0 : 1 ≤ d) (hd1 : d ≤ 17) (E : Int) (hE : aloneE n d = E) :
    Calls Tryz.prog 52 #[n.val, .int .i64 d] w fun e w' => e = .returned (.int .i64 E) ∧ Below w.heap.size w w' := by
  obtain ⟨r1, h1⟩ : ∃ r, nameOk n d = r := ⟨_, rfl⟩
  obtain ⟨r2, h2⟩ : ∃ r, n.props.any misP = r := ⟨_, rfl⟩
  obtain ⟨r3, h3⟩ : ∃ r, twiceB (n.props.map PV.name) = r := ⟨_, rfl⟩
  obtain ⟨r4, h4⟩ : ∃ r, twiceB (n.kids.map Nd.name) = r := ⟨_, rfl⟩
  have HE : Hid ((if 16 < d then 6 else if r1 = false then 5 else if r2 = true then 5 else if r3 = true then 9 else if r4 = true then 9 else 0) = E) := by
    rw [← hE, aloneE, h1, h2, h3, h4]; exact rfl
  have HI := Lib.hid hin
  have C1 := Lib.hid (fun w h => mayBe_any n d w h r1 h1)
  have C2 := Lib.hid (fun w h => containsMis_any n w h r2 h2)
  have C3 := Lib.hid (fun w h => twiceP_any n w h r3 h3)
  have C4 := Lib.hid (fun w h => twiceN_any n w h r4 h4)
  clear hE h1 h2 h3 h4 hin
  obtain ⟨nm, pa, pc, ps, ka, kc, ks⟩ := n
  show Calls _ _ #[.agg #[.string nm, .slice pa ps.length pc, .slice ka ks.length kc], .int .i64 d] _ _
  have HB := Lib.hid ((Below.refl w.heap.size w).alloc (Nat.le_refl _) (.cells #[Value.string nm, .slice pa ps.length pc, .slice ka ks.length kc] 27))
  have bx : ∀ (W : World), Below (w.heap.size + 1) (w.alloc (.cells #[Value.string nm, .slice pa ps.length pc, .slice ka ks.length kc] 27)) W → W.cell? ⟨w.heap.size, 1, none⟩ = some (.slice pa ps.length pc) ∧ W.cell? ⟨w.heap.size, 2, none⟩ = some (.slice ka ks.length kc) := fun W h =>
    ⟨(h.cell (Nat.lt_succ_self _)).trans (World.cell?_alloc_new _ _ _ _), (h.cell (Nat.lt_succ_self _)).trans (World.cell?_alloc_new _ _ _ _)⟩
  have BX := Lib.hid bx
  clear bx
  by_cases h16 : 16 < d
  · obtain rfl : E = 6 := by rw [← HE.out, if_pos h16]
    go_enter Tryz.func52, Tryz.ntmps52
    go_wp2
    go_ret
    exact ⟨rfl, HB.out⟩
  · have h16' : ¬ (16 < d) := h16
    cases r1
    · obtain rfl : E = 5 := by rw [← HE.out, if_neg (show ¬ (16 < d) by omega), if_pos rfl]
      go_enter Tryz.func52, Tryz.ntmps52
      go_wp2_with fail
      refine (C1.out _ (HI.out.on HB.out)).mono ?_
      rintro e w1 ⟨rfl, hb⟩
      have HB1 := Lib.hid (HB.out.trans (hb.mono HB.out.size))
      clear hb
      go_wp2
      go_ret
      exact ⟨rfl, HB1.out⟩
    · go_enter Tryz.func52, Tryz.ntmps52
      go_wp2_with fail
      refine (C1.out _ (HI.out.on HB.out)).mono ?_
      rintro e w1 ⟨rfl, hb⟩
      have HB1 := Lib.hid (HB.out.trans (hb.mono HB.out.size))
      have HX1 := Lib.hid (hb.mono (B' := w.heap.size + 1) (by simp))
      obtain ⟨b1, b2⟩ := BX.out _ HX1.out
      clear hb
      go_wp2_with fail
      refine (C2.out _ (HI.out.on HB1.out)).mono ?_
      rintro e w2 ⟨rfl, hb⟩
      have HB2 := Lib.hid (HB1.out.trans (hb.mono HB1.out.size))
      have HX2 := Lib.hid (HX1.out.trans (hb.mono (by have := HX1.out.size; simpa using this)))
      clear hb b1 b2
      obtain ⟨b1, b2⟩ := BX.out _ HX2.out
      cases r2
      · go_wp2_with fail
        refine (C3.out _ (HI.out.on HB2.out)).mono ?_
        rintro e w3 ⟨rfl, hb⟩
        have HB3 := Lib.hid (HB2.out.trans (hb.mono HB2.out.size))
        have HX3 := Lib.hid (HX2.out.trans (hb.mono (by have := HX2.out.size; simpa using this)))
        clear hb b1 b2
        obtain ⟨b1, b2⟩ := BX.out _ HX3.out
        cases r3
        · go_wp2_with fail
          refine (C4.out _ (HI.out.on HB3.out)).mono ?_
          rintro e w4 ⟨rfl, hb⟩
          have HB4 := Lib.hid (HB3.out.trans (hb.mono HB3.out.size))
          clear hb b1 b2
          cases r4
          · obtain rfl : E = 0 := by rw [← HE.out, if_neg (show ¬ (16 < d) by omega)]; rfl
            go_wp2
            go_ret
            exact ⟨rfl, HB4.out⟩
          · obtain rfl : E = 9 := by rw [← HE.out, if_neg (show ¬ (16 < d) by omega)]; rfl
            go_wp2
            go_ret
            exact ⟨rfl, HB4.out⟩
        · obtain rfl : E = 9 := by rw [← HE.out, if_neg (show ¬ (16 < d) by omega)]; rfl
          go_wp2
          go_ret
          exact ⟨rfl, HB3.out⟩
      · obtain rfl : E = 5 := by rw [← HE.out, if_neg (show ¬ (16 < d) by omega)]; rfl
        go_wp2
        go_ret
        exact ⟨rfl, HB2.out⟩

mutual
/-- The first error of a node at a depth, and of all below it. -/
noncomputable def wrongN : Nd → Int → Int
  | .mk a b c p e f ks, d => if aloneE (.mk a b c p e f ks) d = 0 then wrongL ks (d + 1) else aloneE (.mk a b c p e f ks) d
noncomputable def wrongL : List Nd → Int → Int
  | [], _ => 0
  | k :: l, d => if wrongN k d = 0 then wrongL l d else wrongN k d
end
theorem wrongN_mk (n : Nd) (d : Int) : wrongN n d = if aloneE n d = 0 then wrongL n.kids (d + 1) else aloneE n d := by
  cases n
  rw [wrongN]
  rfl
theorem wrongL_hit (d : Int) : ∀ (l : List Nd) (k : Nat) (hk : k < l.length), (∀ j (hj : j < l.length), j < k → wrongN l[j] d = 0) → wrongN l[k] d ≠ 0 → wrongL l d = wrongN l[k] d
  | x :: l, 0, hk, _, h => by
    have h' : wrongN x d ≠ 0 := h
    rw [wrongL, if_neg h']
    rfl
  | x :: l, k + 1, hk, h', h => by
    have h0 : wrongN x d = 0 := h' 0 (by simp) (by omega)
    rw [wrongL, if_pos h0, wrongL_hit d l k (by simpa using hk) (fun j hj hlt => h' (j + 1) (by simpa using hj) (by omega)) h]
    rfl
theorem wrongL_all (d : Int) : ∀ (l : List Nd), (∀ j (hj : j < l.length), wrongN l[j] d = 0) → wrongL l d = 0
  | [], _ => rfl
  | x :: l, h => by
    have h0 : wrongN x d = 0 := h 0 (by simp)
    rw [wrongL, if_pos h0, wrongL_all d l (fun j hj => h (j + 1) (by simpa using hj))]
/-- The first k have no error. -/
def Fine (l : List Nd) (d : Int) (k : Nat) : Prop := ∀ j (hj : j < l.length), j < k → wrongN l[j] d = 0
theorem Fine.zero (l : List Nd) (d : Int) : Fine l d 0 := fun _ _ h => absurd h (Nat.not_lt_zero _)
theorem Fine.succ {l : List Nd} {d : Int} {k : Nat} (h : Fine l d k) (hk : k < l.length) (he : wrongN l[k] d = 0) : Fine l d (k + 1) := fun j hj hlt => by
  rcases Nat.lt_succ_iff_lt_or_eq.1 hlt with h' | rfl
  · exact h j hj h'
  · exact he
theorem alone_deep {n : Nd} {d : Int} (h : aloneE n d = 0) : d ≤ 16 := by
  by_cases h16 : 16 < d
  · rw [aloneE, if_pos h16] at h; omega
  · omega

set_option maxHeartbeats 4000000 in
theorem checkNode_any : ∀ (n : Nd) (d : Int) (w : World), n.In w w.heap.size → 1 ≤ d → d ≤ 17 → ∀ E : Int, wrongN n d = E → Calls Tryz.prog 32 #[n.val, .int .i64 d] w fun e w' => e = .returned (.int .i64 E) ∧ Below w.heap.size w w' := by
  refine Nd.ind ?_
  intro n ih d w hin hd0 hd1 E hE
  obtain ⟨E1, h1⟩ : ∃ E1, aloneE n d = E1 := ⟨_, rfl⟩
  have HE : Hid ((if E1 = 0 then wrongL n.kids (d + 1) else E1) = E) := by rw [← h1, ← wrongN_mk]; exact hE
  have HD := Lib.hid (fun h : E1 = 0 => alone_deep (h1.trans h))
  have HI := Lib.hid hin
  have IH := Lib.hid ih
  have C1 := Lib.hid (fun w h => alone_any n d w h hd0 hd1 E1 h1)
  obtain ⟨hl, hm⟩ := hin.klen
  clear hin ih hE h1
  obtain ⟨nm, pa, pc, ps, ka, kc, ks⟩ := n
  replace hl : ks.length ≤ kc := hl
  replace hm : kc ≤ 9223372036854775807 := hm
  replace HE : Hid ((if E1 = 0 then wrongL ks (d + 1) else E1) = E) := HE
  show Calls _ _ #[.agg #[.string nm, .slice pa ps.length pc, .slice ka ks.length kc], .int .i64 d] _ _
  have HB := Lib.hid ((Below.refl w.heap.size w).alloc (Nat.le_refl _) (.cells #[Value.string nm, .slice pa ps.length pc, .slice ka ks.length kc] 27))
  go_enter Tryz.func32, Tryz.ntmps32
  go_wp2_with fail
  refine (C1.out _ (HI.out.on HB.out)).mono ?_
  rintro e w1 ⟨rfl, hb⟩
  have HB1 := Lib.hid (HB.out.trans (hb.mono HB.out.size))
  have b2 := (hb.cell (p := ⟨w.heap.size, 2, none⟩) (by simp)).trans (World.cell?_alloc_new _ _ _ _)
  replace b2 : _ = some (Value.slice ka ks.length kc) := b2
  clear hb
  by_cases h0 : E1 = 0
  · have HF : Hid (wrongL ks (d + 1) = E) := by have := HE.out; rwa [if_pos h0] at this
    have hd16 := HD.out h0
    subst h0
    clear HE HD
    go_wp2_with fail
    go_loopw [18] (fun i wr => ∃ k : Nat, k ≤ ks.length ∧ i = .int .i64 k ∧ Fine ks (d + 1) k ∧ Below w.heap.size w wr) (fun i _ => ks.length - (intOf i).toNat)
    case atStart => exact ⟨0, Nat.zero_le _, rfl, Fine.zero _ _, HB1.out⟩
    case round =>
      clear b2
      obtain ⟨k, hk, rfl, hfine, hb⟩ := hrel
      have HA := Lib.hid hfine
      have HB' := Lib.hid hb
      clear hfine hb
      by_cases hlt : k < ks.length
      · obtain ⟨b, o, e, hb, c0, c1, c2⟩ := (HI.out.under HB'.out).kcell (i := k) hlt
        obtain rfl : ka = _ := e
        replace c0 : _ = some (Value.string ks[k].name) := c0
        replace c1 : _ = some (Value.slice ks[k].pa ks[k].props.length ks[k].pc) := c1
        replace c2 : _ = some (Value.slice ks[k].ka ks[k].kids.length ks[k].kc) := c2
        have HB2 := Lib.hid (HB'.out.alloc HB'.out.size (.cells #[Value.string ks[k].name, .slice ks[k].pa ks[k].props.length ks[k].pc, .slice ks[k].ka ks[k].kids.length ks[k].kc] 27))
        obtain ⟨F, hF⟩ : ∃ F, wrongN ks[k] (d + 1) = F := ⟨_, rfl⟩
        have C := Lib.hid (IH.out ks[k] (List.getElem_mem hlt) (d + 1) _ (((HI.out.kid (List.getElem_mem hlt)).under HB2.out).more HB2.out.size) (by omega) (by omega) F hF)
        have HQ := Lib.hid hF
        clear hF
        go_wp2_with fail
        refine C.out.mono ?_
        rintro e w' ⟨rfl, hb'⟩
        have HB3 := Lib.hid (HB2.out.trans (hb'.mono HB2.out.size))
        clear hb'
        by_cases hF0 : F = 0
        · subst hF0
          go_wp2
          go_roundw
          case rel => exact ⟨k + 1, by omega, by go_num, HA.out.succ hlt HQ.out, HB3.out⟩
          case measure => simp [intOf]; omega
        · have f1 : (F == 0) = false := by rw [beq_eq_false_iff_ne]; exact hF0
          have f2 : (F != 0) = true := by rw [bne, f1]; rfl
          obtain rfl : E = F := by rw [← HF.out, wrongL_hit (d + 1) ks k hlt HA.out (by rw [HQ.out]; exact hF0)]; exact HQ.out
          clear hF0
          go_wp2
          go_ret
          exact ⟨rfl, HB3.out⟩
      · obtain rfl : E = 0 := by rw [← HF.out]; exact wrongL_all (d + 1) ks (fun j hj => HA.out j hj (by omega))
        go_wp2
        go_ret
        exact ⟨rfl, HB'.out⟩
  · have f1 : (E1 == 0) = false := by rw [beq_eq_false_iff_ne]; exact h0
    have f2 : (E1 != 0) = true := by rw [bne, f1]; rfl
    obtain rfl : E = E1 := by rw [← HE.out, if_neg h0]
    clear h0 HE HD
    go_wp2
    go_ret
    exact ⟨rfl, HB1.out⟩
end Go.Proofs.YtihlpcbebpnmkaaGreatDoor

/-! Layer 3: the document's first error of a node, and of those below it. -/
namespace Go.Proofs.YtihlpcbebpnmkaaGreatDoor
open Go.RowKit
set_option linter.unusedVariables false
set_option linter.unusedSimpArgs false

theorem mem_take_at {α : Type} {l : List α} {k i : Nat} (hk : k < l.length) (hki : k < i) : l[k] ∈ l.take i :=
  List.mem_iff_getElem.2 ⟨k, by rw [List.length_take]; omega, by rw [List.getElem_take]⟩
theorem not_mem_missed {l : List ByteArray} {s : ByteArray} {i : Nat} (h : Missed l s i) : s ∉ l.take i := fun hm => by
  obtain ⟨k, hk, he⟩ := List.mem_iff_getElem.1 hm
  rw [List.length_take] at hk
  rw [List.getElem_take] at he
  exact h.2 k (by omega) (by omega) he

end Go.Proofs.YtihlpcbebpnmkaaGreatDoor

/-! Layer 3: the first error of a tree, the program's and the document's. -/
namespace Go.Proofs.YtihlpcbebpnmkaaGreatDoor
open Go.RowKit
set_option linter.unusedVariables false
set_option linter.unusedSimpArgs false
attribute [local go_sem ↓] Go.wp_at_zero Go.wp_at_succ

/-- The first error of a tree. -/
noncomputable def checkE (t : Tr) : Int := if wrongN t.root 1 = 0 then manyE t else wrongN t.root 1

set_option maxHeartbeats 4000000 in
theorem check_any (t : Tr) (w : World) (hin : t.In w w.heap.size) (E : Int) (hE : checkE t = E) :
    Calls Tryz.prog 21 #[t.val] w fun e w' => e = .returned (.int .i64 E) ∧ Below w.heap.size w w' := by
  obtain ⟨F, hF⟩ : ∃ F, wrongN t.root 1 = F := ⟨_, rfl⟩
  obtain ⟨M, hM⟩ : ∃ M, manyE t = M := ⟨_, rfl⟩
  have HE : Hid ((if F = 0 then M else F) = E) := by rw [← hF, ← hM]; exact hE
  have C1 := Lib.hid (fun w h => checkNode_any t.root 1 w h (by omega) (by omega) F hF)
  have C2 := Lib.hid (fun w h => many_any t w h M hM)
  have HI := Lib.hid hin
  clear hE hF hM hin
  obtain ⟨boot, ra, rc, rs, ⟨nm, pa, pc, ps, ka, kc, ks⟩⟩ := t
  show Calls _ _ #[.agg #[.int .u32 boot, .slice ra rs.length rc, .string nm, .slice pa ps.length pc, .slice ka ks.length kc]] _ _
  have HB := Lib.hid ((Below.refl w.heap.size w).alloc (Nat.le_refl _) (.cells #[.int .u32 boot, .slice ra rs.length rc, .string nm, .slice pa ps.length pc, .slice ka ks.length kc] 29))
  go_enter Tryz.func21, Tryz.ntmps21
  go_wp2_with fail
  refine (C1.out _ ((HI.out.on HB.out).root)).mono ?_
  rintro e w1 ⟨rfl, hb⟩
  have HB1 := Lib.hid (HB.out.trans (hb.mono HB.out.size))
  have b0 := (hb.cell (p := ⟨w.heap.size, 0, none⟩) (by simp)).trans (World.cell?_alloc_new _ _ _ _)
  have b1 := (hb.cell (p := ⟨w.heap.size, 1, none⟩) (by simp)).trans (World.cell?_alloc_new _ _ _ _)
  have b2 := (hb.cell (p := ⟨w.heap.size, 2, none⟩) (by simp)).trans (World.cell?_alloc_new _ _ _ _)
  have b3 := (hb.cell (p := ⟨w.heap.size, 3, none⟩) (by simp)).trans (World.cell?_alloc_new _ _ _ _)
  have b4 := (hb.cell (p := ⟨w.heap.size, 4, none⟩) (by simp)).trans (World.cell?_alloc_new _ _ _ _)
  replace b0 : _ = some (Value.int .u32 boot) := b0
  replace b1 : _ = some (Value.slice ra rs.length rc) := b1
  replace b2 : _ = some (Value.string nm) := b2
  replace b3 : _ = some (Value.slice pa ps.length pc) := b3
  replace b4 : _ = some (Value.slice ka ks.length kc) := b4
  clear hb
  by_cases h0 : F = 0
  · obtain rfl : E = M := by rw [← HE.out, if_pos h0]
    subst h0
    go_wp2_with fail
    refine (C2.out _ (HI.out.on HB1.out)).mono ?_
    rintro e w2 ⟨rfl, hb⟩
    have HB2 := Lib.hid (HB1.out.trans (hb.mono HB1.out.size))
    clear hb
    go_wp2
    go_ret
    exact ⟨rfl, HB2.out⟩
  · have f1 : (F == 0) = false := by rw [beq_eq_false_iff_ne]; exact h0
    have f2 : (F != 0) = true := by rw [bne, f1]; rfl
    obtain rfl : E = F := by rw [← HE.out, if_neg h0]
    clear h0
    go_wp2
    go_ret
    exact ⟨rfl, HB1.out⟩

set_option maxHeartbeats 4000000 in
theorem few_any (t : Tr) (w : World) (hin : t.In w w.heap.size) :
    Calls Tryz.prog 5 #[t.val] w fun e w' => (∃ r : Bool, e = .returned (.bool r)) ∧ Below w.heap.size w w' := by
  have C1 := Lib.hid (fun w h => size_any t.root 0 w h (by omega) (by omega))
  have HI := Lib.hid hin
  clear hin
  obtain ⟨boot, ra, rc, rs, ⟨nm, pa, pc, ps, ka, kc, ks⟩⟩ := t
  show Calls _ _ #[.agg #[.int .u32 boot, .slice ra rs.length rc, .string nm, .slice pa ps.length pc, .slice ka ks.length kc]] _ _
  have HB := Lib.hid ((Below.refl w.heap.size w).alloc (Nat.le_refl _) (.cells #[.int .u32 boot, .slice ra rs.length rc, .string nm, .slice pa ps.length pc, .slice ka ks.length kc] 29))
  go_enter Tryz.func5, Tryz.ntmps5
  go_wp2_with fail
  refine (C1.out _ ((HI.out.on HB.out).root)).mono ?_
  rintro e w1 ⟨⟨z, rfl⟩, hb⟩
  have HB1 := Lib.hid (HB.out.trans (hb.mono HB.out.size))
  have b1 := (hb.cell (p := ⟨w.heap.size, 1, none⟩) (by simp)).trans (World.cell?_alloc_new _ _ _ _)
  replace b1 : _ = some (Value.slice ra rs.length rc) := b1
  clear hb
  by_cases hz : z ≤ 100000
  · go_wp2
    go_ret
    exact ⟨⟨_, rfl⟩, HB1.out⟩
  · go_wp2
    go_ret
    first | exact ⟨⟨_, rfl⟩, HB1.out⟩ | exact ⟨.inl rfl, HB1.out⟩

end Go.Proofs.YtihlpcbebpnmkaaGreatDoor

/-! Layer 7, PropReads, PropOne, PropWide: out of what the program's functions answer. -/
namespace Go.Proofs.YtihlpcbebpnmkaaGreatDoor
open Go.RowKit
set_option linter.unusedVariables false
set_option linter.unusedSimpArgs false

/-- What Cells, Text and Texts answer: what they read, and the error. -/
def cellsL (zs : List Int) : List Int := if zs.length % 4 = 0 then (List.range (zs.length / 4)).map fun i => numTo zs (4 * i) 4 else []
def cellsE (zs : List Int) : Int := if zs.length % 4 = 0 then 0 else 4
noncomputable def textS (zs : List Int) : ByteArray := match textV zs with | none => ⟨#[]⟩ | some s => strOfNums s
noncomputable def textE (zs : List Int) : Int := match textV zs with | none => 4 | some _ => 0
noncomputable def txtsL (zs : List Int) : List ByteArray := match textsV zs with | none => [] | some l => l.map strOfNums
noncomputable def txtsE (zs : List Int) : Int := match textsV zs with | none => 4 | some _ => 0
abbrev u32s (l : List Int) : List Value := l.map (Value.int .u32)
abbrev strs6 (l : List ByteArray) : List Value := l.map Value.string
/-- A row of values, and an error. -/
def RowOut (w' : World) (R : List Value) (E : Int) (e : Ending) : Prop := ∃ A c, e = .returned (.tuple #[.slice A R.length c, .int .i64 E]) ∧ Cel w' w'.heap.size A R.length R ∧ R.length ≤ c ∧ c ≤ 9223372036854775807

theorem rowOut_of {w w' : World} {e : Ending} {t : TypeId} {R : List Value} {A : Option Addr} {m c : Nat} (hm : m = R.length) (he : e = .returned (.tuple #[.slice A m c, .int .i64 0])) (h : w'.ownsRow w.heap.size t 1 (.slice A m c) m R) : RowOut w' R 0 e := by
  subst hm
  obtain ⟨A', c', e', h1, h2, h3, _⟩ := owned_cel h
  simp only [Value.slice.injEq, true_and] at e'
  obtain ⟨rfl, rfl⟩ := e'
  exact ⟨A, c, he, h1, h2, h3⟩
theorem rowOut_nil {w' : World} {e : Ending} {E : Int} (he : e = .returned (.tuple #[.slice none 0 0, .int .i64 E])) : RowOut w' [] E e := ⟨none, 0, he, Cel.nil _ _ _, Nat.le_refl _, by omega⟩

theorem refcellsR (A : Option Addr) (n c : Nat) (zs : List Int) (w : World) (hs : Shows w w.heap.size A n zs) (hn : n ≤ 140737488351232) (hnc : n ≤ c) (hc : c ≤ 9223372036854775807) :
    Calls Tryz.prog 31 #[.slice A n c] w fun e w' => RowOut w' (u32s (cellsL zs)) (cellsE zs) e ∧ Below w.heap.size w w' := by
  obtain rfl := hs.1
  refine (refcells_any A _ c zs w hs hn hnc hc).mono fun e w' h => ⟨?_, h.2⟩
  obtain ⟨⟨h1, h2⟩, _⟩ := h
  by_cases h4 : zs.length % 4 = 0
  · obtain ⟨A', c', he, ho⟩ := h2 h4
    have e1 : cellRow zs (zs.length / 4) = u32s (cellsL zs) := by
      rw [cellsL, if_pos h4]; exact (List.map_map (l := List.range (zs.length / 4))).symm
    rw [cellsE, if_pos h4]
    rw [e1] at ho
    exact rowOut_of (by rw [List.length_map, cellsL, if_pos h4, List.length_map, List.length_range]) he ho
  · rw [cellsE, if_neg h4, cellsL, if_neg h4]
    exact rowOut_nil (h1 h4)
/-! ### What the program's functions answer -/
def CellsOK : Prop := ∀ (A : Option Addr) (n c : Nat) (zs : List Int) (w : World), Shows w w.heap.size A n zs → n ≤ 5000 → n ≤ c → c ≤ 9223372036854775807 → Calls Tryz.prog 66 #[.slice A n c] w fun e w' => RowOut w' (u32s (cellsL zs)) (cellsE zs) e ∧ Below w.heap.size w w'
def TextOK : Prop := ∀ (A : Option Addr) (n c : Nat) (zs : List Int) (w : World), Shows w w.heap.size A n zs → n ≤ 5000 → n ≤ c → c ≤ 9223372036854775807 → Calls Tryz.prog 48 #[.slice A n c] w fun e w' => e = .returned (.tuple #[.string (textS zs), .int .i64 (textE zs)]) ∧ Below w.heap.size w w'
def TextsOK : Prop := ∀ (A : Option Addr) (n c : Nat) (zs : List Int) (w : World), Shows w w.heap.size A n zs → n ≤ 100000 → n ≤ c → c ≤ 9223372036854775807 → Calls Tryz.prog 64 #[.slice A n c] w fun e w' => RowOut w' (strs6 (txtsL zs)) (txtsE zs) e ∧ Below w.heap.size w w'
def OneOK : Prop := ∀ (n : Nd) (s : ByteArray) (w : World), n.In w w.heap.size → s.size ≤ 140737488351232 → Calls Tryz.prog 45 #[n.val, .string s] w fun e w' => e = .returned (oneVal (oneV n s)) ∧ Below w.heap.size w w'

theorem u32_cell {w : World} {B n : Nat} {A : Option Addr} {l : List Int} (h : Cel w B A n (u32s l)) (hn : l.length = n) (k : Nat) (hk : k < n) : ∃ b o, A = some ⟨b, o, none⟩ ∧ b < B ∧ w.cell? ⟨b, o + k, none⟩ = some (.int .u32 (l.getD k 0)) := by
  obtain ⟨b, o, e, hb, hc⟩ := h.2 (by omega)
  refine ⟨b, o, e, hb, ?_⟩
  rw [hc k hk, List.getElem?_map, List.getElem?_eq_getElem (by omega)]
  simp [List.getD, List.getElem?_eq_getElem (show k < l.length by omega)]
theorem str_cell {w : World} {B n : Nat} {A : Option Addr} {l : List ByteArray} (h : Cel w B A n (strs6 l)) (hn : l.length = n) (k : Nat) (hk : k < n) : ∃ b o, A = some ⟨b, o, none⟩ ∧ b < B ∧ w.cell? ⟨b, o + k, none⟩ = some (.string (l.getD k ⟨#[]⟩)) := by
  obtain ⟨b, o, e, hb, hc⟩ := h.2 (by omega)
  refine ⟨b, o, e, hb, ?_⟩
  rw [hc k hk, List.getElem?_map, List.getElem?_eq_getElem (by omega)]
  simp [List.getD, List.getElem?_eq_getElem (show k < l.length by omega)]

end Go.Proofs.YtihlpcbebpnmkaaGreatDoor

/-! Layer 7: rows that a call has made, of values of one cell; the program's Cells. -/
namespace Go.Proofs.YtihlpcbebpnmkaaGreatDoor
open Go.RowKit
set_option linter.unusedVariables false
set_option linter.unusedSimpArgs false

/-- Block g holds just these values, one cell each. -/
def VRow (w : World) (g : Nat) (t : TypeId) (vs : List Value) : Prop := w.heap[g]? = some (.cells vs.toArray t (0, 0))
section
variable {w w' : World} {g : Nat} {t : TypeId} {vs : List Value}
theorem VRow.lt (h : VRow w g t vs) : g < w.heap.size := (Array.getElem?_eq_some_iff.1 h).1
theorem VRow.cell (h : VRow w g t vs) (i : Nat) (hi : i < vs.length) : w.cell? ⟨g, i, none⟩ = some vs[i] := by
  rw [cell_of_row w g i _ _ (0, 0) h]
  simp [List.getElem?_eq_getElem hi]
theorem VRow.at_ (h : VRow w g t vs) {i : Nat} {z : Value} (hi : vs[i]? = some z) : w.cell? ⟨g, i, none⟩ = some z := by
  obtain ⟨h1, h2⟩ := List.getElem?_eq_some_iff.1 hi
  rw [h.cell i h1, h2]
theorem VRow.free (h : VRow w g t vs) (i : Nat) : w.frozen? ⟨g, i, none⟩ = false := by
  unfold VRow at h
  simp [World.frozen?, h]
theorem VRow.set (h : VRow w g t vs) (i : Nat) (v : Value) : VRow (w.setCell ⟨g, i, none⟩ v) g t (vs.set i v) := by
  unfold VRow at h ⊢
  simp [World.setCell, Array.getElem?_modify, h]
theorem VRow.on (h : VRow w g t vs) (hb : Below w.heap.size w w') : VRow w' g t vs := (hb.block g h.lt).trans h
theorem VRow.cel {n : Nat} (h : VRow w g t vs) (hn : vs.length = n) : Cel w w.heap.size (some ⟨g, 0, none⟩) n vs :=
  ⟨hn, fun _ => ⟨g, 0, rfl, h.lt, fun i hi => by rw [Nat.zero_add, h.cell i (by omega), List.getElem?_eq_getElem (by omega)]⟩⟩
end
theorem made_vrow (w : World) (z : Value) (k : Nat) (t : TypeId) : VRow (w.alloc (.cells (madeCells #[z] k) t)) w.heap.size t (List.replicate k z) := by
  unfold VRow
  rw [heap_alloc_new]
  congr 2
  apply Array.toList_inj.1
  rw [toList_madeCells_one]
/-- k of m values are laid. -/
def partV (l : List Value) (z : Value) (m k : Nat) : List Value := l.take k ++ List.replicate (m - k) z
theorem partV_length (l : List Value) (z : Value) (m k : Nat) (hk : k ≤ m) (hm : l.length = m) : (partV l z m k).length = m := by
  simp only [partV, List.length_append, List.length_take, List.length_replicate]; omega
theorem partV_set (l : List Value) (z : Value) (m k : Nat) (hk : k < m) (hm : l.length = m) (x : Value) (hx : l[k]? = some x) : (partV l z m k).set k x = partV l z m (k + 1) := by
  unfold partV
  have e : l.take (k + 1) = l.take k ++ [x] := by rw [List.take_add_one, hx]; rfl
  have hl : (l.take k).length = k := by rw [List.length_take]; omega
  rw [List.set_append, if_neg (by omega), hl, Nat.sub_self, e, List.append_assoc]
  congr 1
  obtain ⟨j, hj⟩ : ∃ j, m - k = j + 1 := ⟨m - k - 1, by omega⟩
  rw [hj, show m - (k + 1) = j by omega, List.replicate_succ]
  rfl
theorem partV_none (l : List Value) (z : Value) (m : Nat) : partV l z m 0 = List.replicate m z := by simp [partV]
theorem partV_all (l : List Value) (z : Value) (m : Nat) (hm : l.length = m) : partV l z m m = l := by simp [partV, ← hm]
theorem partV_at (l : List Value) (z : Value) (m k : Nat) (hk : k < m) (hm : l.length = m) : (partV l z m k)[k]? = some z := by
  unfold partV
  have hl : (l.take k).length = k := by rw [List.length_take]; omega
  rw [List.getElem?_append_right (by omega), hl, Nat.sub_self, List.getElem?_replicate]
  simp; omega

theorem rowOut_vrow {w : World} {g m c : Nat} {t : TypeId} {R : List Value} {e : Ending} (h : VRow w g t R) (hm : R.length = m) (hc : m ≤ c) (hc2 : c ≤ 9223372036854775807) (he : e = .returned (.tuple #[.slice (some ⟨g, 0, none⟩) m c, .int .i64 0])) : RowOut w R 0 e := by
  subst hm
  exact ⟨_, c, he, h.cel rfl, hc, hc2⟩

theorem make_u32 (k : Nat) (hk : k ≤ 70368744177664) (w : World) :
    (Instr.makeSlice 75 (.int .i64 (k : Int)) (.int .i64 (k : Int))).run Tryz.prog w = .ok (.slice (some ⟨w.heap.size, 0, none⟩) k k) (w.alloc (.cells (madeCells #[.int .u32 0] k) 22)) :=
  run_make_row' (P := Tryz.prog) 75 22 (.int .u32 0) 4 Tryz.underlying75 info_u32 rfl .i64 .i64 k (by omega) (by omega) w

theorem u32s_cells {zs : List Int} {m : Nat} (h4 : zs.length % 4 = 0) (hm : zs.length / 4 = m) : (u32s (cellsL zs)).length = m ∧ ∀ k, k < m → (u32s (cellsL zs))[k]? = some (.int .u32 (numTo zs (4 * k) 4)) := by
  rw [cellsL, if_pos h4, hm]
  refine ⟨by simp, fun k hk => ?_⟩
  simp [List.getElem?_range hk]

set_option maxRecDepth 20000 in
set_option maxHeartbeats 4000000 in
theorem cells_any (A : Option Addr) (n c : Nat) (zs : List Int) (w : World) (hs : Shows w w.heap.size A n zs) (hn : n ≤ 140737488351232) (hnc : n ≤ c) (hc : c ≤ 9223372036854775807) :
    Calls Tryz.prog 66 #[.slice A n c] w fun e w' => RowOut w' (u32s (cellsL zs)) (cellsE zs) e ∧ Below w.heap.size w w' := by
  have HS := Lib.hid hs
  have HC := Lib.hid (And.intro hnc hc)
  have HL := Lib.hid hs.1
  clear hs hnc hc
  by_cases h4 : n % 4 = 0
  · have q1 : (((n : Int) % 4) != 0) = false := by rw [bne_eq_false_iff_eq]; omega
    obtain ⟨m, hm⟩ : ∃ m, n / 4 = m := ⟨_, rfl⟩
    have q2 : (n : Int) / 4 = (m : Int) := by omega
    have hm4 : n = 4 * m := by omega
    have HU := Lib.hid (u32s_cells (zs := zs) (m := m) (by rw [HL.out]; exact h4) (by rw [HL.out]; exact hm))
    have HE : Hid (cellsE zs = 0) := Lib.hid (by rw [cellsE, if_pos (by rw [HL.out]; exact h4)])
    have HM := make_u32 m (by omega)
    have HN := Lib.hid (And.intro hm4 hn)
    have hm9 : m ≤ 35184372087808 := by omega
    clear h4 hm hm4 hn
    generalize hU : u32s (cellsL zs) = U at HU
    have HUU := Lib.hid hU
    clear hU
    go_enter Tryz.func66, Tryz.ntmps66
    go_wp2_with fail
    go_loopw [16] (fun i wr => ∃ k : Nat, k ≤ m ∧ i = .int .i64 k ∧ VRow wr w.heap.size 22 (partV U (.int .u32 0) m k) ∧ Below w.heap.size w wr) (fun i _ => m - (intOf i).toNat)
    case atStart => exact ⟨0, Nat.zero_le _, rfl, by rw [partV_none]; exact made_vrow _ _ _ _, (Below.refl _ _).alloc (Nat.le_refl _) _⟩
    case round =>
      obtain ⟨k, hk, rfl, hrow, hb⟩ := hrel
      have HB := Lib.hid hb
      have HR := Lib.hid hrow
      by_cases hlt : k < m
      · have hnum := numTo_u32 HS.out (4 * k)
        have CG := fun q hq => get_at A n c (4 * k) q hq zs wr w.heap.size (HS.out.below hb) (by have := HN.out.1; omega) (by have := HN.out.2; omega) HC.out.1 (by unfold maxLen; exact HC.out.2) _ rfl
        obtain ⟨x, hx⟩ : ∃ x, numTo zs (4 * k) 4 = x := ⟨_, rfl⟩
        have hat := HU.out.2 k hlt
        rw [hx] at CG hnum hat
        have HSET : Hid ((partV U (.int .u32 0) m k).set k (.int .u32 x) = partV U (.int .u32 0) m (k + 1)) := Lib.hid (partV_set U _ m k hlt HU.out.1 _ hat)
        have hcell := hrow.at_ (partV_at U (.int .u32 0) m k hlt HU.out.1)
        have hfree := hrow.free k
        have HR2 := Lib.hid (hrow.set k (.int .u32 x))
        have HB2 := Lib.hid (hb.setCell (p := ⟨w.heap.size, k, none⟩) (Nat.le_refl _) (.int .u32 x))
        have HCG := Lib.hid CG
        have hb4 := HN.out
        have hbd : 4 * (k : Int) ≤ 140737488351232 := by omega
        clear hx hat hrow hb CG hb4
        go_wp2_with fail
        refine (HCG.out _ (by omega)).mono ?_
        rintro e w1 ⟨rfl, rfl⟩
        go_wp2
        go_roundw
        case rel => exact ⟨k + 1, by omega, by go_num, by rw [← HSET.out]; exact HR2.out, HB2.out⟩
        case measure => simp [intOf]; omega
      · obtain rfl : k = m := by omega
        have HV : Hid (VRow wr w.heap.size 22 U) := Lib.hid (by have := HR.out; rw [partV_all _ _ _ HU.out.1] at this; exact this)
        clear hrow hb
        go_wp2
        go_ret2
        refine ⟨?_, HB.out⟩
        rw [HE.out]
        exact rowOut_vrow HV.out HU.out.1 (Nat.le_refl _) (by omega) rfl
  · have q1 : (((n : Int) % 4) != 0) = true := by rw [bne_iff_ne]; omega
    have H4 := Lib.hid (show ¬ zs.length % 4 = 0 by rw [HL.out]; exact h4)
    clear h4
    go_enter Tryz.func66, Tryz.ntmps66
    go_wp2
    go_ret2
    refine ⟨?_, Below.refl _ _⟩
    rw [cellsE, if_neg H4.out, cellsL, if_neg H4.out]
    exact rowOut_nil rfl
theorem cellsOK : CellsOK := fun A n c zs w hs hn hnc hc => cells_any A n c zs w hs (by omega) hnc hc
end Go.Proofs.YtihlpcbebpnmkaaGreatDoor

/-! Places: whether two are the same, and two lists of them: the document's answer. -/
namespace Go.Proofs.YtihlpcbebpnmkaaGreatDoor
open Go.RowKit
set_option linter.unusedVariables false
set_option linter.unusedSimpArgs false

/-- The first k are the same. -/
def Ev {α : Type} (xs ys : List α) (k : Nat) : Prop := ∀ j, j < k → xs[j]? = ys[j]?
theorem Ev.zero {α : Type} (xs ys : List α) : Ev xs ys 0 := fun j h => absurd h (Nat.not_lt_zero _)
theorem Ev.succ {α : Type} {xs ys : List α} {k : Nat} (h : Ev xs ys k) (he : xs[k]? = ys[k]?) : Ev xs ys (k + 1) := fun j hj => by
  rcases Nat.lt_succ_iff_lt_or_eq.1 hj with h' | rfl
  · exact h j h'
  · exact he
theorem Ev.all {α : Type} {xs ys : List α} {k : Nat} (h : Ev xs ys k) (hl : xs.length = ys.length) (hk : xs.length ≤ k) : xs = ys := by
  apply List.ext_getElem?
  intro i
  rcases Nat.lt_or_ge i k with hi | hi
  · exact h i hi
  · rw [List.getElem?_eq_none (by omega), List.getElem?_eq_none (by omega)]

/-- A slice shows these places. -/
def PlShow (w : World) (B : Nat) (A : Option Addr) (n : Nat) (ps : List (List Nat)) : Prop :=
  ∃ vs, Cel w B A n vs ∧ Two (PlV w 0 B none) vs ps
theorem PlShow.on {w w' : World} {A : Option Addr} {n : Nat} {ps : List (List Nat)} (h : PlShow w w.heap.size A n ps) (hb : Below w.heap.size w w') : PlShow w' w'.heap.size A n ps := by
  obtain ⟨vs, h1, h2⟩ := h
  exact ⟨vs, h1.on hb, h2.mono fun v p hv => hv.keep hb.size (fun a ha _ => hb.cell ha) (fun _ _ h => h)⟩
theorem PlRow.show {w : World} {lo : Nat} {v : Value} {ps : List (List Nat)} (h : PlRow w lo v ps) : ∃ A c, v = .slice A ps.length c ∧ PlShow w w.heap.size A ps.length ps ∧ ps.length ≤ c ∧ c ≤ 9223372036854775807 := by
  obtain ⟨vs, h1, h2⟩ := h.row
  obtain ⟨A, c, e, hc, h3, h4, _⟩ := owned_cel h1
  refine ⟨A, c, e, ⟨vs, hc, h2.mono fun v p hv => ?_⟩, h3, h4⟩
  obtain ⟨A, c, e, hc, h1, h2, h3⟩ := hv
  exact ⟨A, c, e, hc, h1, h2, fun _ _ _ _ => ⟨Nat.zero_le _, by simp⟩⟩

end Go.Proofs.YtihlpcbebpnmkaaGreatDoor
