/-
  Base, part 7: what the proofs of this claim lean on.
-/
import Derived.Test.YtbblgkidgecdpaaBase6
import Derived.Test.YtbblgkidgecdpaaBase3
import Derived.Test.YtbblgkidgecdpaaBase4

/-! A node's windows seen from the root: the document's answer. -/
namespace Go.Proofs.Ytbblgkidgecdpaa
open Go.RowKit
set_option linter.unusedVariables false
set_option linter.unusedSimpArgs false

/-- Windows, one after another, each through U. -/
def winUp (U : Int → Int → Option Int) : List (Int × Int) → List (Int × Int) → Bool × List (Int × Int)
  | acc, [] => (true, acc)
  | acc, x :: r => match U x.1 x.2 with
    | none => (false, [])
    | some b => winUp U (acc ++ [(b, x.2)]) r
/-- A node's windows, seen from the root. -/
def winsV (root : Nd) (z : List Int) (n : Nat) : Bool × List (Int × Int) :=
  if (regV ((nodeZ root (z.take (n - 1))).getD ndZ) ((nodeZ root (z.take n)).getD ndZ)).1 = false then (false, [])
  else winUp (fun a s => upV root (z.take (n - 1)) s (n - 1) a) [] (regV ((nodeZ root (z.take (n - 1))).getD ndZ) ((nodeZ root (z.take n)).getD ndZ)).2
theorem wins_64 {zs : List Int} (h : ∀ z ∈ zs, 0 ≤ z ∧ z < 256) {p q m : Nat} (hp : p ≤ 8) (hq : q ≤ 8) : ∀ x ∈ wins zs p q m, U64 x.1 ∧ U64 x.2 := by
  intro x hx
  obtain ⟨j, _, rfl⟩ := List.mem_map.1 hx
  exact ⟨numTo_lt64 _ 0 _ (bytes_at fun z hz => h z (List.mem_of_mem_drop (List.mem_of_mem_take hz))) hp, numTo_lt64 _ 0 _ (bytes_at fun z hz => h z (List.mem_of_mem_drop (List.mem_of_mem_take hz))) hq⟩
theorem regV_64 {w : World} {B : Nat} {parent n : Nd} (hpn : parent.In w B) (hin : n.In w B) : ∀ x ∈ (regV parent n).2, U64 x.1 ∧ U64 x.2 := by
  have hc := cntV_le hpn nmAddr 2 (by omega)
  have hs := cntV_le hpn nmSize 1 (by omega)
  unfold regV
  split
  · intro r hr; cases hr
  · rename_i x hx
    have hb := (hin.prop (List.mem_of_find?_eq_some hx)).2.1.2.1
    split
    · intro r hr; cases hr
    · exact wins_64 hb (by omega) (by omega)
theorem regV_len {parent n : Nd} : (regV parent n).2.length ≤ heftN n := by
  unfold regV
  split
  · exact Nat.zero_le _
  · rename_i x hx
    split
    · exact Nat.zero_le _
    · rw [wins_length]
      obtain ⟨k, hk, rfl⟩ := List.getElem_of_mem (List.mem_of_find?_eq_some hx)
      exact Nat.le_trans (Nat.div_le_self _ _) (prop_heft hk)


set_option maxRecDepth 20000 in
set_option maxHeartbeats 8000000 in
theorem refwindows_any (t : Tr) (z : List Int) (A : Option Addr) (n c : Nat) (w : World) (hin : t.In w w.heap.size) (hp : Cel w w.heap.size A n (intsZ z)) (hnc : n ≤ c) (hc : c ≤ 9223372036854775807) (hn0 : 0 < n) (hroot : ∃ y, nodeZ t.root z = some y) (hh : heftN t.root ≤ 134217728) :
    Calls Try.prog 16 #[t.val, .slice A n c] w fun e w' => (∃ A m c, e = .returned (.tuple #[.slice A m c, .bool (winsV t.root z n).1]) ∧ Cel2 w' w'.heap.size A m ((winsV t.root z n).2.map winV) ∧ m ≤ c ∧ c ≤ 9223372036854775807) ∧ Below w.heap.size w w' := by
  have HI := Lib.hid hin.root
  have HH := Lib.hid hh
  obtain ⟨k, hk⟩ : ∃ k, k + 1 = n := ⟨n - 1, by omega⟩
  have hkn : k ≤ n := by omega
  have hn1 : n - 1 = k := by omega
  have hpl : z.length = n := by have := hp.1; rwa [List.length_map] at this
  have htk : z.take n = z := List.take_of_length_le (by omega)
  have hpk : ∀ W (hW : Below w.heap.size w W), Cel W W.heap.size A k (intsZ (z.take k)) := fun W hW => by have h := (hp.on hW).upto hkn; rwa [intsZ, ← List.map_take] at h
  have CN := Lib.hid (fun W (hW : Below w.heap.size w W) => refget_any t z A n c W (hin.on hW) (hp.on hW) hnc hc)
  have CP := Lib.hid (fun W (hW : Below w.heap.size w W) => refget_any t (z.take k) A k c W (hin.on hW) (hpk W hW) (by omega) hc)
  obtain ⟨x, hx⟩ := hroot
  obtain ⟨y, hy⟩ := nodeZ_take hx k
  have CUP := Lib.hid (fun W (hW : Below w.heap.size w W) a s (ha : U64 a) (hs : U64 s) => refup_any t (z.take k) A k c a s W (hin.on hW) (hpk W hW) (by omega) hc ⟨y, hy⟩ hh ha hs)
  have HXI := Lib.hid (nodeZ_in _ HI.out hx)
  have HYI := Lib.hid (nodeZ_in _ HI.out hy)
  have HXH := Lib.hid (Nat.le_trans (nodeZ_heft _ hx) HH.out)
  have HYH := Lib.hid (Nat.le_trans (nodeZ_heft _ hy) HH.out)
  have hval : winsV t.root z n = if (regV y x).1 = false then (false, []) else winUp (fun a s => upV t.root (z.take k) s k a) [] (regV y x).2 := by
    unfold winsV; rw [hn1, htk, hx, hy]; rfl
  obtain ⟨U, hU⟩ : ∃ U, (fun a s => upV t.root (z.take k) s k a) = U := ⟨_, rfl⟩
  have hU2 : ∀ a s, upV t.root (z.take k) s k a = U a s := fun a s => by rw [← hU]
  rw [hU] at hval
  simp only [hU2] at CUP
  obtain ⟨OV, hOV⟩ : ∃ OV, winsV t.root z n = OV := ⟨_, rfl⟩
  rw [hOV] at hval ⊢
  rw [hx] at CN
  rw [hy] at CP
  have CR := Lib.hid (fun W (hW : Below w.heap.size w W) => refreg_any y x W ((HYI.out.under hW).more hW.size) ((HXI.out.under hW).more hW.size) (Nat.le_trans HYH.out (by omega)) (Nat.le_trans HXH.out (by omega)))
  have hr64 := regV_64 HYI.out HXI.out
  have hlen := Nat.le_trans (regV_len (parent := y) (n := x)) HXH.out
  obtain ⟨okr, L, hL⟩ : ∃ okr L, regV y x = (okr, L) := ⟨_, _, rfl⟩
  rw [hL] at CR hval hr64 hlen
  have HREL : Hid ((if okr = false then (false, []) else winUp U [] L) = OV) := Lib.hid hval.symm
  have H64 : Hid (∀ x ∈ L, U64 x.1 ∧ U64 x.2) := Lib.hid hr64
  have HLEN : Hid (L.length ≤ 134217728) := Lib.hid hlen
  clear hin hp hh hx hy hU hU2 hOV hval hr64 hlen hL hpk htk hpl HXI HYI HXH HYH HI HH hn1
  obtain ⟨boot, ra, rc, rs, ⟨nm, pa, pc, ps, ka, kc, ks⟩⟩ := t
  obtain ⟨xn, xpa, xpc, xps, xka, xkc, xks⟩ := x
  obtain ⟨yn, ypa, ypc, yps, yka, ykc, yks⟩ := y
  replace CN : Hid (∀ W (hW : Below w.heap.size w W), Calls Try.prog 13 #[.agg #[.int .u32 boot, .slice ra rs.length rc, .string nm, .slice pa ps.length pc, .slice ka ks.length kc], .slice A n c] W fun e w' => e = .returned (.tuple #[.agg #[.string xn, .slice xpa xps.length xpc, .slice xka xks.length xkc], .bool true]) ∧ Below W.heap.size W w') := CN
  replace CP : Hid (∀ W (hW : Below w.heap.size w W), Calls Try.prog 13 #[.agg #[.int .u32 boot, .slice ra rs.length rc, .string nm, .slice pa ps.length pc, .slice ka ks.length kc], .slice A k c] W fun e w' => e = .returned (.tuple #[.agg #[.string yn, .slice ypa yps.length ypc, .slice yka yks.length ykc], .bool true]) ∧ Below W.heap.size W w') := CP
  replace CUP : Hid (∀ W (hW : Below w.heap.size w W) a s (ha : U64 a) (hs : U64 s), Calls Try.prog 14 #[.agg #[.int .u32 boot, .slice ra rs.length rc, .string nm, .slice pa ps.length pc, .slice ka ks.length kc], .slice A k c, .int .u64 a, .int .u64 s] W fun e w' => e = .returned (upVal (U a s)) ∧ Below W.heap.size W w') := CUP
  replace CR : Hid (∀ W (hW : Below w.heap.size w W), Calls Try.prog 35 #[.agg #[.string yn, .slice ypa yps.length ypc, .slice yka yks.length ykc], .agg #[.string xn, .slice xpa xps.length xpc, .slice xka xks.length xkc]] W fun e w' => (∃ A m c, e = .returned (.tuple #[.slice A m c, .bool okr]) ∧ Cel2 w' w'.heap.size A m (L.map winV) ∧ m ≤ c ∧ c ≤ 9223372036854775807) ∧ Below W.heap.size W w') := CR
  show Calls _ _ #[.agg #[.int .u32 boot, .slice ra rs.length rc, .string nm, .slice pa ps.length pc, .slice ka ks.length kc], _] _ _
  generalize xks.length = xkl at *
  generalize xps.length = xpl at *
  generalize yks.length = ykl at *
  generalize yps.length = ypl at *
  have K1 : IntKind.i64.wrap ((n : Int) - 1) = (k : Int) := by
    have e : (n : Int) - 1 = (k : Int) := by omega
    rw [e]; exact IntWalk.i64_in _ (by omega)
  have R2 : ∀ W : World, (Instr.slice 44 (.slice A n c) none (some (.int .i64 (k : Int))) none).run Try.prog W = .ok (.slice A k c) W := fun W => run_upto Try.underlying44 size_intx A n c _ k rfl (by omega) W
  have HB := Lib.hid ((Below.refl w.heap.size w).alloc (Nat.le_refl _) (.cells #[.int .u32 boot, .slice ra rs.length rc, .string nm, .slice pa ps.length pc, .slice ka ks.length kc] 31))
  have BX := Lib.hid (box6_cells w (.int .u32 boot) (.slice ra rs.length rc) (.string nm) (.slice pa ps.length pc) (.slice ka ks.length kc))
  obtain ⟨b0, b1, b2, b3, b4⟩ := BX.out _ (Below.refl _ _)
  go_enter Try.func16, Try.ntmps16
  go_wp2_with fail
  obtain ⟨w0, hw0⟩ : ∃ w0, w0 = w.alloc (.cells #[.int .u32 boot, .slice ra rs.length rc, .string nm, .slice pa ps.length pc, .slice ka ks.length kc] 31) := ⟨_, rfl⟩
  rw [← hw0] at HB BX ⊢
  have HW0 : Hid (w0.heap.size = w.heap.size + 1) := Lib.hid (by rw [hw0]; simp)
  clear hw0 b0 b1 b2 b3 b4
  have HSS : Hid (∀ W, Below w0.heap.size w0 W → (W.cell? ⟨w.heap.size, 0, none⟩ = some (.int .u32 boot) ∧ W.cell? ⟨w.heap.size, 1, none⟩ = some (.slice ra rs.length rc) ∧ W.cell? ⟨w.heap.size, 2, none⟩ = some (.string nm) ∧ W.cell? ⟨w.heap.size, 3, none⟩ = some (.slice pa ps.length pc) ∧ W.cell? ⟨w.heap.size, 4, none⟩ = some (.slice ka ks.length kc))) := Lib.hid (fun W hW => BX.out W (hW.mono (by have := HW0.out; simp; omega)))
  refine (CP.out _ HB.out).mono ?_
  rintro e w1 ⟨rfl, hb1⟩
  have HB1 := Lib.hid hb1
  have HY1 : Hid (Below w0.heap.size w0 (w1.alloc (.cells #[.string yn, .slice ypa ypl ypc, .slice yka ykl ykc] 25))) := Lib.hid (hb1.alloc hb1.size _)
  obtain ⟨b0, b1, b2, b3, b4⟩ := HSS.out _ HY1.out
  clear hb1 CP
  go_wp2_with fail
  refine (CN.out _ (HB.out.trans (HY1.out.mono HB.out.size))).mono ?_
  rintro e w2 ⟨rfl, hb2⟩
  have HB2 := Lib.hid (HY1.out.trans (hb2.mono HY1.out.size))
  have HX2 : Hid (Below w2.heap.size w2 (w2.alloc (.cells #[.string xn, .slice xpa xpl xpc, .slice xka xkl xkc] 25))) := Lib.hid ((Below.refl w2.heap.size w2).alloc (Nat.le_refl _) _)
  have hg1 : w1.heap.size < (w1.alloc (.cells #[.string yn, .slice ypa ypl ypc, .slice yka ykl ykc] 25)).heap.size := by simp
  have hk1 : (w2.alloc (.cells #[.string xn, .slice xpa xpl xpc, .slice xka xkl xkc] 25)).heap[w1.heap.size]? = some (.cells #[.string yn, .slice ypa ypl ypc, .slice yka ykl ykc] 25 (0, 0)) := (HX2.out.block w1.heap.size (Nat.lt_of_lt_of_le hg1 hb2.size)).trans ((hb2.block w1.heap.size hg1).trans (heap_alloc_new w1 _))
  have hk2 : (w2.alloc (.cells #[.string xn, .slice xpa xpl xpc, .slice xka xkl xkc] 25)).heap[w2.heap.size]? = some (.cells #[.string xn, .slice xpa xpl xpc, .slice xka xkl xkc] 25 (0, 0)) := heap_alloc_new w2 _
  have HBW : Hid (Below w0.heap.size w0 (w2.alloc (.cells #[.string xn, .slice xpa xpl xpc, .slice xka xkl xkc] 25))) := Lib.hid (HB2.out.trans (HX2.out.mono HB2.out.size))
  have c0 : (w2.alloc (.cells #[.string xn, .slice xpa xpl xpc, .slice xka xkl xkc] 25)).cell? ⟨w1.heap.size, 0, none⟩ = some (.string yn) := by rw [Lib.cell_of_heap hk1]; rfl
  have c1 : (w2.alloc (.cells #[.string xn, .slice xpa xpl xpc, .slice xka xkl xkc] 25)).cell? ⟨w1.heap.size, 1, none⟩ = some (.slice ypa ypl ypc) := by rw [Lib.cell_of_heap hk1]; rfl
  have c2 : (w2.alloc (.cells #[.string xn, .slice xpa xpl xpc, .slice xka xkl xkc] 25)).cell? ⟨w1.heap.size, 2, none⟩ = some (.slice yka ykl ykc) := by rw [Lib.cell_of_heap hk1]; rfl
  have e0 : (w2.alloc (.cells #[.string xn, .slice xpa xpl xpc, .slice xka xkl xkc] 25)).cell? ⟨w2.heap.size, 0, none⟩ = some (.string xn) := by rw [Lib.cell_of_heap hk2]; rfl
  have e1 : (w2.alloc (.cells #[.string xn, .slice xpa xpl xpc, .slice xka xkl xkc] 25)).cell? ⟨w2.heap.size, 1, none⟩ = some (.slice xpa xpl xpc) := by rw [Lib.cell_of_heap hk2]; rfl
  have e2 : (w2.alloc (.cells #[.string xn, .slice xpa xpl xpc, .slice xka xkl xkc] 25)).cell? ⟨w2.heap.size, 2, none⟩ = some (.slice xka xkl xkc) := by rw [Lib.cell_of_heap hk2]; rfl
  have HC := Lib.hid (CR.out _ (HB.out.trans (HBW.out.mono HB.out.size)))
  clear hk1 hk2 hb2 hg1 b0 b1 b2 b3 b4 CN
  go_wp2_with fail
  refine HC.out.mono ?_
  rintro e w3 ⟨⟨A3, m3, c3, rfl, s3, l3, l3'⟩, hb3⟩
  have HB3 := Lib.hid (HBW.out.trans (hb3.mono HBW.out.size))
  have HBZ := Lib.hid (HB.out.trans (HB3.out.mono HB.out.size))
  have HS3 := Lib.hid s3
  have hl3 : L.length = m3 := by have := s3.1; rwa [List.length_map] at this
  have hm3 : m3 ≤ 134217728 := by rw [← hl3]; exact HLEN.out
  have HL3 := Lib.hid hl3
  clear hb3 s3 c0 c1 c2 e0 e1 e2 hl3
  cases okr
  · have HO : Hid (OV = (false, [])) := Lib.hid (by rw [← HREL.out, if_pos rfl])
    go_wp2
    go_ret2
    exact ⟨⟨none, 0, 0, by (rw [HO.out] <;> rfl), by rw [HO.out]; exact Cel2.nil _ _ _, Nat.le_refl _, by omega⟩, HBZ.out⟩
  · have HREL2 : Hid (winUp U [] L = OV) := Lib.hid (by have h := HREL.out; rwa [if_neg (by simp)] at h)
    obtain ⟨g3, hg3⟩ : ∃ g3, g3 = w3.heap.size := ⟨_, rfl⟩
    have HG3 := Lib.hid hg3
    clear hg3
    go_wp2_with fail
    go_loopw [13, 44] (fun out i wr => ∃ (j : Nat) (acc : List (Int × Int)), j ≤ m3 ∧ acc.length = j ∧ i = .int .i64 j ∧ wr.ownsRow g3 60 2 out j (flat2 (acc.map winV)) ∧ winUp U acc (L.drop j) = OV ∧ Below g3 w3 wr) (fun _ i _ => m3 - (intOf i).toNat)
    case atStart => exact ⟨0, [], Nat.zero_le _, rfl, rfl, World.ownsRow_nil _ _ _ _, HREL2.out, Below.refl _ _⟩
    case round =>
      obtain ⟨j, acc, hj, hal, rfl, hown, hsum, hb⟩ := hrel
      have HAL := Lib.hid hal
      have HO2 := Lib.hid hown
      have HSUM := Lib.hid hsum
      have HBX := Lib.hid hb
      have HBX3 := Lib.hid (show Below w3.heap.size w3 wr by have h := hb; rwa [HG3.out] at h)
      have HBQ := Lib.hid (HBZ.out.trans (HBX3.out.mono HBZ.out.size))
      obtain ⟨Ao, co, rfl, hcel, hco1, hco2, _⟩ := owned_cel2 hown
      have HCEL := Lib.hid hcel
      clear hal hown hsum hb hcel
      by_cases hlt : j < m3
      · have hjl : j < L.length := by rw [HL3.out]; exact hlt
        obtain ⟨b, o, e, hbl, hc⟩ := (HS3.out.on HBX3.out).2 (by omega)
        obtain rfl : A3 = _ := e
        obtain ⟨p0, p1⟩ := hc j (by rw [List.length_map]; exact hjl)
        rw [List.getElem_map] at p0 p1
        have h64 := H64.out _ (List.getElem_mem hjl)
        have hdrop : L.drop j = L[j] :: L.drop (j + 1) := (List.getElem_cons_drop (h := hjl)).symm
        have hsum := HSUM.out
        rw [hdrop, winUp] at hsum
        generalize L[j] = Y at *
        obtain ⟨wa, ws⟩ := Y
        replace p0 : wr.cell? ⟨b, o + j * 2, none⟩ = some (.int .u64 wa) := p0
        replace p1 : wr.cell? ⟨b, o + j * 2 + 1, none⟩ = some (.int .u64 ws) := p1
        obtain ⟨u1, u2⟩ := h64
        have CUX := Lib.hid (fun W (hW : Below wr.heap.size wr W) => CUP.out W (HBQ.out.trans (hW.mono HBQ.out.size)) wa ws u1 u2)
        obtain ⟨uv, huv⟩ : ∃ uv, U wa ws = uv := ⟨_, rfl⟩
        rw [huv] at CUX
        have HSX : Hid (uv.elim (false, []) (fun b => winUp U (acc ++ [(b, ws)]) (L.drop (j + 1))) = OV) := Lib.hid (by rw [← huv]; revert hsum; cases U wa ws <;> exact id)
        clear hc hjl hdrop hsum huv
        have HP : Hid (∀ V, Below wr.heap.size wr V → ((V.cell? ⟨w.heap.size, 0, none⟩ = some (.int .u32 boot) ∧ V.cell? ⟨w.heap.size, 1, none⟩ = some (.slice ra rs.length rc) ∧ V.cell? ⟨w.heap.size, 2, none⟩ = some (.string nm) ∧ V.cell? ⟨w.heap.size, 3, none⟩ = some (.slice pa ps.length pc) ∧ V.cell? ⟨w.heap.size, 4, none⟩ = some (.slice ka ks.length kc)) ∧ V.cell? ⟨b, o + j * 2, none⟩ = some (.int .u64 wa) ∧ V.cell? ⟨b, o + j * 2 + 1, none⟩ = some (.int .u64 ws))) := Lib.hid (fun V hV => ⟨HSS.out V (HB3.out.trans ((HBX3.out.trans (hV.mono HBX3.out.size)).mono HB3.out.size)), (hV.cell (p := ⟨b, o + j * 2, none⟩) hbl).trans p0, (hV.cell (p := ⟨b, o + j * 2 + 1, none⟩) hbl).trans p1⟩)
        have HD2 := Lib.hid (Below.refl wr.heap.size wr).drew
        clear p0 p1
        go_wp2_with fail
        refine wp_region_held_drew (S := fun V => (V.cell? ⟨w.heap.size, 0, none⟩ = some (.int .u32 boot) ∧ V.cell? ⟨w.heap.size, 1, none⟩ = some (.slice ra rs.length rc) ∧ V.cell? ⟨w.heap.size, 2, none⟩ = some (.string nm) ∧ V.cell? ⟨w.heap.size, 3, none⟩ = some (.slice pa ps.length pc) ∧ V.cell? ⟨w.heap.size, 4, none⟩ = some (.slice ka ks.length kc)) ∧ V.cell? ⟨b, o + j * 2, none⟩ = some (.int .u64 wa) ∧ V.cell? ⟨b, o + j * 2 + 1, none⟩ = some (.int .u64 ws)) (by kernel_rfl) (HP.out _ HD2.out) (fun hHeld => ?_)
        refine held_take 0 rfl (by kernel_rfl) (by kernel_rfl) (by kernel_rfl) (fun _ _ _ h => h) (by rfl) hHeld (v := ?_) (fun w hSw => ?_) (fun _ => ?_)
        rotate_left
        · ((try dsimp only at hSw); go_simp; (try with_reducible rfl))
        simp only [Act.put, List.setIfInBounds_toArray, List.set_cons_zero, List.set_cons_succ]
        refine held_take 1 rfl (by kernel_rfl) (by kernel_rfl) (by kernel_rfl) (fun _ _ _ h => h) (by rfl) hHeld (v := ?_) (fun w hSw => ?_) (fun _ => ?_)
        rotate_left
        · ((try dsimp only at hSw); go_simp; (try with_reducible rfl))
        simp only [Act.put, List.setIfInBounds_toArray, List.set_cons_zero, List.set_cons_succ]
        refine held_take 2 rfl (by kernel_rfl) (by kernel_rfl) (by kernel_rfl) (fun _ _ _ h => h) (by rfl) hHeld (v := ?_) (fun w hSw => ?_) (fun _ => ?_)
        rotate_left
        · ((try dsimp only at hSw); go_simp; (try with_reducible rfl))
        simp only [Act.put, List.setIfInBounds_toArray, List.set_cons_zero, List.set_cons_succ]
        refine held_take 3 rfl (by kernel_rfl) (by kernel_rfl) (by kernel_rfl) (fun _ _ _ h => h) (by rfl) hHeld (v := ?_) (fun w hSw => ?_) (fun _ => ?_)
        rotate_left
        · ((try dsimp only at hSw); go_simp; (try with_reducible rfl))
        simp only [Act.put, List.setIfInBounds_toArray, List.set_cons_zero, List.set_cons_succ]
        refine held_take 4 rfl (by kernel_rfl) (by kernel_rfl) (by kernel_rfl) (fun _ _ _ h => h) (by rfl) hHeld (v := ?_) (fun w hSw => ?_) (fun _ => ?_)
        rotate_left
        · ((try dsimp only at hSw); go_simp; (try with_reducible rfl))
        simp only [Act.put, List.setIfInBounds_toArray, List.set_cons_zero, List.set_cons_succ]
        refine held_take 5 rfl (by kernel_rfl) (by kernel_rfl) (by kernel_rfl) (fun _ _ _ h => h) (by rfl) hHeld (v := ?_) (fun w hSw => ?_) (fun _ => ?_)
        rotate_left
        · ((try dsimp only at hSw); go_simp; (try with_reducible rfl))
        simp only [Act.put, List.setIfInBounds_toArray, List.set_cons_zero, List.set_cons_succ]
        refine held_take 6 rfl (by kernel_rfl) (by kernel_rfl) (by kernel_rfl) (fun _ _ _ h => h) (by rfl) hHeld (v := ?_) (fun w hSw => ?_) (fun _ => ?_)
        rotate_left
        · ((try dsimp only at hSw); go_simp; (try with_reducible rfl))
        simp only [Act.put, List.setIfInBounds_toArray, List.set_cons_zero, List.set_cons_succ]
        refine held_take 7 rfl (by kernel_rfl) (by kernel_rfl) (by kernel_rfl) (fun _ _ _ h => h) (by rfl) hHeld (v := ?_) (fun w hSw => ?_) (fun _ => ?_)
        rotate_left
        · ((try dsimp only at hSw); go_simp; (try with_reducible rfl))
        simp only [Act.put, List.setIfInBounds_toArray, List.set_cons_zero, List.set_cons_succ]
        refine held_take 8 rfl (by kernel_rfl) (by kernel_rfl) (by kernel_rfl) (fun _ _ _ h => h) (by rfl) hHeld (v := ?_) (fun w hSw => ?_) (fun _ => ?_)
        rotate_left
        · ((try dsimp only at hSw); go_simp; (try with_reducible rfl))
        simp only [Act.put, List.setIfInBounds_toArray, List.set_cons_zero, List.set_cons_succ]
        refine held_take 9 rfl (by kernel_rfl) (by kernel_rfl) (by kernel_rfl) (fun _ _ _ h => h) (by rfl) hHeld (v := ?_) (fun w hSw => ?_) (fun _ => ?_)
        rotate_left
        · ((try dsimp only at hSw); go_simp; (try with_reducible rfl))
        simp only [Act.put, List.setIfInBounds_toArray, List.set_cons_zero, List.set_cons_succ]
        refine held_take 10 rfl (by kernel_rfl) (by kernel_rfl) (by kernel_rfl) (fun _ _ _ h => h) (by rfl) hHeld (v := ?_) (fun w hSw => ?_) (fun _ => ?_)
        rotate_left
        · ((try dsimp only at hSw); go_simp; (try with_reducible rfl))
        simp only [Act.put, List.setIfInBounds_toArray, List.set_cons_zero, List.set_cons_succ]
        refine held_take 11 rfl (by kernel_rfl) (by kernel_rfl) (by kernel_rfl) (fun _ _ _ h => h) (by rfl) hHeld (v := ?_) (fun w hSw => ?_) (fun _ => ?_)
        rotate_left
        · ((try dsimp only at hSw); go_simp; (try with_reducible rfl))
        simp only [Act.put, List.setIfInBounds_toArray, List.set_cons_zero, List.set_cons_succ]
        refine held_call 12 (by kernel_rfl) rfl (by rfl) (fun K hK => ?_)
        go_simp
        refine (CUX.out _ HD2.out).mono ?_
        rintro e w4 ⟨rfl, hb4⟩
        have HD4 := Lib.hid (HD2.out.trans hb4)
        have HB4 := Lib.hid (show Below wr.heap.size wr w4 from HD4.out)
        clear hb4
        dsimp only
        refine hK.out _ _ (HP.out _ HD4.out) (fun hHeld => ?_)
        clear hK K
        cases uv with
        | none =>
          have HO : Hid (OV = (false, [])) := Lib.hid HSX.out.symm
          have HBE := Lib.hid (HBQ.out.trans (HB4.out.mono HBQ.out.size))
          simp only [upVal]
          refine held_take 13 rfl (by kernel_rfl) (by kernel_rfl) (by kernel_rfl) (fun _ _ _ h => h) (by rfl) hHeld (v := ?_) (fun w hSw => ?_) (fun _ => ?_)
          rotate_left
          · ((try dsimp only at hSw); go_simp; (try with_reducible rfl))
          simp only [Act.put, List.setIfInBounds_toArray, List.set_cons_zero, List.set_cons_succ]
          refine held_take 14 rfl (by kernel_rfl) (by kernel_rfl) (by kernel_rfl) (fun _ _ _ h => h) (by rfl) hHeld (v := ?_) (fun w hSw => ?_) (fun _ => ?_)
          rotate_left
          · ((try dsimp only at hSw); go_simp; (try with_reducible rfl))
          simp only [Act.put, List.setIfInBounds_toArray, List.set_cons_zero, List.set_cons_succ]
          refine held_take 15 rfl (by kernel_rfl) (by kernel_rfl) (by kernel_rfl) (fun _ _ _ h => h) (by rfl) hHeld (v := ?_) (fun w hSw => ?_) (fun _ => ?_)
          rotate_left
          · ((try dsimp only at hSw); go_simp; (try with_reducible rfl))
          simp only [Act.put, List.setIfInBounds_toArray, List.set_cons_zero, List.set_cons_succ]
          refine held_take 16 rfl (by kernel_rfl) (by kernel_rfl) (by kernel_rfl) (fun _ _ _ h => h) (by rfl) hHeld (v := ?_) (fun w hSw => ?_) (fun _ => ?_)
          rotate_left
          · ((try dsimp only at hSw); go_simp; (try with_reducible rfl))
          simp only [Act.put, List.setIfInBounds_toArray, List.set_cons_zero, List.set_cons_succ]
          refine held_take 17 rfl (by kernel_rfl) (by kernel_rfl) (by kernel_rfl) (fun _ _ _ h => h) (by rfl) hHeld (v := ?_) (fun w hSw => ?_) (fun _ => ?_)
          rotate_left
          · ((try dsimp only at hSw); go_simp; (try with_reducible rfl))
          simp only [Act.put, List.setIfInBounds_toArray, List.set_cons_zero, List.set_cons_succ]
          refine wpAnyH_done (by kernel_rfl) ?_ _
          clear hHeld
          go_wp2
          go_ret2
          exact ⟨⟨none, 0, 0, by (rw [HO.out] <;> rfl), by rw [HO.out]; exact Cel2.nil _ _ _, Nat.le_refl _, by omega⟩, HBE.out⟩
        | some bv =>
          simp only [upVal]
          refine held_take 13 rfl (by kernel_rfl) (by kernel_rfl) (by kernel_rfl) (fun _ _ _ h => h) (by rfl) hHeld (v := ?_) (fun w hSw => ?_) (fun _ => ?_)
          rotate_left
          · ((try dsimp only at hSw); go_simp; (try with_reducible rfl))
          simp only [Act.put, List.setIfInBounds_toArray, List.set_cons_zero, List.set_cons_succ]
          refine held_take 14 rfl (by kernel_rfl) (by kernel_rfl) (by kernel_rfl) (fun _ _ _ h => h) (by rfl) hHeld (v := ?_) (fun w hSw => ?_) (fun _ => ?_)
          rotate_left
          · ((try dsimp only at hSw); go_simp; (try with_reducible rfl))
          simp only [Act.put, List.setIfInBounds_toArray, List.set_cons_zero, List.set_cons_succ]
          refine held_take 15 rfl (by kernel_rfl) (by kernel_rfl) (by kernel_rfl) (fun _ _ _ h => h) (by rfl) hHeld (v := ?_) (fun w hSw => ?_) (fun _ => ?_)
          rotate_left
          · ((try dsimp only at hSw); go_simp; (try with_reducible rfl))
          simp only [Act.put, List.setIfInBounds_toArray, List.set_cons_zero, List.set_cons_succ]
          refine held_take 16 rfl (by kernel_rfl) (by kernel_rfl) (by kernel_rfl) (fun _ _ _ h => h) (by rfl) hHeld (v := ?_) (fun w hSw => ?_) (fun _ => ?_)
          rotate_left
          · ((try dsimp only at hSw); go_simp; (try with_reducible rfl))
          simp only [Act.put, List.setIfInBounds_toArray, List.set_cons_zero, List.set_cons_succ]
          refine held_take 17 rfl (by kernel_rfl) (by kernel_rfl) (by kernel_rfl) (fun _ _ _ h => h) (by rfl) hHeld (v := ?_) (fun w hSw => ?_) (fun _ => ?_)
          rotate_left
          · ((try dsimp only at hSw); go_simp; (try with_reducible rfl))
          simp only [Act.put, List.setIfInBounds_toArray, List.set_cons_zero, List.set_cons_succ]
          refine wpAnyH_done (by kernel_rfl) ?_ _
          clear hHeld
          obtain ⟨_, _, q1⟩ := HP.out _ HD4.out
          have ho4 := own_on HO2.out HB4.out
          obtain ⟨i0, hi, hz, hs1, hby⟩ := info_any info_win
          obtain ⟨A', c', w5, r5, o5, b5, _, _⟩ := app_pair Try.underlying56 hi hz hs1 hby rfl (w := w4) ho4 (.int .u64 bv, .int .u64 ws) rfl rfl (by omega) (by omega) (by have h1 := HBX.out.size; have h2 := HB4.out.size; have h3 := HG3.out; have h4 := HBX3.out.size; omega) 56
          have HO5 : Hid (w5.ownsRow g3 60 2 (.slice A' (j + 1) c') (j + 1) (flat2 ((acc ++ [(bv, ws)]).map winV))) := Lib.hid (by rw [List.map_append]; exact o5)
          have HB5 := Lib.hid (HBX.out.trans ((HB4.out.mono (by have h1 := HBX.out.size; have h2 := HG3.out; omega)).trans b5))
          clear ho4 o5 b5 hi hz hs1 hby
          go_wp2_with (at_builtin; refine Lib.wpList_append_run_sl _ rfl _ _ _ rfl _ _ rfl rfl r5 ?_)
          go_roundw
          case rel => exact ⟨j + 1, acc ++ [(bv, ws)], by omega, by (have := HAL.out; simp; omega), by go_num, HO5.out, HSX.out, HB5.out⟩
          case measure => simp [intOf]; omega
      · obtain rfl : j = m3 := by omega
        have HO : Hid (OV = (true, acc)) := Lib.hid (by
          have h := HSUM.out
          rw [List.drop_of_length_le (by rw [HL3.out]; exact Nat.le_refl _), winUp] at h
          exact h.symm)
        go_wp2
        go_ret2
        exact ⟨⟨Ao, j, co, by (rw [HO.out] <;> rfl), by rw [HO.out]; exact HCEL.out, hco1, hco2⟩, HBQ.out⟩
end Go.Proofs.Ytbblgkidgecdpaa

/-! Layer 13, XlateRanges, XlateUp, XlateWindows: out of what the program's Ranges, Up and Windows answer. -/
namespace Go.Proofs.Ytbblgkidgecdpaa
open Go.RowKit
set_option linter.unusedVariables false
set_option linter.unusedSimpArgs false

def Awake13 : Prop := ∀ w : World, Calls Try.prog 7 #[] w fun e w' => e = .returned (.bool true) ∧ Below w.heap.size w w'
/-- What the program's Ranges answers. -/
def XRangesOK : Prop := ∀ (parent n : Nd) (w : World), parent.In w w.heap.size → n.In w w.heap.size → heftN parent ≤ 1073741824 → heftN n ≤ 1073741824 → Calls Try.prog 9 #[parent.val, n.val] w fun e w' =>
  ((rangesV parent n).2.1 = true → ∃ A m c, e = .returned (.tuple #[.slice A m c, .bool (rangesV parent n).1, .int .i64 0]) ∧ Cel3 w' w'.heap.size A m ((rangesV parent n).2.2.map rngV) ∧ m ≤ c ∧ c ≤ 9223372036854775807) ∧ ((rangesV parent n).2.1 = false → ∃ A c, e = .returned (.tuple #[.slice A 0 c, .bool false, .int .i64 10]) ∧ c ≤ 9223372036854775807) ∧ Below w.heap.size w w'
/-- What the program's Up answers, of a formed tree and a place of 40 at most. -/
def XUpOK : Prop := ∀ (t : Tr) (z : List Int) (A : Option Addr) (n c : Nat) (a s : Int) (w : World), t.In w w.heap.size → Cel w w.heap.size A n (intsZ z) → n ≤ c → c ≤ 9223372036854775807 → heftN t.root ≤ 134217728 → U64 a → U64 s → n ≤ 40 → checkE t = 0 → Calls Try.prog 12 #[t.val, .slice A n c, .int .u64 a, .int .u64 s] w fun e w' =>
  (nodeZ t.root z = none → e = .returned (.tuple #[.int .u64 0, .int .i64 8])) ∧ ((∃ y, nodeZ t.root z = some y) → (upV t.root z s n a = none → ∃ er : Int, e = .returned (.tuple #[.int .u64 0, .int .i64 er]) ∧ (er = 12 ∨ er = 10)) ∧ (∀ b, upV t.root z s n a = some b → e = .returned (.tuple #[.int .u64 b, .int .i64 0]))) ∧ Below w.heap.size w w'
/-- What the program's Windows answers, of a formed tree and a place of 40 at most. -/
def XWindowsOK : Prop := ∀ (t : Tr) (z : List Int) (A : Option Addr) (n c : Nat) (w : World), t.In w w.heap.size → Cel w w.heap.size A n (intsZ z) → n ≤ c → c ≤ 9223372036854775807 → heftN t.root ≤ 134217728 → n ≤ 40 → checkE t = 0 → Calls Try.prog 15 #[t.val, .slice A n c] w fun e w' =>
  (nodeZ t.root z = none → ∃ A c, e = .returned (.tuple #[.slice A 0 c, .int .i64 8]) ∧ c ≤ 9223372036854775807) ∧ ((∃ y, nodeZ t.root z = some y) → (n = 0 → ∃ A c, e = .returned (.tuple #[.slice A 0 c, .int .i64 1]) ∧ c ≤ 9223372036854775807) ∧ (0 < n → ((winsV t.root z n).1 = false → ∃ A c, ∃ er : Int, e = .returned (.tuple #[.slice A 0 c, .int .i64 er]) ∧ c ≤ 9223372036854775807 ∧ (er = 12 ∨ er = 10)) ∧ ((winsV t.root z n).1 = true → ∃ A m c, e = .returned (.tuple #[.slice A m c, .int .i64 0]) ∧ Cel2 w' w'.heap.size A m ((winsV t.root z n).2.map winV) ∧ m ≤ c ∧ c ≤ 9223372036854775807))) ∧ Below w.heap.size w w'

theorem few13 (n : Nd) (w : World) (hin : n.In w w.heap.size) : Calls Try.prog 8 #[(Tr.mk 0 none 0 [] n).val] w fun e w' => (∃ r : Bool, e = .returned (.bool r)) ∧ Below w.heap.size w w' :=
  few_any ⟨0, none, 0, [], n⟩ w ⟨⟨by show (0 : Int) ≤ 0; decide, by show (0 : Int) ≤ _; decide⟩, ⟨by simp, by simp, by simp⟩, fun h => absurd h (by simp), fun r h => by simp at h, hin⟩


set_option maxRecDepth 20000 in
set_option maxHeartbeats 8000000 in
theorem xlateRanges_true (hK : Awake13) (hC : XRangesOK) (parent n : Nd) (w : World) (hpn : parent.In w w.heap.size) (hin : n.In w w.heap.size) (hz1 : heftN parent ≤ 1073741824) (hz2 : heftN n ≤ 1073741824) :
    Calls Try.prog 3 #[parent.val, n.val] w fun e w' => e = .returned (.bool true) ∧ Below w.heap.size w w' := by
  have HK := Lib.hid hK
  have F1 := Lib.hid (fun W (hW : Below w.heap.size w W) => few13 parent W (Nd.In.more hW.size (hpn.under hW)))
  have F2 := Lib.hid (fun W (hW : Below w.heap.size w W) => few13 n W (Nd.In.more hW.size (hin.under hW)))
  have C1 := Lib.hid (fun W (hW : Below w.heap.size w W) => hC parent n W (Nd.In.more hW.size (hpn.under hW)) (Nd.In.more hW.size (hin.under hW)) hz1 hz2)
  have D1 := Lib.hid (fun W (hW : Below w.heap.size w W) => refranges_any parent n W (Nd.In.more hW.size (hpn.under hW)) (Nd.In.more hW.size (hin.under hW)) hz1 hz2)
  obtain ⟨O, hO⟩ : ∃ O, rangesV parent n = O := ⟨_, rfl⟩
  rw [hO] at C1 D1
  clear hK hC hin hpn hz1 hz2 hO
  obtain ⟨o1, ok, L⟩ := O
  simp only at C1 D1
  obtain ⟨nm, pa, pc, ps, ka, kc, ks⟩ := parent
  obtain ⟨nm2, pa2, pc2, ps2, ka2, kc2, ks2⟩ := n
  simp only [Tr.val, Tr.rv, List.length_nil, Nd.val, Nd.pv, Nd.kv, Nd.name, Nd.pa, Nd.pc, Nd.props, Nd.ka, Nd.kc, Nd.kids] at F1 F2 C1 D1 ⊢
  have HB := Lib.hid (((Below.refl w.heap.size w).alloc (Nat.le_refl _) (.cells #[Value.string nm, .slice pa ps.length pc, .slice ka ks.length kc] 25)).alloc (by simp) (.cells #[Value.string nm2, .slice pa2 ps2.length pc2, .slice ka2 ks2.length kc2] 25))
  have BX : Hid (∀ W, Below (w.heap.size + 2) ((w.alloc (.cells #[Value.string nm, .slice pa ps.length pc, .slice ka ks.length kc] 25)).alloc (.cells #[Value.string nm2, .slice pa2 ps2.length pc2, .slice ka2 ks2.length kc2] 25)) W → W.cell? ⟨w.heap.size, 0, none⟩ = some (.string nm) ∧ W.cell? ⟨w.heap.size, 1, none⟩ = some (.slice pa ps.length pc) ∧ W.cell? ⟨w.heap.size, 2, none⟩ = some (.slice ka ks.length kc) ∧ W.cell? ⟨w.heap.size + 1, 0, none⟩ = some (.string nm2) ∧ W.cell? ⟨w.heap.size + 1, 1, none⟩ = some (.slice pa2 ps2.length pc2) ∧ W.cell? ⟨w.heap.size + 1, 2, none⟩ = some (.slice ka2 ks2.length kc2)) := Lib.hid (fun W h => by
    have e1 : (w.alloc (.cells #[Value.string nm, .slice pa ps.length pc, .slice ka ks.length kc] 25)).heap.size = w.heap.size + 1 := by simp
    have y : ∀ k, W.cell? ⟨w.heap.size, k, none⟩ = (w.alloc (.cells #[Value.string nm, .slice pa ps.length pc, .slice ka ks.length kc] 25)).cell? ⟨w.heap.size, k, none⟩ := fun k => (h.cell (p := ⟨w.heap.size, k, none⟩) (by show w.heap.size < _; omega)).trans (World.cell?_alloc_lt _ _ _ (by rw [e1]; exact Nat.lt_succ_self _))
    have z : ∀ k, W.cell? ⟨w.heap.size + 1, k, none⟩ = #[Value.string nm2, .slice pa2 ps2.length pc2, .slice ka2 ks2.length kc2][k]? := fun k => by
      refine (h.cell (p := ⟨w.heap.size + 1, k, none⟩) (by show w.heap.size + 1 < _; omega)).trans ?_
      rw [← e1]
      exact World.cell?_alloc_new _ _ _ _
    exact ⟨(y 0).trans (World.cell?_alloc_new _ _ _ _), (y 1).trans (World.cell?_alloc_new _ _ _ _), (y 2).trans (World.cell?_alloc_new _ _ _ _), z 0, z 1, z 2⟩)
  go_enter Try.func3, Try.ntmps3
  go_wp2_with fail
  refine (HK.out _).mono ?_
  rintro e w1 ⟨rfl, hb⟩
  have HB1 := Lib.hid (HB.out.trans (hb.mono HB.out.size))
  have HX1 := Lib.hid (hb.mono (B' := w.heap.size + 2) (by simp))
  clear hb
  obtain ⟨b0, b1, b2, d0, d1, d2⟩ := BX.out _ HX1.out
  go_wp2_with fail
  refine (F1.out _ HB1.out).mono ?_
  rintro e w2 ⟨⟨r1, rfl⟩, hb⟩
  have HB2 := Lib.hid (HB1.out.trans (hb.mono HB1.out.size))
  have HX2 := Lib.hid (HX1.out.trans (hb.mono (by have := HX1.out.size; simp at this; omega)))
  clear hb b0 b1 b2 d0 d1 d2
  obtain ⟨b0, b1, b2, d0, d1, d2⟩ := BX.out _ HX2.out
  cases r1
  · clear b0 b1 b2 d0 d1 d2
    go_wp2_with fail
    refine (HK.out _).mono ?_
    rintro e wz ⟨rfl, hb⟩
    have HBZ := Lib.hid (HB2.out.trans (hb.mono HB2.out.size))
    clear hb
    go_wp2
    go_ret
    exact ⟨rfl, HBZ.out⟩
  · go_wp2_with fail
    refine (F2.out _ HB2.out).mono ?_
    rintro e w3 ⟨⟨r2, rfl⟩, hb⟩
    have HB3 := Lib.hid (HB2.out.trans (hb.mono HB2.out.size))
    have HX3 := Lib.hid (HX2.out.trans (hb.mono (by have := HX2.out.size; simp at this; omega)))
    clear hb b0 b1 b2 d0 d1 d2
    obtain ⟨b0, b1, b2, d0, d1, d2⟩ := BX.out _ HX3.out
    cases r2
    · clear b0 b1 b2 d0 d1 d2
      go_wp2_with fail
      refine (HK.out _).mono ?_
      rintro e wz ⟨rfl, hb⟩
      have HBZ := Lib.hid (HB3.out.trans (hb.mono HB3.out.size))
      clear hb
      go_wp2
      go_ret
      exact ⟨rfl, HBZ.out⟩
    · go_wp2_with fail
      refine (C1.out _ HB3.out).mono ?_
      rintro e w4 ⟨ho1, ho2, hb⟩
      cases ok
      · obtain ⟨A4, c4, rfl, m4⟩ := ho2 rfl
        clear ho1 ho2
        have HB4 := Lib.hid (HB3.out.trans (hb.mono HB3.out.size))
        have HX4 := Lib.hid (HX3.out.trans (hb.mono (by have := HX3.out.size; simp at this; omega)))
        clear hb b0 b1 b2 d0 d1 d2
        obtain ⟨b0, b1, b2, d0, d1, d2⟩ := BX.out _ HX4.out
        go_wp2_with fail
        refine (D1.out _ HB4.out).mono ?_
        rintro e w5 ⟨⟨A5, m5, c5, rfl, s5, l5⟩, hb⟩
        have HB5 := Lib.hid (HB4.out.trans (hb.mono HB4.out.size))
        clear hb s5 l5 b0 b1 b2 d0 d1 d2
        go_wp2
        go_ret
        exact ⟨rfl, HB5.out⟩
      · obtain ⟨A4, m4, c4, rfl, s4, l4, l4'⟩ := ho1 rfl
        have HS4 := Lib.hid s4
        clear ho1 ho2 s4
        have HB4 := Lib.hid (HB3.out.trans (hb.mono HB3.out.size))
        have HX4 := Lib.hid (HX3.out.trans (hb.mono (by have := HX3.out.size; simp at this; omega)))
        clear hb b0 b1 b2 d0 d1 d2
        obtain ⟨b0, b1, b2, d0, d1, d2⟩ := BX.out _ HX4.out
        go_wp2_with fail
        refine (D1.out _ HB4.out).mono ?_
        rintro e w5 ⟨⟨A5, m5, c5, rfl, s5, l5, l5'⟩, hb⟩
        have HB5 := Lib.hid (HB4.out.trans (hb.mono HB4.out.size))
        have HS5 := Lib.hid s5
        have HS4' := Lib.hid (HS4.out.on hb)
        obtain rfl : m4 = m5 := by rw [← HS4.out.1, ← s5.1]
        have HLN : Hid (L.length = m4) := Lib.hid (by have := s5.1; rwa [List.length_map] at this)
        have q1 : ((m4 : Int) != (m4 : Int)) = false := by simp
        have q2 : (o1 != o1) = false := by simp
        clear hb s5 b0 b1 b2 d0 d1 d2 HS4
        go_wp2_with fail
        go_loopw [70] (fun i wr => ∃ j : Nat, j ≤ m4 ∧ i = .int .i64 j ∧ Below w5.heap.size w5 wr) (fun i _ => m4 - (intOf i).toNat)
        case atStart => exact ⟨0, Nat.zero_le _, rfl, Below.refl _ _⟩
        case round =>
          obtain ⟨j, hj, rfl, hb⟩ := hrel
          have HBX := Lib.hid hb
          have HBW := Lib.hid (HB5.out.trans (hb.mono HB5.out.size))
          by_cases hlt : j < m4
          · have hjl : j < (L.map rngV).length := by rw [List.length_map, HLN.out]; exact hlt
            obtain ⟨b, o, e, _, hc⟩ := (HS4'.out.below hb).2 (by omega)
            obtain rfl : A4 = _ := e
            obtain ⟨b', o', e, _, hc'⟩ := (HS5.out.below hb).2 (by omega)
            obtain rfl : A5 = _ := e
            obtain ⟨p0, p1, p2⟩ := hc j hjl
            obtain ⟨q0, q1', q2'⟩ := hc' j hjl
            rw [List.getElem_map] at p0 p1 p2 q0 q1' q2'
            generalize L[j]'(by rw [HLN.out]; exact hlt) = Y at *
            obtain ⟨x, y, z⟩ := Y
            replace p0 : wr.cell? ⟨b, o + j * 3, none⟩ = some (.int .u64 x) := p0
            replace p1 : wr.cell? ⟨b, o + j * 3 + 1, none⟩ = some (.int .u64 y) := p1
            replace p2 : wr.cell? ⟨b, o + j * 3 + 2, none⟩ = some (.int .u64 z) := p2
            replace q0 : wr.cell? ⟨b', o' + j * 3, none⟩ = some (.int .u64 x) := q0
            replace q1' : wr.cell? ⟨b', o' + j * 3 + 1, none⟩ = some (.int .u64 y) := q1'
            replace q2' : wr.cell? ⟨b', o' + j * 3 + 2, none⟩ = some (.int .u64 z) := q2'
            clear hc hc' hb hjl
            go_wp2_with fail
            go_region
            go_wp2
            go_roundw
            case rel => exact ⟨j + 1, by omega, by go_num, HBX.out.drew⟩
            case measure => simp [intOf]; omega
          · clear hb
            go_wp2
            go_ret
            exact ⟨rfl, HBW.out⟩
end Go.Proofs.Ytbblgkidgecdpaa

/-! Layer 12: the program's goesBeyond, Inside, Meet. -/
namespace Go.Proofs.Ytbblgkidgecdpaa
open Go.RowKit
set_option linter.unusedVariables false
set_option linter.unusedSimpArgs false

theorem beyond_any (wa ws : Int) (w : World) (h1 : U64 wa) (h2 : U64 ws) (r : Bool) (hr : wholeB wa ws = !r) :
    Calls Try.prog 58 #[.agg #[.int .u64 wa, .int .u64 ws]] w fun e w' => e = .returned (.bool r) ∧ Below w.heap.size w w' := by
  have HB := Lib.hid ((Below.refl w.heap.size w).alloc (Nat.le_refl _) (.cells #[.int .u64 wa, .int .u64 ws] 61))
  obtain ⟨a0, a1⟩ := h1
  obtain ⟨s0, s1⟩ := h2
  by_cases h0 : ws = 0
  · subst h0
    obtain rfl : r = false := by cases r <;> simp [wholeB] at hr ⊢
    clear hr
    go_enter Try.func58, Try.ntmps58
    go_wp2
    go_ret
    exact ⟨rfl, HB.out⟩
  · have k1 : decide ((0 : Int) < ws) = true := decide_eq_true (by omega)
    have w1 : IntKind.u64.wrap (ws - 1) = ws - 1 := IntWalk.u64_in _ (by omega)
    have w2 : IntKind.u64.wrap (18446744073709551615 - wa) = 18446744073709551615 - wa := IntWalk.u64_in _ (by omega)
    have hr' : decide (18446744073709551615 - wa < ws - 1) = r := by
      rw [wholeB, decide_eq_false h0, Bool.false_or] at hr
      cases r <;> simp at hr ⊢ <;> omega
    clear hr
    go_enter Try.func58, Try.ntmps58
    go_wp2
    go_ret
    exact ⟨rfl, HB.out⟩

set_option maxHeartbeats 2000000 in
theorem insideOK : InsideOK := by
  intro wa ws a s w h1 h2 h3 h4
  obtain ⟨W0, hW0⟩ : ∃ W0, w.alloc (.cells #[.int .u64 wa, .int .u64 ws] 61) = W0 := ⟨_, rfl⟩
  have HB : Hid (Below w.heap.size w W0) := Lib.hid (by rw [← hW0]; exact (Below.refl w.heap.size w).alloc (Nat.le_refl _) _)
  have HS0 : Hid (W0.heap.size = w.heap.size + 1) := Lib.hid (by rw [← hW0]; simp)
  have HX : Hid (∀ W : World, Below W0.heap.size W0 W → W.cell? ⟨w.heap.size, 0, none⟩ = some (.int .u64 wa) ∧ W.cell? ⟨w.heap.size, 1, none⟩ = some (.int .u64 ws)) := Lib.hid (fun W h => by
    have hlt : w.heap.size < W0.heap.size := by rw [← hW0]; simp
    exact ⟨(h.cell (p := ⟨w.heap.size, 0, none⟩) hlt).trans (by rw [← hW0]; exact World.cell?_alloc_new _ _ _ _), (h.cell (p := ⟨w.heap.size, 1, none⟩) hlt).trans (by rw [← hW0]; exact World.cell?_alloc_new _ _ _ _)⟩)
  obtain ⟨y, hy⟩ : ∃ y, wholeB wa ws = !y := ⟨!wholeB wa ws, by simp⟩
  have C := Lib.hid (fun W => beyond_any wa ws W h1 h2 y hy)
  obtain ⟨r, hr⟩ : ∃ r, insideB wa ws a s = r := ⟨_, rfl⟩
  have hr2 : (decide (s ≠ 0) && decide (ws ≠ 0) && wholeB a s && !y && (decide (wa ≤ a) && decide (a + (s - 1) ≤ wa + (ws - 1)))) = r := by rw [← hy]; exact hr
  rw [hr]
  have HR := Lib.hid hr2
  have HY := Lib.hid hy
  have H1 := Lib.hid h1
  have H2 := Lib.hid h2
  have H3 := Lib.hid h3
  have H4 := Lib.hid h4
  clear hr hr2 hy h1 h2 h3 h4
  by_cases hs0 : s = 0
  · subst hs0
    obtain rfl : r = false := by rw [← HR.out]; rfl
    go_enter Try.func55, Try.ntmps55
    go_wp2
    go_ret
    exact ⟨rfl, HB.out⟩
  have k1 : (s == 0) = false := by rw [beq_eq_false_iff_ne]; exact hs0
  have HS := Lib.hid hs0
  clear hs0
  obtain ⟨c0, c1⟩ := HX.out _ (Below.refl _ _)
  go_enter Try.func55, Try.ntmps55
  go_wp2_with fail
  refine (C.out _).mono ?_
  rintro e w1 ⟨rfl, hb⟩
  have HB1 := Lib.hid (HB.out.trans (hb.mono HB.out.size))
  obtain ⟨d0, d1⟩ := HX.out _ hb
  clear hb c0 c1 hW0 C
  cases y
  rotate_left
  · obtain rfl : r = false := by rw [← HR.out]; simp
    go_wp2
    go_ret
    exact ⟨rfl, HB1.out⟩
  by_cases hlt : a < wa
  · have k2 : decide (a < wa) = true := decide_eq_true hlt
    obtain rfl : r = false := by rw [← HR.out, decide_eq_false (by omega : ¬ wa ≤ a)]; simp
    go_wp2
    go_ret
    exact ⟨rfl, HB1.out⟩
  · have k2 : decide (a < wa) = false := decide_eq_false hlt
    have w1 : IntKind.u64.wrap (a - wa) = a - wa := IntWalk.u64_in _ (by have := H1.out.1; have := H3.out.2; omega)
    by_cases hin : a - wa < ws
    · have k3 : decide (a - wa < ws) = true := decide_eq_true hin
      have w2 : IntKind.u64.wrap (ws - (a - wa)) = ws - (a - wa) := IntWalk.u64_in _ (by have := H1.out.1; have := H3.out.2; have := H2.out.2; omega)
      have hr' : decide (s ≤ ws - (a - wa)) = r := by
        rw [← HR.out]
        have e1 := HY.out
        have := HS.out
        have := H1.out.1
        have := H2.out.1
        have := H3.out.1
        have := H4.out.1
        simp only [wholeB, Bool.not_false, Bool.or_eq_true, decide_eq_true_eq] at e1
        rw [Bool.eq_iff_iff]
        simp only [wholeB, Bool.not_false, Bool.and_eq_true, Bool.or_eq_true, decide_eq_true_eq, and_true]
        omega
      clear hlt hin
      go_wp2
      go_ret
      exact ⟨rfl, HB1.out⟩
    · have k3 : decide (a - wa < ws) = false := decide_eq_false hin
      obtain rfl : r = false := by
        rw [← HR.out, Bool.eq_false_iff]
        intro h
        simp only [wholeB, Bool.and_eq_true, Bool.or_eq_true, decide_eq_true_eq] at h
        have := H4.out.1
        omega
      clear hlt hin
      go_wp2
      go_ret
      exact ⟨rfl, HB1.out⟩

end Go.Proofs.Ytbblgkidgecdpaa

/-! Layer 13: the program's through: one step up. -/
namespace Go.Proofs.Ytbblgkidgecdpaa
open Go.RowKit
set_option linter.unusedVariables false
set_option linter.unusedSimpArgs false

theorem upOne_hit {L : List (Int × Int × Int)} {a s : Int} {r : Int × Int × Int} (h : L.find? (fun r => insideB r.1 r.2.2 a s) = some r) : upOne L a s = if 18446744073709551615 - r.2.1 < a - r.1 ∨ wholeB (r.2.1 + (a - r.1)) s = false then none else some (r.2.1 + (a - r.1)) := by
  unfold upOne
  rw [h]
theorem upOne_miss {L : List (Int × Int × Int)} {a s : Int} (h : L.find? (fun r => insideB r.1 r.2.2 a s) = none) : upOne L a s = none := by
  unfold upOne
  rw [h]

set_option maxRecDepth 20000 in
set_option maxHeartbeats 8000000 in
theorem through_any (A : Option Addr) (m c : Nat) (L : List (Int × Int × Int)) (a s : Int) (w : World) (hs : Cel3 w w.heap.size A m (L.map rngV)) (hmc : m ≤ c) (hc : c ≤ 9223372036854775807) (h64 : ∀ r ∈ L, R64 r) (ha : U64 a) (hss : U64 s) (hlen : m ≤ 1099511627776) :
    Calls Try.prog 47 #[.slice A m c, .int .u64 a, .int .u64 s] w fun e w' => e = .returned (.tuple #[.int .u64 ((upOne L a s).getD 0), .bool (upOne L a s).isSome]) ∧ Below w.heap.size w w' := by
  have HS := Lib.hid hs
  have HLN : Hid (L.length = m) := Lib.hid (by have := hs.1; rwa [List.length_map] at this)
  have H64 := Lib.hid h64
  have HA64 := Lib.hid ha
  have HS64 := Lib.hid hss
  obtain ⟨ha0, ha1⟩ := ha
  obtain ⟨hs0, hs1⟩ := hss
  obtain ⟨UV, hUV⟩ : ∃ UV, upOne L a s = UV := ⟨_, rfl⟩
  have HUV := Lib.hid hUV
  rw [hUV]
  clear hs h64 hUV
  go_enter Try.func47, Try.ntmps47
  go_wp2_with fail
  go_loopw [13] (fun i wr => ∃ j : Nat, j ≤ m ∧ i = .int .i64 j ∧ (∀ r ∈ L.take j, insideB r.1 r.2.2 a s = false) ∧ Below w.heap.size w wr) (fun i _ => m - (intOf i).toNat)
  case atStart => exact ⟨0, Nat.zero_le _, rfl, by simp, Below.refl _ _⟩
  case round =>
    obtain ⟨j, hj, rfl, hall, hb⟩ := hrel
    have HBW := Lib.hid hb
    by_cases hlt : j < m
    · have hjl : j < L.length := by rw [HLN.out]; exact hlt
      have hjm : j < (L.map rngV).length := by rw [List.length_map]; exact hjl
      obtain ⟨b, o, e, _, hcl⟩ := (HS.out.below hb).2 (by omega)
      obtain rfl : A = _ := e
      obtain ⟨p0, p1, p2⟩ := hcl j hjm
      rw [List.getElem_map] at p0 p1 p2
      have hff := find_range L a s j hjl
      have h64 := H64.out _ (List.getElem_mem hjl)
      have htk : L.take (j + 1) = L.take j ++ [L[j]] := by rw [List.take_add_one, List.getElem?_eq_getElem hjl]; rfl
      generalize L[j] = Y at *
      obtain ⟨rb, rab, rsz⟩ := Y
      replace p0 : wr.cell? ⟨b, o + j * 3, none⟩ = some (.int .u64 rb) := p0
      replace p1 : wr.cell? ⟨b, o + j * 3 + 1, none⟩ = some (.int .u64 rab) := p1
      replace p2 : wr.cell? ⟨b, o + j * 3 + 2, none⟩ = some (.int .u64 rsz) := p2
      obtain ⟨⟨u1, u2⟩, ⟨u3, u4⟩, ⟨u5, u6⟩⟩ := h64
      simp only at u1 u2 u3 u4 u5 u6
      obtain ⟨ins, hins⟩ : ∃ ins, insideB rb rsz a s = ins := ⟨_, rfl⟩
      have CI := Lib.hid (fun V => insideOK rb rsz a s V ⟨u1, u2⟩ ⟨u5, u6⟩ HA64.out HS64.out)
      rw [hins] at CI
      have HINS := Lib.hid hins
      have HALL := Lib.hid hall
      have HFF := Lib.hid (hff hall)
      have HTK := Lib.hid htk
      obtain ⟨V, hV⟩ : ∃ V, wr.alloc (.cells #[.int .u64 rb, .int .u64 rab, .int .u64 rsz] 42) = V := ⟨_, rfl⟩
      have bV : Below w.heap.size w V := by rw [← hV]; exact hb.alloc hb.size _
      have HBV := Lib.hid bV
      have q0 : V.cell? ⟨wr.heap.size, 0, none⟩ = some (.int .u64 rb) := by rw [← hV]; exact World.cell?_alloc_new _ _ _ _
      have q1 : V.cell? ⟨wr.heap.size, 1, none⟩ = some (.int .u64 rab) := by rw [← hV]; exact World.cell?_alloc_new _ _ _ _
      have q2 : V.cell? ⟨wr.heap.size, 2, none⟩ = some (.int .u64 rsz) := by rw [← hV]; exact World.cell?_alloc_new _ _ _ _
      have HQ := Lib.hid (fun (W : World) (h : Below V.heap.size V W) => And.intro ((h.cell (p := ⟨wr.heap.size, 0, none⟩) (by rw [← hV]; simp)).trans q0) (And.intro ((h.cell (p := ⟨wr.heap.size, 1, none⟩) (by rw [← hV]; simp)).trans q1) ((h.cell (p := ⟨wr.heap.size, 2, none⟩) (by rw [← hV]; simp)).trans q2)))
      clear hb hcl hjl hjm hff hall htk hins bV
      go_wp2_with fail
      refine (CI.out _).mono ?_
      rintro e w4 ⟨rfl, hb4⟩
      clear p0 p1 p2 q0 q1 q2 hV
      obtain ⟨q0, q1, q2⟩ := HQ.out _ hb4
      have HB4 := Lib.hid (HBV.out.trans (hb4.mono HBV.out.size))
      clear hb4 HQ CI
      cases ins
      · have HAL2 : Hid (∀ r ∈ L.take (j + 1), insideB r.1 r.2.2 a s = false) := Lib.hid (fun r hr => by
          rw [HTK.out] at hr
          rcases List.mem_append.1 hr with h | h
          · exact HALL.out r h
          · rw [List.mem_singleton.1 h]; exact HINS.out)
        clear q0 q1 q2
        go_wp2
        go_roundw
        case rel => exact ⟨j + 1, by omega, by go_num, HAL2.out, HB4.out⟩
        case measure => simp [intOf]; omega
      · have hle := inside_le HINS.out
        obtain ⟨hle1, hs00⟩ := hle
        have HUP := Lib.hid (upOne_hit (HFF.out HINS.out))
        obtain ⟨off, hoff⟩ : ∃ off, a - rb = off := ⟨_, rfl⟩
        obtain ⟨mx, hmx⟩ : ∃ mx, 18446744073709551615 - rab = mx := ⟨_, rfl⟩
        have W1 : IntKind.u64.wrap (a - rb) = off := by rw [hoff]; exact IntWalk.u64_in _ (by omega)
        have W2 : IntKind.u64.wrap (18446744073709551615 - rab) = mx := by rw [hmx]; exact IntWalk.u64_in _ (by omega)
        simp only at HUP
        rw [hoff, hmx] at HUP
        by_cases hov : mx < off
        · have HO : Hid (UV = none) := Lib.hid (by rw [← HUV.out, HUP.out, if_pos (.inl hov)])
          have d1 : decide (mx < off) = true := decide_eq_true hov
          clear hoff hmx
          go_wp2
          go_ret2
          exact ⟨by (rw [HO.out] <;> rfl), HB4.out⟩
        · have d1 : decide (mx < off) = false := decide_eq_false hov
          obtain ⟨rs, hrs⟩ : ∃ rs, mx - off = rs := ⟨_, rfl⟩
          obtain ⟨s1, hs1'⟩ : ∃ s1, s - 1 = s1 := ⟨_, rfl⟩
          have W3 : IntKind.u64.wrap (mx - off) = rs := by rw [hrs]; exact IntWalk.u64_in _ (by omega)
          have W4 : IntKind.u64.wrap (s - 1) = s1 := by rw [hs1']; exact IntWalk.u64_in _ (by omega)
          have W5 : IntKind.u64.wrap (rab + off) = rab + off := IntWalk.u64_in _ (by omega)
          by_cases hrl : rs < s1
          · have HO : Hid (UV = none) := Lib.hid (by
              have hw : wholeB (rab + off) s = false := by
                unfold wholeB
                rw [decide_eq_false hs00, decide_eq_false (by omega)]
                rfl
              rw [← HUV.out, HUP.out, if_pos (.inr hw)])
            have d2 : decide (rs < s1) = true := decide_eq_true hrl
            clear hoff hmx hrs hs1' W5
            go_wp2
            go_ret2
            exact ⟨by (rw [HO.out] <;> rfl), HB4.out⟩
          · have HO : Hid (UV = some (rab + off)) := Lib.hid (by
              rw [← HUV.out, HUP.out, if_neg ?_]
              rintro (h | h)
              · exact hov h
              · unfold wholeB at h
                rw [decide_eq_false hs00, Bool.false_or, decide_eq_false_iff_not] at h
                omega)
            have d2 : decide (rs < s1) = false := decide_eq_false hrl
            clear hoff hmx hrs hs1'
            go_wp2
            go_ret2
            exact ⟨by (rw [HO.out] <;> rfl), HB4.out⟩
    · obtain rfl : j = m := by omega
      have HO : Hid (UV = none) := Lib.hid (by
        rw [← HUV.out]
        exact upOne_miss (find_no_range (fun r hr => hall r (by rw [List.take_of_length_le (by rw [HLN.out]; exact Nat.le_refl _)]; exact hr))))
      clear hall hb
      go_wp2
      go_ret2
      exact ⟨by (rw [HO.out] <;> rfl), HBW.out⟩
end Go.Proofs.Ytbblgkidgecdpaa

/-! Layer 13: the program's way: the nodes from the root to the one at a place. -/
namespace Go.Proofs.Ytbblgkidgecdpaa
open Go.RowKit
set_option linter.unusedVariables false
set_option linter.unusedSimpArgs false

/-- The nodes at the first parts of a place, the root the first one. -/
def wayL (R : Nd) (z : List Int) (n : Nat) : List Nd := (List.range (n + 1)).map fun j => (nodeZ R (z.take j)).getD ndZ
theorem wayL_length (R : Nd) (z : List Int) (n : Nat) : (wayL R z n).length = n + 1 := by simp [wayL]
theorem wayL_next (R : Nd) (z : List Int) (n : Nat) : wayL R z (n + 1) = wayL R z n ++ [(nodeZ R (z.take (n + 1))).getD ndZ] := by rw [wayL, List.range_succ, List.map_append]; rfl
theorem wayL_at (R : Nd) (z : List Int) (n j : Nat) (h : j < (wayL R z n).length) : (wayL R z n)[j] = (nodeZ R (z.take j)).getD ndZ := by simp [wayL]
/-- A node's three cells. -/
def Nd.tri (x : Nd) : Value × Value × Value := (.string x.name, x.pv, x.kv)
theorem info_nodew : (Try.prog.info? 25).map (fun i => (i.zero, i.size, i.bytes)) = some (some (.agg #[.string ⟨#[]⟩, .slice none 0 0, .slice none 0 0]), 3, 64) := by kernel_rfl
theorem three_set {W : World} {b : Nat} {v0 v1 v2 : Value} {t : TypeId} {fz : Nat × Nat} (h : W.heap[b]? = some (.cells #[v0, v1, v2] t fz)) (u0 u1 u2 : Value) : (((W.setCell ⟨b, 0, none⟩ u0).setCell ⟨b, 1, none⟩ u1).setCell ⟨b, 2, none⟩ u2).heap[b]? = some (.cells #[u0, u1, u2] t fz) ∧ (((W.setCell ⟨b, 0, none⟩ u0).setCell ⟨b, 1, none⟩ u1).setCell ⟨b, 2, none⟩ u2).heap.size = W.heap.size ∧
    (∀ k, k ≠ b → (((W.setCell ⟨b, 0, none⟩ u0).setCell ⟨b, 1, none⟩ u1).setCell ⟨b, 2, none⟩ u2).heap[k]? = W.heap[k]?) ∧ ∀ g, g ≤ b → Below g W (((W.setCell ⟨b, 0, none⟩ u0).setCell ⟨b, 1, none⟩ u1).setCell ⟨b, 2, none⟩ u2) := by
  refine ⟨by simp [World.setCell, Array.getElem?_modify, h], by simp [World.setCell], fun k hk => by rw [Below.heap_setCell _ _ _ _ hk, Below.heap_setCell _ _ _ _ hk, Below.heap_setCell _ _ _ _ hk], fun g hg => ?_⟩
  exact (((Below.refl g W).setCell (p := ⟨b, 0, none⟩) hg u0).setCell (p := ⟨b, 1, none⟩) hg u1).setCell (p := ⟨b, 2, none⟩) hg u2

set_option maxRecDepth 20000 in
set_option maxHeartbeats 8000000 in
theorem way_any (t : Tr) (z : List Int) (A : Option Addr) (n c : Nat) (w : World) (hin : t.In w w.heap.size) (hp : Cel w w.heap.size A n (intsZ z)) (hnc : n ≤ c) (hc : c ≤ 9223372036854775807) (hn40 : n ≤ 40) :
    Calls Try.prog 29 #[t.val, .slice A n c] w fun e w' => (nodeZ t.root z = none → e = .returned (.tuple #[.slice none 0 0, .bool false])) ∧ ((∃ y, nodeZ t.root z = some y) → ∃ A' c', e = .returned (.tuple #[.slice A' (n + 1) c', .bool true]) ∧ Cel3 w' w'.heap.size A' (n + 1) ((wayL t.root z n).map Nd.tri) ∧ n + 1 ≤ c' ∧ c' ≤ 9223372036854775807) ∧ Below w.heap.size w w' := by
  have HI := Lib.hid hin.root
  have HP := Lib.hid hp
  have HPL : Hid (z.length = n) := Lib.hid (by have := hp.1; rwa [List.length_map] at this)
  clear hin hp
  obtain ⟨boot, ra, rc, rs, ⟨nm, pa, pc, ps, ka, kc, ks⟩⟩ := t
  replace HI : Hid ((Nd.mk nm pa pc ps ka kc ks).In w w.heap.size) := HI
  show Calls _ _ #[.agg #[.int .u32 boot, .slice ra rs.length rc, .string nm, .slice pa ps.length pc, .slice ka ks.length kc], .slice A n c] w (fun e w' => (nodeZ (Nd.mk nm pa pc ps ka kc ks) z = none → e = .returned (.tuple #[.slice none 0 0, .bool false])) ∧ ((∃ y, nodeZ (Nd.mk nm pa pc ps ka kc ks) z = some y) → ∃ A' c', e = .returned (.tuple #[.slice A' (n + 1) c', .bool true]) ∧ Cel3 w' w'.heap.size A' (n + 1) ((wayL (Nd.mk nm pa pc ps ka kc ks) z n).map Nd.tri) ∧ n + 1 ≤ c' ∧ c' ≤ 9223372036854775807) ∧ Below w.heap.size w w')
  obtain ⟨R, hR⟩ : ∃ R, Nd.mk nm pa pc ps ka kc ks = R := ⟨_, rfl⟩
  have HRE := Lib.hid hR
  rw [hR] at HI ⊢
  clear hR
  obtain ⟨g, hg⟩ : ∃ g, w.heap.size = g := ⟨_, rfl⟩
  have HG := Lib.hid hg
  obtain ⟨b0, b1, b2, b3, b4⟩ := box6_cells w (.int .u32 boot) (.slice ra rs.length rc) (.string nm) (.slice pa ps.length pc) (.slice ka ks.length kc) _ (Below.refl _ _)
  obtain ⟨V0, hV0⟩ : ∃ V0, w.alloc (.cells #[.int .u32 boot, .slice ra rs.length rc, .string nm, .slice pa ps.length pc, .slice ka ks.length kc] 31) = V0 := ⟨_, rfl⟩
  have zV0 : V0.heap.size = g + 1 := by rw [← hV0]; simp [hg]
  have bV0 : Below g w V0 := by rw [← hV0]; exact (Below.refl _ _).alloc (by rw [hg]; exact Nat.le_refl _) _
  rw [hV0, hg] at b0 b1 b2 b3 b4
  obtain ⟨V1, hV1⟩ : ∃ V1, V0.alloc (.cells #[.string nm, .slice pa ps.length pc, .slice ka ks.length kc] 25) = V1 := ⟨_, rfl⟩
  have zV1 : V1.heap.size = g + 2 := by rw [← hV1]; simp [zV0]
  have bV1 : Below (g + 1) V0 V1 := by rw [← hV1]; exact (Below.refl _ _).alloc (by rw [zV0]; exact Nat.le_refl _) _
  have nV1 : V1.heap[g + 1]? = some (.cells #[.string nm, .slice pa ps.length pc, .slice ka ks.length kc] 25 (0, 0)) := by rw [← hV1, ← zV0]; exact heap_alloc_new _ _
  have v0 : V1.cell? ⟨g + 1, 0, none⟩ = some (.string nm) := by rw [Lib.cell_of_heap nV1]; rfl
  have v1 : V1.cell? ⟨g + 1, 1, none⟩ = some (.slice pa ps.length pc) := by rw [Lib.cell_of_heap nV1]; rfl
  have v2 : V1.cell? ⟨g + 1, 2, none⟩ = some (.slice ka ks.length kc) := by rw [Lib.cell_of_heap nV1]; rfl
  obtain ⟨V2, hV2⟩ : ∃ V2, V1.alloc (.cells #[.string nm, .slice pa ps.length pc, .slice ka ks.length kc] 25) = V2 := ⟨_, rfl⟩
  have bV2 : Below (g + 2) V1 V2 := by rw [← hV2]; exact (Below.refl _ _).alloc (by rw [zV1]; exact Nat.le_refl _) _
  have nV2 : V2.ownsRow (g + 2) 25 3 (.slice (some ⟨g + 2, 0, none⟩) 1 1) 1 (flatT ((wayL R z 0).map Nd.tri)) := by
    have h : (V1.alloc (.cells #[.string nm, .slice pa ps.length pc, .slice ka ks.length kc] 25)).ownsRow (g + 2) 25 3 (.slice (some ⟨V1.heap.size, 0, none⟩) 1 1) 1 (flatT [Nd.tri (Nd.mk nm pa pc ps ka kc ks)]) := row_triple V1 (g + 2) (by rw [zV1]; exact Nat.le_refl _) 25 (Nd.tri (Nd.mk nm pa pc ps ka kc ks))
    rw [hV2, zV1, HRE.out] at h
    have e : (wayL R z 0).map Nd.tri = [Nd.tri R] := by simp [wayL, nodeZ]
    rw [e]
    exact h
  have HST : Hid (V2.heap[g + 1]? = some (.cells #[.string R.name, R.pv, R.kv] 25 (0, 0)) ∧ V2.ownsRow (g + 2) 25 3 (.slice (some ⟨g + 2, 0, none⟩) 1 1) 1 (flatT ((wayL R z 0).map Nd.tri)) ∧ Below g w V2) := Lib.hid ⟨by rw [← HRE.out]; exact (bV2.block _ (by omega)).trans nV1, nV2, bV0.trans ((bV1.mono (by omega)).trans (bV2.mono (by omega)))⟩
  have ZV0 := Lib.hid zV0
  have ZV1 := Lib.hid zV1
  clear bV0 bV1 bV2 nV1 nV2
  go_enter Try.func29, Try.ntmps29
  go_wp2_with fail
  clear b0 b1 b2 b3 b4 v0 v1 v2 hV0 hV1 hV2 zV0 zV1
  go_loopw [7, 16] (fun l i wr => ∃ (k : Nat) (x : Nd) (Av : Option Addr) (cv : Nat), k ≤ n ∧ i = .int .i64 k ∧ l = .slice Av (k + 1) cv ∧ nodeZ R (z.take k) = some x ∧ wr.heap[g + 1]? = some (.cells #[.string x.name, x.pv, x.kv] 25 (0, 0)) ∧ wr.ownsRow (g + 2) 25 3 (.slice Av (k + 1) cv) (k + 1) (flatT ((wayL R z k).map Nd.tri)) ∧ Below g w wr) (fun _ i _ => n - (intOf i).toNat)
  case atStart =>
    obtain ⟨a1, a2, a3⟩ := HST.out
    exact ⟨0, R, _, _, Nat.zero_le _, rfl, rfl, rfl, a1, a2, a3⟩
  case round =>
    obtain ⟨k, x, Av, cv, hk, rfl, rfl, hx, hbk, hown, hb⟩ := hrel
    have HX := Lib.hid hx
    have HBK := Lib.hid hbk
    have HB := Lib.hid hb
    have HOWN := Lib.hid hown
    have hxin := (nodeZ_in _ HI.out hx).under (by rw [HG.out]; exact hb)
    by_cases hlt : k < n
    · obtain ⟨pb, po, rfl, _, hcell⟩ := (HP.out.below (by rw [HG.out]; exact hb)).2 (by omega)
      have ck := hcell k hlt
      have hkp : k < z.length := by rw [HPL.out]; exact hlt
      rw [List.getElem?_map, List.getElem?_eq_getElem hkp] at ck
      have hzt : z.take (k + 1) = z.take k ++ [z[k]] := by rw [List.take_add_one, List.getElem?_eq_getElem hkp]; rfl
      have hzs : nodeZ R z = nodeZ x (z[k] :: z.drop (k + 1)) := by
        have e : z = z.take k ++ (z[k] :: z.drop (k + 1)) := by rw [List.getElem_cons_drop, List.take_append_drop]
        conv => lhs; rw [e, nodeZ_append, hx]
      have hzn : nodeZ R (z.take (k + 1)) = nodeZ x [z[k]] := by rw [hzt, nodeZ_append, hx]
      replace ck : wr.cell? ⟨pb, po + k, none⟩ = some (.int .i64 z[k]) := ck
      generalize z[k] = q at *
      generalize z.drop (k + 1) = zr at *
      have HZS := Lib.hid hzs
      have HZN := Lib.hid hzn
      have hkm := hxin.klen
      have hkl := hxin.name_le.2.2
      have HKC := Lib.hid (fun i (hi : i < x.kids.length) => hxin.kcell hi)
      clear hzt hzs hzn hcell hkp hb hx hxin hown
      obtain ⟨xn, xpa, xpc, xps, xka, xkc, xks⟩ := x
      replace hkm : xks.length ≤ xkc ∧ xkc ≤ 9223372036854775807 := hkm
      replace hkl : xks.length * 64 ≤ 140737488351232 := hkl
      replace hbk : wr.heap[g + 1]? = some (.cells #[.string xn, .slice xpa xps.length xpc, .slice xka xks.length xkc] 25 (0, 0)) := hbk
      have c0 : wr.cell? ⟨g + 1, 0, none⟩ = some (.string xn) := by rw [Lib.cell_of_heap hbk]; rfl
      have c1 : wr.cell? ⟨g + 1, 1, none⟩ = some (.slice xpa xps.length xpc) := by rw [Lib.cell_of_heap hbk]; rfl
      have c2 : wr.cell? ⟨g + 1, 2, none⟩ = some (.slice xka xks.length xkc) := by rw [Lib.cell_of_heap hbk]; rfl
      have f0 := Lib.frozen_of_heap hbk 0
      have f1 := Lib.frozen_of_heap hbk 1
      have f2 := Lib.frozen_of_heap hbk 2
      clear hbk
      by_cases hq0 : q < 0
      · have q2 : decide (q < 0) = true := decide_eq_true hq0
        have HN : Hid (nodeZ R z = none) := Lib.hid (by rw [HZS.out, nodeZ, if_pos hq0])
        clear hq0
        go_wp2
        go_ret2
        exact ⟨fun _ => rfl, fun h => by (rw [HN.out] at h; obtain ⟨_, h⟩ := h; cases h), by rw [HG.out]; exact HB.out⟩
      · have q1 : decide (q < 0) = false := decide_eq_false hq0
        by_cases hqk : q.toNat < xks.length
        · obtain ⟨kb, ko, ek, _, d0, d1, d2⟩ := HKC.out _ hqk
          obtain ⟨q, rfl⟩ : ∃ m : Nat, q = (m : Int) := ⟨q.toNat, by omega⟩
          simp only [Int.toNat_natCast] at hqk d0 d1 d2
          obtain rfl : xka = _ := ek
          have q2 : decide ((q : Int) ≥ (xks.length : Int)) = false := decide_eq_false (by omega)
          have q3 : decide ((xks.length : Int) ≤ (q : Int)) = false := decide_eq_false (by omega)
          have HNX : Hid (nodeZ R (z.take (k + 1)) = some xks[q]) := Lib.hid (by
            rw [HZN.out, nodeZ, if_neg (by omega)]
            simp only [Int.toNat_natCast, Nd.kids, List.getElem?_eq_getElem hqk]
            rfl)
          replace d0 : wr.cell? ⟨kb, ko + q * 3, none⟩ = some (.string xks[q].name) := d0
          replace d1 : wr.cell? ⟨kb, ko + q * 3 + 1, none⟩ = some xks[q].pv := d1
          replace d2 : wr.cell? ⟨kb, ko + q * 3 + 2, none⟩ = some xks[q].kv := d2
          obtain ⟨y, hy⟩ : ∃ y, xks[q] = y := ⟨_, rfl⟩
          rw [hy] at HNX d0 d1 d2
          clear hy HKC HZS HZN HX
          obtain ⟨yn, ypa, ypc, yps, yka, ykc, yks⟩ := y
          replace d0 : wr.cell? ⟨kb, ko + q * 3, none⟩ = some (.string yn) := d0
          replace d1 : wr.cell? ⟨kb, ko + q * 3 + 1, none⟩ = some (.slice ypa yps.length ypc) := d1
          replace d2 : wr.cell? ⟨kb, ko + q * 3 + 2, none⟩ = some (.slice yka yks.length ykc) := d2
          obtain ⟨Ws, hWs⟩ : ∃ Ws, ((wr.setCell ⟨g + 1, 0, none⟩ (.string yn)).setCell ⟨g + 1, 1, none⟩ (.slice ypa yps.length ypc)).setCell ⟨g + 1, 2, none⟩ (.slice yka yks.length ykc) = Ws := ⟨_, rfl⟩
          obtain ⟨t1, t2, t3, t4⟩ := three_set HBK.out (.string yn) (.slice ypa yps.length ypc) (.slice yka yks.length ykc)
          rw [hWs] at t1 t2 t3 t4
          have e0 : Ws.cell? ⟨g + 1, 0, none⟩ = some (.string yn) := by rw [Lib.cell_of_heap t1]; rfl
          have e1 : Ws.cell? ⟨g + 1, 1, none⟩ = some (.slice ypa yps.length ypc) := by rw [Lib.cell_of_heap t1]; rfl
          have e2 : Ws.cell? ⟨g + 1, 2, none⟩ = some (.slice yka yks.length ykc) := by rw [Lib.cell_of_heap t1]; rfl
          have hso : Ws.ownsRow (g + 2) 25 3 (.slice Av (k + 1) cv) (k + 1) (flatT ((wayL R z k).map Nd.tri)) := HOWN.out.kept (row := some (g + 1)) ⟨(t4 g (by omega)).os, (t4 g (by omega)).tape, (t4 g (by omega)).output, by rw [t2]; exact Nat.le_refl _, fun j hj hne => t3 j (fun h => hne (by rw [h]))⟩ (by
            rcases h : (Value.slice Av (k + 1) cv).ownBlock with _ | j
            · exact .inl rfl
            · refine .inr (fun e => ?_)
              have := (HOWN.out.lt j h).1
              have := Option.some.inj e
              omega)
          have hsz : g + 2 ≤ Ws.heap.size := by
            rw [t2]
            have h := Array.getElem?_eq_some_iff.1 HBK.out
            have := h.1
            omega
          obtain ⟨i0, hi, hz, hs1, hby⟩ := info_any info_nodew
          obtain ⟨A', c', w5, r5, o5, b5, _, _⟩ := app_triple Try.underlying23 hi hz hs1 hby rfl (w := Ws) hso (Nd.tri (Nd.mk yn ypa ypc yps yka ykc yks)) rfl rfl rfl (by omega) (by omega) hsz 23
          replace r5 : (Builtin.append_ #[23, 23] 23 #[.slice Av (k + 1) cv, .slice (some ⟨Ws.heap.size, 0, none⟩) 1 1]).run Try.prog (Ws.alloc (.cells #[.string yn, .slice ypa yps.length ypc, .slice yka yks.length ykc] 25)) = .ok (.slice A' (k + 1 + 1) c') w5 := r5
          have HR5 := Lib.hid r5
          have HN5 : Hid (w5.heap[g + 1]? = some (.cells #[.string (Nd.mk yn ypa ypc yps yka ykc yks).name, (Nd.mk yn ypa ypc yps yka ykc yks).pv, (Nd.mk yn ypa ypc yps yka ykc yks).kv] 25 (0, 0))) := Lib.hid ((b5.block (g + 1) (by omega)).trans t1)
          have HO5 : Hid (w5.ownsRow (g + 2) 25 3 (.slice A' (k + 1 + 1) c') (k + 1 + 1) (flatT ((wayL R z (k + 1)).map Nd.tri))) := Lib.hid (by
            rw [wayL_next, HNX.out, List.map_append]
            exact o5)
          have HB5 : Hid (Below g w w5) := Lib.hid (HB.out.trans ((t4 g (by omega)).trans (b5.mono (by omega))))
          generalize xks.length = xkl at *
          generalize yks.length = ykl at *
          generalize yps.length = ypl at *
          clear t1 t2 t3 t4 hso o5 b5 hi hz hs1 hby r5
          go_wp2_with (at_builtin; refine Lib.wpList_append_run_sl _ rfl _ _ _ rfl _ _ rfl rfl HR5.out ?_)
          go_roundw
          case rel => exact ⟨k + 1, Nd.mk yn ypa ypc yps yka ykc yks, A', c', by omega, by go_num, rfl, HNX.out, HN5.out, HO5.out, HB5.out⟩
          case measure => simp [intOf]; omega
        · have q2 : decide (q ≥ (xks.length : Int)) = true := decide_eq_true (by omega)
          have q3 : decide ((xks.length : Int) ≤ q) = true := decide_eq_true (by omega)
          have HN : Hid (nodeZ R z = none) := Lib.hid (by
            rw [HZS.out, nodeZ, if_neg hq0]
            simp only [Nd.kids, List.getElem?_eq_none (Nat.le_of_not_lt hqk)])
          clear hq0 hqk
          generalize xks.length = xkl at *
          go_wp2
          go_ret2
          exact ⟨fun _ => rfl, fun h => by (rw [HN.out] at h; obtain ⟨_, h⟩ := h; cases h), by rw [HG.out]; exact HB.out⟩
    · obtain rfl : k = n := by omega
      have HT : Hid (nodeZ R z = some x) := Lib.hid (by
        have e : z.take k = z := List.take_of_length_le (by rw [HPL.out]; exact Nat.le_refl _)
        rw [← hx, e])
      obtain ⟨Av', cv', e', hcel, hc1, hc2, _⟩ := owned_cel3 hown
      simp only [Value.slice.injEq, true_and] at e'
      obtain ⟨rfl, rfl⟩ := e'
      have HCEL := Lib.hid hcel
      have HCC := Lib.hid (And.intro hc1 hc2)
      clear hxin hx hb hbk hown hcel hc1 hc2
      go_wp2
      go_ret2
      exact ⟨fun h => by (rw [HT.out] at h; cases h), fun _ => ⟨Av, cv, rfl, HCEL.out, HCC.out.1, HCC.out.2⟩, by rw [HG.out]; exact HB.out⟩
end Go.Proofs.Ytbblgkidgecdpaa

/-! Layer 13, XlateUp and XlateWindows: out of what the program's Up and Windows answer. -/
namespace Go.Proofs.Ytbblgkidgecdpaa
open Go.RowKit
set_option linter.unusedVariables false
set_option linter.unusedSimpArgs false


set_option maxRecDepth 20000 in
set_option maxHeartbeats 8000000 in
theorem xlateUp_true (hK : Awake13) (hU : XUpOK) (t : Tr) (z : List Int) (A : Option Addr) (n c : Nat) (a s : Int) (w : World) (hin : t.In w w.heap.size) (hp : Cel w w.heap.size A n (intsZ z)) (hnc : n ≤ c) (hc : c ≤ 9223372036854775807) (hh : heftN t.root ≤ 134217728) (ha : U64 a) (hs : U64 s) :
    Calls Try.prog 4 #[t.val, .slice A n c, .int .u64 a, .int .u64 s] w fun e w' => e = .returned (.bool true) ∧ Below w.heap.size w w' := by
  have C0 := Lib.hid (fun w h => few_any t w h)
  obtain ⟨E, hE⟩ : ∃ E, checkE t = E := ⟨_, rfl⟩
  have CK := Lib.hid (fun w h => refcheck_any t w h E hE)
  have HK := Lib.hid hK
  have HI := Lib.hid hin
  have HP := Lib.hid hp
  have C2 := Lib.hid (fun W (hW : Below w.heap.size w W) => refget_any t z A n c W (hin.on hW) (hp.on hW) hnc hc)
  have C1 := Lib.hid (fun (h0 : E = 0) (h40 : n ≤ 40) W (hW : Below w.heap.size w W) => hU t z A n c a s W (hin.on hW) (hp.on hW) hnc hc hh ha hs h40 (hE.trans h0))
  have C3 := Lib.hid (fun (hr : ∃ y, nodeZ t.root z = some y) W (hW : Below w.heap.size w W) => refup_any t z A n c a s W (hin.on hW) (hp.on hW) hnc hc hr hh ha hs)
  obtain ⟨N, hN⟩ : ∃ N, nodeZ t.root z = N := ⟨_, rfl⟩
  obtain ⟨UV, hUV⟩ : ∃ UV, upV t.root z s n a = UV := ⟨_, rfl⟩
  rw [hN] at C1 C2 C3
  rw [hUV] at C1 C3
  clear hK hU hin hp hh ha hs hE hN hUV
  obtain ⟨boot, ra, rc, rs, ⟨nm, pa, pc, ps, ka, kc, ks⟩⟩ := t
  simp only [Tr.val, Tr.rv, Nd.val, Nd.pv, Nd.kv, Nd.name, Nd.pa, Nd.pc, Nd.props, Nd.ka, Nd.kc, Nd.kids] at C0 C1 C2 C3 CK ⊢
  have HB := Lib.hid ((Below.refl w.heap.size w).alloc (Nat.le_refl _) (.cells #[.int .u32 boot, .slice ra rs.length rc, .string nm, .slice pa ps.length pc, .slice ka ks.length kc] 31))
  have BX := Lib.hid (box6_cells w (.int .u32 boot) (.slice ra rs.length rc) (.string nm) (.slice pa ps.length pc) (.slice ka ks.length kc))
  go_enter Try.func4, Try.ntmps4
  go_wp2_with fail
  refine (HK.out _).mono ?_
  rintro e w1 ⟨rfl, hb⟩
  have HB1 := Lib.hid (HB.out.trans (hb.mono HB.out.size))
  have HX1 := Lib.hid (hb.mono (B' := w.heap.size + 1) (by simp))
  obtain ⟨b0, b1, b2, b3, b4⟩ := BX.out _ HX1.out
  clear hb
  go_wp2_with fail
  refine (C0.out _ (HI.out.on HB1.out)).mono ?_
  rintro e w2 ⟨⟨r, rfl⟩, hb⟩
  have HB2 := Lib.hid (HB1.out.trans (hb.mono HB1.out.size))
  have HX2 := Lib.hid (HX1.out.trans (hb.mono (by have := HX1.out.size; simpa using this)))
  clear hb b0 b1 b2 b3 b4
  obtain ⟨b0, b1, b2, b3, b4⟩ := BX.out _ HX2.out
  cases r
  · clear b0 b1 b2 b3 b4
    go_wp2_with fail
    refine (HK.out _).mono ?_
    rintro e wz ⟨rfl, hb⟩
    have HBZ := Lib.hid (HB2.out.trans (hb.mono HB2.out.size))
    clear hb
    go_wp2
    go_ret
    exact ⟨rfl, HBZ.out⟩
  by_cases h40 : 40 < n
  · have d40 : decide ((n : Int) > 40) = true := decide_eq_true (by omega)
    have d41 : (40 : Int) < (n : Int) := by omega
    clear h40
    clear b0 b1 b2 b3 b4
    go_wp2_with fail
    refine (HK.out _).mono ?_
    rintro e wz ⟨rfl, hb⟩
    have HBZ := Lib.hid (HB2.out.trans (hb.mono HB2.out.size))
    clear hb
    go_wp2
    go_ret
    exact ⟨rfl, HBZ.out⟩
  have d40 : decide ((n : Int) > 40) = false := decide_eq_false (by omega)
  have d41 : ¬ (40 : Int) < (n : Int) := by omega
  go_wp2_with fail
  refine (CK.out _ (HI.out.on HB2.out)).mono ?_
  rintro e w3 ⟨rfl, hb⟩
  have HB3 := Lib.hid (HB2.out.trans (hb.mono HB2.out.size))
  have HX3 := Lib.hid (HX2.out.trans (hb.mono (by have := HX2.out.size; simpa using this)))
  clear hb b0 b1 b2 b3 b4
  obtain ⟨b0, b1, b2, b3, b4⟩ := BX.out _ HX3.out
  by_cases hE0 : E = 0
  rotate_left
  · have k0 : (E != 0) = true := by rw [bne_iff_ne]; exact hE0
    clear hE0
    clear b0 b1 b2 b3 b4
    go_wp2_with fail
    refine (HK.out _).mono ?_
    rintro e wz ⟨rfl, hb⟩
    have HBZ := Lib.hid (HB3.out.trans (hb.mono HB3.out.size))
    clear hb
    go_wp2
    go_ret
    exact ⟨rfl, HBZ.out⟩
  have k0 : (E != 0) = false := by rw [hE0]; rfl
  go_wp2_with fail
  refine (C1.out hE0 (by omega) _ HB3.out).mono ?_
  rintro e w4 ⟨ho1, ho2, hb⟩
  cases N with
  | none =>
    obtain rfl := ho1 rfl
    clear ho1 ho2
    have HB4 := Lib.hid (HB3.out.trans (hb.mono HB3.out.size))
    have HX4 := Lib.hid (HX3.out.trans (hb.mono (by have := HX3.out.size; simpa using this)))
    clear hb b0 b1 b2 b3 b4
    obtain ⟨b0, b1, b2, b3, b4⟩ := BX.out _ HX4.out
    go_wp2_with fail
    refine (C2.out _ HB4.out).mono ?_
    rintro e w5 ⟨rfl, hb⟩
    simp only [getVal]
    have HB5 := Lib.hid (HB4.out.trans (hb.mono HB4.out.size))
    have HX5 := Lib.hid (HX4.out.trans (hb.mono (by have := HX4.out.size; simpa using this)))
    clear hb b0 b1 b2 b3 b4
    obtain ⟨b0, b1, b2, b3, b4⟩ := BX.out _ HX5.out
    clear b0 b1 b2 b3 b4
    go_wp2
    go_ret
    exact ⟨rfl, HB5.out.alloc HB5.out.size _⟩
  | some x =>
    obtain ⟨ho3, ho4⟩ := ho2 ⟨_, rfl⟩
    clear ho1 ho2
    obtain ⟨xn, xpa, xpc, xps, xka, xkc, xks⟩ := x
    have C2' := Lib.hid (fun W hW => C2.out W hW)
    simp only [getVal, Nd.val, Nd.pv, Nd.kv, Nd.name, Nd.pa, Nd.pc, Nd.props, Nd.ka, Nd.kc, Nd.kids] at C2'
    generalize xks.length = xkl at *
    generalize xps.length = xpl at *
    cases UV with
    | none =>
      obtain ⟨er, rfl, her⟩ := ho3 rfl
      clear ho3 ho4
      have HB4 := Lib.hid (HB3.out.trans (hb.mono HB3.out.size))
      have HX4 := Lib.hid (HX3.out.trans (hb.mono (by have := HX3.out.size; simpa using this)))
      clear hb b0 b1 b2 b3 b4
      obtain ⟨b0, b1, b2, b3, b4⟩ := BX.out _ HX4.out
      go_wp2_with fail
      refine (C2'.out _ HB4.out).mono ?_
      rintro e w5 ⟨rfl, hb⟩
      have HB5 := Lib.hid (HB4.out.trans (hb.mono HB4.out.size))
      have HX5 := Lib.hid (HX4.out.trans (hb.mono (by have := HX4.out.size; simpa using this)))
      clear hb b0 b1 b2 b3 b4
      obtain ⟨b0, b1, b2, b3, b4⟩ := BX.out _ HX5.out
      clear b0 b1 b2 b3 b4
      have HA := Lib.hid (HX5.out.alloc (by have := HX5.out.size; simpa using this) (.cells #[.string xn, .slice xpa xpl xpc, .slice xka xkl xkc] 25))
      have HB6 := Lib.hid (HB5.out.alloc HB5.out.size (.cells #[.string xn, .slice xpa xpl xpc, .slice xka xkl xkc] 25))
      obtain ⟨b0, b1, b2, b3, b4⟩ := BX.out _ HA.out
      go_wp2_with fail
      refine (C3.out ⟨_, rfl⟩ _ HB6.out).mono ?_
      rintro e w6 ⟨rfl, hb⟩
      simp only [upVal]
      have HB7 := Lib.hid (HB6.out.trans (hb.mono HB6.out.size))
      clear hb b0 b1 b2 b3 b4
      rcases her with rfl | rfl
      · go_wp2
        go_ret
        exact ⟨rfl, HB7.out⟩
      · go_wp2
        go_ret
        exact ⟨rfl, HB7.out⟩
    | some v =>
      obtain rfl := ho4 v rfl
      clear ho3 ho4
      have HB4 := Lib.hid (HB3.out.trans (hb.mono HB3.out.size))
      have HX4 := Lib.hid (HX3.out.trans (hb.mono (by have := HX3.out.size; simpa using this)))
      clear hb b0 b1 b2 b3 b4
      obtain ⟨b0, b1, b2, b3, b4⟩ := BX.out _ HX4.out
      go_wp2_with fail
      refine (C2'.out _ HB4.out).mono ?_
      rintro e w5 ⟨rfl, hb⟩
      have HB5 := Lib.hid (HB4.out.trans (hb.mono HB4.out.size))
      have HX5 := Lib.hid (HX4.out.trans (hb.mono (by have := HX4.out.size; simpa using this)))
      clear hb b0 b1 b2 b3 b4
      obtain ⟨b0, b1, b2, b3, b4⟩ := BX.out _ HX5.out
      clear b0 b1 b2 b3 b4
      have HA := Lib.hid (HX5.out.alloc (by have := HX5.out.size; simpa using this) (.cells #[.string xn, .slice xpa xpl xpc, .slice xka xkl xkc] 25))
      have HB6 := Lib.hid (HB5.out.alloc HB5.out.size (.cells #[.string xn, .slice xpa xpl xpc, .slice xka xkl xkc] 25))
      obtain ⟨b0, b1, b2, b3, b4⟩ := BX.out _ HA.out
      go_wp2_with fail
      refine (C3.out ⟨_, rfl⟩ _ HB6.out).mono ?_
      rintro e w6 ⟨rfl, hb⟩
      simp only [upVal]
      have HB7 := Lib.hid (HB6.out.trans (hb.mono HB6.out.size))
      clear hb b0 b1 b2 b3 b4
      go_wp2
      go_ret
      exact ⟨rfl, HB7.out⟩
end Go.Proofs.Ytbblgkidgecdpaa

/-! Layer 13, XlateWindows: out of what the program's Windows answers. -/
namespace Go.Proofs.Ytbblgkidgecdpaa
open Go.RowKit
set_option linter.unusedVariables false
set_option linter.unusedSimpArgs false


set_option maxRecDepth 20000 in
set_option maxHeartbeats 8000000 in
theorem xlateWindows_true (hK : Awake13) (hU : XWindowsOK) (t : Tr) (z : List Int) (A : Option Addr) (n c : Nat) (w : World) (hin : t.In w w.heap.size) (hp : Cel w w.heap.size A n (intsZ z)) (hnc : n ≤ c) (hc : c ≤ 9223372036854775807) (hh : heftN t.root ≤ 134217728) :
    Calls Try.prog 5 #[t.val, .slice A n c] w fun e w' => e = .returned (.bool true) ∧ Below w.heap.size w w' := by
  have C0 := Lib.hid (fun w h => few_any t w h)
  obtain ⟨E, hE⟩ : ∃ E, checkE t = E := ⟨_, rfl⟩
  have CK := Lib.hid (fun w h => refcheck_any t w h E hE)
  have HK := Lib.hid hK
  have HI := Lib.hid hin
  have HP := Lib.hid hp
  have C2 := Lib.hid (fun W (hW : Below w.heap.size w W) => refget_any t z A n c W (hin.on hW) (hp.on hW) hnc hc)
  have C1 := Lib.hid (fun (h0 : E = 0) (h40 : n ≤ 40) W (hW : Below w.heap.size w W) => hU t z A n c W (hin.on hW) (hp.on hW) hnc hc hh h40 (hE.trans h0))
  have C3 := Lib.hid (fun (hn : 0 < n) (hr : ∃ y, nodeZ t.root z = some y) W (hW : Below w.heap.size w W) => refwindows_any t z A n c W (hin.on hW) (hp.on hW) hnc hc hn hr hh)
  obtain ⟨N, hN⟩ : ∃ N, nodeZ t.root z = N := ⟨_, rfl⟩
  obtain ⟨OV, hOV⟩ : ∃ OV, winsV t.root z n = OV := ⟨_, rfl⟩
  rw [hN] at C1 C2 C3
  rw [hOV] at C1 C3
  clear hK hU hin hp hh hE hN hOV
  obtain ⟨ok, L⟩ := OV
  simp only at C1 C3
  obtain ⟨boot, ra, rc, rs, ⟨nm, pa, pc, ps, ka, kc, ks⟩⟩ := t
  simp only [Tr.val, Tr.rv, Nd.val, Nd.pv, Nd.kv, Nd.name, Nd.pa, Nd.pc, Nd.props, Nd.ka, Nd.kc, Nd.kids] at C0 C1 C2 C3 CK ⊢
  have HB := Lib.hid ((Below.refl w.heap.size w).alloc (Nat.le_refl _) (.cells #[.int .u32 boot, .slice ra rs.length rc, .string nm, .slice pa ps.length pc, .slice ka ks.length kc] 31))
  have BX := Lib.hid (box6_cells w (.int .u32 boot) (.slice ra rs.length rc) (.string nm) (.slice pa ps.length pc) (.slice ka ks.length kc))
  go_enter Try.func5, Try.ntmps5
  go_wp2_with fail
  refine (HK.out _).mono ?_
  rintro e w1 ⟨rfl, hb⟩
  have HB1 := Lib.hid (HB.out.trans (hb.mono HB.out.size))
  have HX1 := Lib.hid (hb.mono (B' := w.heap.size + 1) (by simp))
  obtain ⟨b0, b1, b2, b3, b4⟩ := BX.out _ HX1.out
  clear hb
  go_wp2_with fail
  refine (C0.out _ (HI.out.on HB1.out)).mono ?_
  rintro e w2 ⟨⟨r, rfl⟩, hb⟩
  have HB2 := Lib.hid (HB1.out.trans (hb.mono HB1.out.size))
  have HX2 := Lib.hid (HX1.out.trans (hb.mono (by have := HX1.out.size; simpa using this)))
  clear hb b0 b1 b2 b3 b4
  obtain ⟨b0, b1, b2, b3, b4⟩ := BX.out _ HX2.out
  cases r
  · clear b0 b1 b2 b3 b4
    go_wp2_with fail
    refine (HK.out _).mono ?_
    rintro e wz ⟨rfl, hb⟩
    have HBZ := Lib.hid (HB2.out.trans (hb.mono HB2.out.size))
    clear hb
    go_wp2
    go_ret
    exact ⟨rfl, HBZ.out⟩
  by_cases h40 : 40 < n
  · have d40 : decide ((n : Int) > 40) = true := decide_eq_true (by omega)
    have d41 : (40 : Int) < (n : Int) := by omega
    clear h40
    clear b0 b1 b2 b3 b4
    go_wp2_with fail
    refine (HK.out _).mono ?_
    rintro e wz ⟨rfl, hb⟩
    have HBZ := Lib.hid (HB2.out.trans (hb.mono HB2.out.size))
    clear hb
    go_wp2
    go_ret
    exact ⟨rfl, HBZ.out⟩
  have d40 : decide ((n : Int) > 40) = false := decide_eq_false (by omega)
  have d41 : ¬ (40 : Int) < (n : Int) := by omega
  go_wp2_with fail
  refine (CK.out _ (HI.out.on HB2.out)).mono ?_
  rintro e w3 ⟨rfl, hb⟩
  have HB3 := Lib.hid (HB2.out.trans (hb.mono HB2.out.size))
  have HX3 := Lib.hid (HX2.out.trans (hb.mono (by have := HX2.out.size; simpa using this)))
  clear hb b0 b1 b2 b3 b4
  obtain ⟨b0, b1, b2, b3, b4⟩ := BX.out _ HX3.out
  by_cases hE0 : E = 0
  rotate_left
  · have k0 : (E != 0) = true := by rw [bne_iff_ne]; exact hE0
    clear hE0
    clear b0 b1 b2 b3 b4
    go_wp2_with fail
    refine (HK.out _).mono ?_
    rintro e wz ⟨rfl, hb⟩
    have HBZ := Lib.hid (HB3.out.trans (hb.mono HB3.out.size))
    clear hb
    go_wp2
    go_ret
    exact ⟨rfl, HBZ.out⟩
  have k0 : (E != 0) = false := by rw [hE0]; rfl
  go_wp2_with fail
  refine (C1.out hE0 (by omega) _ HB3.out).mono ?_
  rintro e w4 ⟨ho1, ho2, hb⟩
  cases N with
  | none =>
    obtain ⟨A4, c4, rfl, m4⟩ := ho1 rfl
    clear ho1 ho2
    have HB4 := Lib.hid (HB3.out.trans (hb.mono HB3.out.size))
    have HX4 := Lib.hid (HX3.out.trans (hb.mono (by have := HX3.out.size; simpa using this)))
    clear hb b0 b1 b2 b3 b4
    obtain ⟨b0, b1, b2, b3, b4⟩ := BX.out _ HX4.out
    go_wp2_with fail
    refine (C2.out _ HB4.out).mono ?_
    rintro e w5 ⟨rfl, hb⟩
    simp only [getVal]
    have HB5 := Lib.hid (HB4.out.trans (hb.mono HB4.out.size))
    have HX5 := Lib.hid (HX4.out.trans (hb.mono (by have := HX4.out.size; simpa using this)))
    clear hb b0 b1 b2 b3 b4
    obtain ⟨b0, b1, b2, b3, b4⟩ := BX.out _ HX5.out
    clear b0 b1 b2 b3 b4
    go_wp2
    go_ret
    exact ⟨rfl, HB5.out.alloc HB5.out.size _⟩
  | some x =>
    obtain ⟨ho3, ho4⟩ := ho2 ⟨_, rfl⟩
    clear ho1 ho2
    obtain ⟨xn, xpa, xpc, xps, xka, xkc, xks⟩ := x
    have C2' := Lib.hid (fun W hW => C2.out W hW)
    simp only [getVal, Nd.val, Nd.pv, Nd.kv, Nd.name, Nd.pa, Nd.pc, Nd.props, Nd.ka, Nd.kc, Nd.kids] at C2'
    generalize xks.length = xkl at *
    generalize xps.length = xpl at *
    by_cases hn0 : n = 0
    · subst hn0
      obtain ⟨A4, c4, rfl, m4⟩ := ho3 rfl
      clear ho3 ho4
      have HB4 := Lib.hid (HB3.out.trans (hb.mono HB3.out.size))
      have HX4 := Lib.hid (HX3.out.trans (hb.mono (by have := HX3.out.size; simpa using this)))
      clear hb b0 b1 b2 b3 b4
      obtain ⟨b0, b1, b2, b3, b4⟩ := BX.out _ HX4.out
      go_wp2_with fail
      refine (C2'.out _ HB4.out).mono ?_
      rintro e w5 ⟨rfl, hb⟩
      have HB5 := Lib.hid (HB4.out.trans (hb.mono HB4.out.size))
      have HX5 := Lib.hid (HX4.out.trans (hb.mono (by have := HX4.out.size; simpa using this)))
      clear hb b0 b1 b2 b3 b4
      obtain ⟨b0, b1, b2, b3, b4⟩ := BX.out _ HX5.out
      clear b0 b1 b2 b3 b4
      have HA := Lib.hid (HX5.out.alloc (by have := HX5.out.size; simpa using this) (.cells #[.string xn, .slice xpa xpl xpc, .slice xka xkl xkc] 25))
      have HB6 := Lib.hid (HB5.out.alloc HB5.out.size (.cells #[.string xn, .slice xpa xpl xpc, .slice xka xkl xkc] 25))
      clear HA
      go_wp2
      go_ret
      exact ⟨rfl, HB6.out⟩
    · have hn1 : 0 < n := by omega
      have k5 : ((n : Int) == 0) = false := by rw [beq_eq_false_iff_ne]; omega
      obtain ⟨ho5, ho6⟩ := ho4 hn1
      clear ho3 ho4 hn0
      have C3' := Lib.hid (fun W hW => C3.out hn1 ⟨_, rfl⟩ W hW)
      cases ok
      · obtain ⟨A4, c4, er, rfl, m4, her⟩ := ho5 rfl
        clear ho5 ho6
        have HB4 := Lib.hid (HB3.out.trans (hb.mono HB3.out.size))
        have HX4 := Lib.hid (HX3.out.trans (hb.mono (by have := HX3.out.size; simpa using this)))
        clear hb b0 b1 b2 b3 b4
        obtain ⟨b0, b1, b2, b3, b4⟩ := BX.out _ HX4.out
        go_wp2_with fail
        refine (C2'.out _ HB4.out).mono ?_
        rintro e w5 ⟨rfl, hb⟩
        have HB5 := Lib.hid (HB4.out.trans (hb.mono HB4.out.size))
        have HX5 := Lib.hid (HX4.out.trans (hb.mono (by have := HX4.out.size; simpa using this)))
        clear hb b0 b1 b2 b3 b4
        obtain ⟨b0, b1, b2, b3, b4⟩ := BX.out _ HX5.out
        clear b0 b1 b2 b3 b4
        have HA := Lib.hid (HX5.out.alloc (by have := HX5.out.size; simpa using this) (.cells #[.string xn, .slice xpa xpl xpc, .slice xka xkl xkc] 25))
        have HB6 := Lib.hid (HB5.out.alloc HB5.out.size (.cells #[.string xn, .slice xpa xpl xpc, .slice xka xkl xkc] 25))
        obtain ⟨b0, b1, b2, b3, b4⟩ := BX.out _ HA.out
        go_wp2_with fail
        refine (C3'.out _ HB6.out).mono ?_
        rintro e w6 ⟨⟨A6, m6, c6, rfl, s6, l6, l6'⟩, hb⟩
        have HB7 := Lib.hid (HB6.out.trans (hb.mono HB6.out.size))
        clear hb s6 b0 b1 b2 b3 b4
        rcases her with rfl | rfl
        · go_wp2
          go_ret
          exact ⟨rfl, HB7.out⟩
        · go_wp2
          go_ret
          exact ⟨rfl, HB7.out⟩
      · obtain ⟨A4, m4, c4, rfl, s4, l4, l4'⟩ := ho6 rfl
        have HS4 := Lib.hid s4
        clear ho5 ho6 s4
        have HS4b := Lib.hid HS4.out
        have HB4 := Lib.hid (HB3.out.trans (hb.mono HB3.out.size))
        have HX4 := Lib.hid (HX3.out.trans (hb.mono (by have := HX3.out.size; simpa using this)))
        clear hb b0 b1 b2 b3 b4
        obtain ⟨b0, b1, b2, b3, b4⟩ := BX.out _ HX4.out
        go_wp2_with fail
        refine (C2'.out _ HB4.out).mono ?_
        rintro e w5 ⟨rfl, hb⟩
        have HS5 := Lib.hid (HS4b.out.on hb)
        clear HS4 HS4b
        have HB5 := Lib.hid (HB4.out.trans (hb.mono HB4.out.size))
        have HX5 := Lib.hid (HX4.out.trans (hb.mono (by have := HX4.out.size; simpa using this)))
        clear hb b0 b1 b2 b3 b4
        obtain ⟨b0, b1, b2, b3, b4⟩ := BX.out _ HX5.out
        clear b0 b1 b2 b3 b4
        have HA := Lib.hid (HX5.out.alloc (by have := HX5.out.size; simpa using this) (.cells #[.string xn, .slice xpa xpl xpc, .slice xka xkl xkc] 25))
        have HB6 := Lib.hid (HB5.out.alloc HB5.out.size (.cells #[.string xn, .slice xpa xpl xpc, .slice xka xkl xkc] 25))
        have HS6 : Hid (Cel2 (w5.alloc (.cells #[.string xn, .slice xpa xpl xpc, .slice xka xkl xkc] 25)) (w5.alloc (.cells #[.string xn, .slice xpa xpl xpc, .slice xka xkl xkc] 25)).heap.size A4 m4 (L.map winV)) := Lib.hid (HS5.out.on ((Below.refl _ w5).alloc (Nat.le_refl _) _))
        obtain ⟨b0, b1, b2, b3, b4⟩ := BX.out _ HA.out
        go_wp2_with fail
        refine (C3'.out _ HB6.out).mono ?_
        rintro e w6 ⟨⟨A6, m6, c6, rfl, s6, l6, l6'⟩, hb⟩
        have HB7 := Lib.hid (HB6.out.trans (hb.mono HB6.out.size))
        have HT7 := Lib.hid (HS6.out.on hb)
        have HS7 := Lib.hid s6
        obtain rfl : m4 = m6 := by rw [← HS6.out.1, ← s6.1]
        have HLN : Hid (L.length = m4) := Lib.hid (by have := s6.1; rwa [List.length_map] at this)
        have q1 : ((m4 : Int) != (m4 : Int)) = false := by simp
        clear hb s6 b0 b1 b2 b3 b4 HS6 HS5 HA
        go_wp2_with fail
        go_loopw [93] (fun i wr => ∃ j : Nat, j ≤ m4 ∧ i = .int .i64 j ∧ Below w6.heap.size w6 wr) (fun i _ => m4 - (intOf i).toNat)
        case atStart => exact ⟨0, Nat.zero_le _, rfl, Below.refl _ _⟩
        case round =>
          obtain ⟨j, hj, rfl, hb⟩ := hrel
          have HBX := Lib.hid hb
          have HBW := Lib.hid (HB7.out.trans (hb.mono HB7.out.size))
          by_cases hlt : j < m4
          · have hjl : j < (L.map winV).length := by rw [List.length_map, HLN.out]; exact hlt
            obtain ⟨b, o, e, _, hc2⟩ := (HT7.out.below hb).2 (by omega)
            obtain rfl : A4 = _ := e
            obtain ⟨b', o', e, _, hc'⟩ := (HS7.out.below hb).2 (by omega)
            obtain rfl : A6 = _ := e
            obtain ⟨p0, p1⟩ := hc2 j hjl
            obtain ⟨q0, q1'⟩ := hc' j hjl
            rw [List.getElem_map] at p0 p1 q0 q1'
            generalize L[j]'(by rw [HLN.out]; exact hlt) = Y at *
            obtain ⟨x, y⟩ := Y
            replace p0 : wr.cell? ⟨b, o + j * 2, none⟩ = some (.int .u64 x) := p0
            replace p1 : wr.cell? ⟨b, o + j * 2 + 1, none⟩ = some (.int .u64 y) := p1
            replace q0 : wr.cell? ⟨b', o' + j * 2, none⟩ = some (.int .u64 x) := q0
            replace q1' : wr.cell? ⟨b', o' + j * 2 + 1, none⟩ = some (.int .u64 y) := q1'
            clear hc2 hc' hb hjl
            go_wp2_with fail
            go_region
            go_wp2
            go_roundw
            case rel => exact ⟨j + 1, by omega, by go_num, HBX.out.drew⟩
            case measure => simp [intOf]; omega
          · clear hb
            go_wp2
            go_ret
            exact ⟨rfl, HBW.out⟩
end Go.Proofs.Ytbblgkidgecdpaa
