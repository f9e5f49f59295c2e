/-
  Layer 3: whether two nodes, and all below them, are the same.
-/
import Derived.Test.YthfonfecangmcaaTFind
import Derived.Lib.Bytes
namespace Go.Proofs.Ythfonfecangmcaa
open Go.RowKit
set_option linter.unusedVariables false
set_option linter.unusedSimpArgs false

/-- 'string(b)' of bytes that are shown. -/
theorem run_string {w : World} {B n : Nat} {A : Option Addr} {zs : List Int} (h : Shows w B A n zs) (c : Nat) :
    (convert 35 9 (.slice A n c)).run Try.prog w = .ok (.string (strOfNums zs)) w := by
  rcases Nat.eq_zero_or_pos n with rfl | h0
  · obtain rfl : zs = [] := List.eq_nil_of_length_eq_zero h.1
    rcases A with _ | ⟨b, o, s⟩
    · exact run_convert_bytes_nil w 35 5 Try.underlying35 Try.underlying5 0 c _ Try.underlying9
    · rw [run_convert_bytes_string w 35 9 5 _ 0 c Try.underlying35 Try.underlying5 Try.underlying9,
        run_bytesToString w _ 0 c [] (by simpa using run_loadCells_list (P := Try.prog) w ⟨b, o, s⟩ [] (by simp))]
      rfl
  · obtain ⟨b, o, rfl, _, hc⟩ := h.at_ h0
    exact run_convert_bytes_arg w 35 5 Try.underlying35 Try.underlying5 b o n c zs h.1 hc _ Try.underlying9

theorem nums_inj : ∀ {xs ys : List Int}, (∀ z ∈ xs, 0 ≤ z ∧ z < 256) → (∀ z ∈ ys, 0 ≤ z ∧ z < 256) → (xs.map fun n => UInt8.ofNat n.toNat) = (ys.map fun n => UInt8.ofNat n.toNat) → xs = ys
  | [], [], _, _, _ => rfl
  | [], _ :: _, _, _, h => by simp at h
  | _ :: _, [], _, _, h => by simp at h
  | x :: xs, y :: ys, hx, hy, h => by
    simp only [List.map_cons, List.cons.injEq] at h
    have h1 := hx x (List.mem_cons_self ..)
    have h2 := hy y (List.mem_cons_self ..)
    have h3 := congrArg UInt8.toNat h.1
    simp only [UInt8.toNat_ofNat'] at h3
    rw [nums_inj (fun z hz => hx z (List.mem_cons_of_mem _ hz)) (fun z hz => hy z (List.mem_cons_of_mem _ hz)) h.2]
    congr 1
    omega

/-- Texts of bytes are the same just if the bytes are. -/
theorem str_eqz {xs ys : List Int} (hx : ∀ z ∈ xs, 0 ≤ z ∧ z < 256) (hy : ∀ z ∈ ys, 0 ≤ z ∧ z < 256) : ((strOfNums xs).toList == (strOfNums ys).toList) = decide (xs = ys) := by
  rw [Lib.toList_data, Lib.toList_data, strOfNums_data, strOfNums_data, Bool.eq_iff_iff, beq_iff_eq, decide_eq_true_iff]
  exact ⟨nums_inj hx hy, fun h => by rw [h]⟩
theorem str_eqb (x y : ByteArray) : (x.toList == y.toList) = decide (x = y) := by
  by_cases h : x = y
  · subst h; simp
  · rw [str_ne h, decide_eq_false h]

theorem bequal_any (A A' : Option Addr) (n n' c c' B B' : Nat) (xs ys : List Int) (w : World) (hx : Shows w B A n xs) (hy : Shows w B' A' n' ys) (r : Bool) (hr : decide (xs = ys) = r) :
    Calls Try.prog 41 #[.slice A n c, .slice A' n' c'] w fun e w' => e = .returned (.bool r) ∧ w' = w := by
  have e1 := run_string hx c
  have e2 := run_string hy c'
  have hr' : ((strOfNums xs).toList == (strOfNums ys).toList) = r := (str_eqz hx.2.1 hy.2.1).trans hr
  clear hx hy hr
  go_enter Try.func41, Try.ntmps41
  go_wp2
  go_ret
  exact ⟨rfl, rfl⟩

/-- Two properties are the same. -/
def sameP (p q : PV) : Bool := decide (p.name = q.name) && decide (p.zs = q.zs)
def all2 {α : Type} (f : α → α → Bool) : List α → List α → Bool
  | [], [] => true
  | p :: l, q :: r => f p q && all2 f l r
  | _, _ => false
theorem all2_len {α : Type} {f : α → α → Bool} : ∀ {l r : List α}, all2 f l r = true → l.length = r.length
  | [], [], _ => rfl
  | [], _ :: _, h => by simp [all2] at h
  | _ :: _, [], h => by simp [all2] at h
  | p :: l, q :: r, h => by
    simp only [all2, Bool.and_eq_true] at h
    simp [all2_len h.2]
theorem all2_at {α : Type} {f : α → α → Bool} : ∀ {l r : List α}, all2 f l r = true → ∀ (k : Nat) (h1 : k < l.length) (h2 : k < r.length), f l[k] r[k] = true
  | p :: l, q :: r, h, 0, _, _ => by simp only [all2, Bool.and_eq_true] at h; exact h.1
  | p :: l, q :: r, h, k + 1, h1, h2 => by
    simp only [all2, Bool.and_eq_true] at h
    exact all2_at h.2 k (by simpa using h1) (by simpa using h2)
theorem all2_mk {α : Type} {f : α → α → Bool} : ∀ {l r : List α}, l.length = r.length → (∀ (k : Nat) (h1 : k < l.length) (h2 : k < r.length), f l[k] r[k] = true) → all2 f l r = true
  | [], [], _, _ => rfl
  | [], _ :: _, h, _ => by simp at h
  | _ :: _, [], h, _ => by simp at h
  | p :: l, q :: r, hl, h => by
    have h0 : f p q = true := h 0 (by simp) (by simp)
    simp only [all2, Bool.and_eq_true]
    exact ⟨h0, all2_mk (by simpa using hl) (fun k h1 h2 => h (k + 1) (by simpa using h1) (by simpa using h2))⟩
theorem all2_bad {α : Type} {f : α → α → Bool} {l r : List α} (k : Nat) (h1 : k < l.length) (h2 : k < r.length) (h : f l[k] r[k] = false) : all2 f l r = false := by
  rcases hb : all2 f l r with _ | _
  · rfl
  · rw [all2_at hb k h1 h2] at h; cases h
theorem all2_lens {α : Type} {f : α → α → Bool} {l r : List α} (h : l.length ≠ r.length) : all2 f l r = false := by
  rcases hb : all2 f l r with _ | _
  · rfl
  · exact absurd (all2_len hb) h

set_option maxHeartbeats 1000000 in
theorem sameProp_any (p q : PV) (w : World) (hp : p.In w w.heap.size) (hq : q.In w w.heap.size) (r : Bool) (hr : sameP p q = r) :
    Calls Try.prog 30 #[.agg #[.string p.name, p.val], .agg #[.string q.name, q.val]] w fun e w' => e = .returned (.bool r) ∧ Below w.heap.size w w' := by
  have HP := Lib.hid hp
  have HQ := Lib.hid hq
  have HR := Lib.hid hr
  have HW := Lib.hid ((((Below.refl w.heap.size w).alloc (Nat.le_refl _) (.cells #[.string p.name, p.val] 37))).alloc (by simp) (.cells #[.string q.name, q.val] 37))
  clear hp hq hr
  obtain ⟨x, a, c, zs⟩ := p
  obtain ⟨y, a', c', zs'⟩ := q
  show Calls _ _ #[.agg #[.string x, .slice a zs.length c], .agg #[.string y, .slice a' zs'.length c']] _ _
  by_cases hn : x = y
  · have hn1 : (x.toList == y.toList) = true := by rw [str_eqb, decide_eq_true hn]
    have HN := Lib.hid hn
    clear hn
    go_enter Try.func30, Try.ntmps30
    go_wp2_with fail
    refine (bequal_any a a' zs.length zs'.length c c' _ _ zs zs' _ (HP.out.2.1.below HW.out) (HQ.out.2.1.below HW.out) r ?_).mono ?_
    · rw [← HR.out, sameP, decide_eq_true HN.out]; rfl
    rintro e w' ⟨rfl, rfl⟩
    go_wp2
    go_ret
    exact ⟨rfl, HW.out⟩
  · have hn1 : (x.toList == y.toList) = false := by rw [str_eqb, decide_eq_false hn]
    obtain rfl : r = false := by rw [← HR.out, sameP, decide_eq_false hn]; rfl
    go_enter Try.func30, Try.ntmps30
    go_wp2
    go_ret
    exact ⟨rfl, HW.out⟩

/-- The first k pairs are the same. -/
def Even {α : Type} (f : α → α → Bool) (l r : List α) (k : Nat) : Prop := ∀ j (h1 : j < l.length) (h2 : j < r.length), j < k → f l[j] r[j] = true
theorem Even.zero {α : Type} (f : α → α → Bool) (l r : List α) : Even f l r 0 := fun _ _ _ h => absurd h (Nat.not_lt_zero _)
theorem Even.succ {α : Type} {f : α → α → Bool} {l r : List α} {k : Nat} (h : Even f l r k) (h1 : k < l.length) (h2 : k < r.length) (he : f l[k] r[k] = true) : Even f l r (k + 1) := fun j h1' h2' hj => by
  rcases Nat.lt_succ_iff_lt_or_eq.1 hj with h' | rfl
  · exact h j h1' h2' h'
  · exact he
theorem Even.all {α : Type} {f : α → α → Bool} {l r : List α} {k : Nat} (h : Even f l r k) (hl : l.length = r.length) (hk : ¬ k < l.length) : all2 f l r = true := all2_mk hl fun j h1 h2 => h j h1 h2 (by omega)

set_option maxHeartbeats 1000000 in
theorem equalP_any (n m : Nd) (w : World) (hn : n.In w w.heap.size) (hm : m.In w w.heap.size) (r : Bool) (hr : all2 sameP n.props m.props = r) :
    Calls Try.prog 29 #[n.pv, m.pv, .func (.func 30) #[] #[]] w fun e w' => e = .returned (.bool r) ∧ Below w.heap.size w w' := by
  obtain ⟨nm, pa, pc, ps, ka, kc, ks⟩ := n
  obtain ⟨nm', pa', pc', ps', ka', kc', ks'⟩ := m
  have HI := Lib.hid hn
  have HJ := Lib.hid hm
  have HR := Lib.hid (show all2 sameP ps ps' = r from hr)
  obtain ⟨hl, hm1⟩ : ps.length ≤ pc ∧ pc ≤ 9223372036854775807 := hn.plen
  clear hn hm hr
  show Calls _ _ #[.slice pa ps.length pc, .slice pa' ps'.length pc', _] _ _
  by_cases hle : ps.length = ps'.length
  · have HL := Lib.hid hle
    have hL1 : ((ps.length : Int) == (ps'.length : Int)) = true := by rw [hle]; simp
    have hL2 : ((ps.length : Int) != (ps'.length : Int)) = false := by rw [hle]; simp
    clear hle
    go_enter Try.func29, Try.ntmps29
    go_wp2_with fail
    go_loopw [17] (fun i wr => ∃ k : Nat, k ≤ ps.length ∧ i = .int .i64 k ∧ Even sameP ps ps' k ∧ Below w.heap.size w wr) (fun i _ => ps.length - (intOf i).toNat)
    case atStart => exact ⟨0, Nat.zero_le _, rfl, Even.zero _ _ _, Below.refl _ _⟩
    case round =>
      obtain ⟨k, hk, rfl, hev, hb⟩ := hrel
      have HE := Lib.hid hev
      have HB := Lib.hid hb
      clear hev hb
      by_cases hlt : k < ps.length
      · have hlt' : k < ps'.length := by rw [← HL.out]; exact hlt
        obtain ⟨b, o, e, hb, c0, c1⟩ := (HI.out.under HB.out).pcell (i := k) hlt
        obtain rfl : pa = _ := e
        replace c0 : _ = some (Value.string ps[k].name) := c0
        replace c1 : _ = some (Value.slice ps[k].addr ps[k].zs.length ps[k].cap) := c1
        obtain ⟨b', o', e', hb', d0, d1⟩ := (HJ.out.under HB.out).pcell (i := k) hlt'
        obtain rfl : pa' = _ := e'
        replace d0 : _ = some (Value.string ps'[k].name) := d0
        replace d1 : _ = some (Value.slice ps'[k].addr ps'[k].zs.length ps'[k].cap) := d1
        have c0' : ∀ o, (wr.alloc o).cell? _ = _ := fun o => Lib.cell?_alloc_some o c0
        have d0' : ∀ o, (wr.alloc o).cell? _ = _ := fun o => Lib.cell?_alloc_some o d0
        have d1' : ∀ o, (wr.alloc o).cell? _ = _ := fun o => Lib.cell?_alloc_some o d1
        clear c0'
        have HB2 := Lib.hid ((HB.out.alloc HB.out.size (.cells #[Value.string ps[k].name, .slice ps[k].addr ps[k].zs.length ps[k].cap] 37)).alloc (by have := HB.out.size; simp; omega) (.cells #[Value.string ps'[k].name, .slice ps'[k].addr ps'[k].zs.length ps'[k].cap] 37))
        go_wp2_with fail
        obtain ⟨q, hq⟩ : ∃ q, sameP ps[k] ps'[k] = q := ⟨_, rfl⟩
        refine (sameProp_any ps[k] ps'[k] _ (((HI.out.prop (List.getElem_mem hlt)).keep (fun _ hp => HB2.out.cell hp)).more HB2.out.size) (((HJ.out.prop (List.getElem_mem hlt')).keep (fun _ hp => HB2.out.cell hp)).more HB2.out.size) q hq).mono ?_
        rintro e w' ⟨rfl, hb'⟩
        have HB3 := Lib.hid (HB2.out.trans (hb'.mono HB2.out.size))
        have HQ := Lib.hid hq
        clear hb' hq
        cases q
        · obtain rfl : r = false := by rw [← HR.out]; exact all2_bad k hlt hlt' HQ.out
          go_wp2
          go_ret
          exact ⟨rfl, HB3.out⟩
        · go_wp2
          go_roundw
          case rel => exact ⟨k + 1, by omega, by go_num, HE.out.succ hlt hlt' HQ.out, HB3.out⟩
          case measure => simp [intOf]; omega
      · obtain rfl : r = true := by rw [← HR.out]; exact HE.out.all HL.out hlt
        go_wp2
        go_ret
        exact ⟨rfl, HB.out⟩
  · obtain rfl : r = false := by rw [← HR.out]; exact all2_lens hle
    have hL1 : ((ps.length : Int) == (ps'.length : Int)) = false := by rw [beq_eq_false_iff_ne]; omega
    have hL2 : ((ps.length : Int) != (ps'.length : Int)) = true := by rw [bne, hL1]; rfl
    go_enter Try.func29, Try.ntmps29
    go_wp2
    go_ret
    exact ⟨rfl, Below.refl _ _⟩
mutual
/-- Two nodes, and all below them, are the same. -/
def sameB : Nd → Nd → Bool
  | .mk n _ _ p _ _ k, m => decide (n = m.name) && all2 sameP p m.props && sameL k m.kids
def sameL : List Nd → List Nd → Bool
  | [], [] => true
  | a :: l, b :: r => sameB a b && sameL l r
  | [], _ :: _ => false
  | _ :: _, [] => false
end
theorem sameL_all2 : ∀ l r : List Nd, sameL l r = all2 sameB l r
  | [], [] => rfl
  | a :: l, b :: r => by rw [sameL, all2, sameL_all2 l r]
  | [], _ :: _ => rfl
  | _ :: _, [] => rfl
theorem sameB_mk (n m : Nd) : sameB n m = (decide (n.name = m.name) && all2 sameP n.props m.props && all2 sameB n.kids m.kids) := by
  cases n
  rw [sameB, sameL_all2]
  rfl

set_option maxHeartbeats 1000000 in
theorem equalN_any (n m : Nd) (ih : ∀ k ∈ n.kids, ∀ (m : Nd) (w : World), k.In w w.heap.size → m.In w w.heap.size → ∀ r : Bool, sameB k m = r → Calls Try.prog 14 #[k.val, m.val] w fun e w' => e = .returned (.bool r) ∧ Below w.heap.size w w') (w : World) (hn : n.In w w.heap.size) (hm : m.In w w.heap.size) (r : Bool) (hr : all2 sameB n.kids m.kids = r) :
    Calls Try.prog 31 #[n.kv, m.kv, .func (.func 14) #[] #[]] w fun e w' => e = .returned (.bool r) ∧ Below w.heap.size w w' := by
  obtain ⟨nm, pa, pc, ps, ka, kc, ks⟩ := n
  obtain ⟨nm', pa', pc', ps', ka', kc', ks'⟩ := m
  have HI := Lib.hid hn
  have IH := Lib.hid ih
  clear ih
  have HJ := Lib.hid hm
  have HR := Lib.hid (show all2 sameB ks ks' = r from hr)
  obtain ⟨hl, hm1⟩ : ks.length ≤ kc ∧ kc ≤ 9223372036854775807 := hn.klen
  clear hn hm hr
  show Calls _ _ #[.slice ka ks.length kc, .slice ka' ks'.length kc', _] _ _
  by_cases hle : ks.length = ks'.length
  · have HL := Lib.hid hle
    have hL1 : ((ks.length : Int) == (ks'.length : Int)) = true := by rw [hle]; simp
    have hL2 : ((ks.length : Int) != (ks'.length : Int)) = false := by rw [hle]; simp
    clear hle
    go_enter Try.func31, Try.ntmps31
    go_wp2_with fail
    go_loopw [17] (fun i wr => ∃ k : Nat, k ≤ ks.length ∧ i = .int .i64 k ∧ Even sameB ks ks' k ∧ Below w.heap.size w wr) (fun i _ => ks.length - (intOf i).toNat)
    case atStart => exact ⟨0, Nat.zero_le _, rfl, Even.zero _ _ _, Below.refl _ _⟩
    case round =>
      obtain ⟨k, hk, rfl, hev, hb⟩ := hrel
      have HE := Lib.hid hev
      have HB := Lib.hid hb
      clear hev hb
      by_cases hlt : k < ks.length
      · have hlt' : k < ks'.length := by rw [← HL.out]; exact hlt
        obtain ⟨b, o, e, hb, c0, c1, c2⟩ := (HI.out.under HB.out).kcell (i := k) hlt
        obtain rfl : ka = _ := e
        replace c0 : _ = some (Value.string ks[k].name) := c0
        replace c1 : _ = some (Value.slice ks[k].pa ks[k].props.length ks[k].pc) := c1
        replace c2 : _ = some (Value.slice ks[k].ka ks[k].kids.length ks[k].kc) := c2
        obtain ⟨b', o', e', hb', d0, d1, d2⟩ := (HJ.out.under HB.out).kcell (i := k) hlt'
        obtain rfl : ka' = _ := e'
        replace d0 : _ = some (Value.string ks'[k].name) := d0
        replace d1 : _ = some (Value.slice ks'[k].pa ks'[k].props.length ks'[k].pc) := d1
        replace d2 : _ = some (Value.slice ks'[k].ka ks'[k].kids.length ks'[k].kc) := d2
        have c0' : ∀ o, (wr.alloc o).cell? _ = _ := fun o => Lib.cell?_alloc_some o c0
        have d0' : ∀ o, (wr.alloc o).cell? _ = _ := fun o => Lib.cell?_alloc_some o d0
        have d1' : ∀ o, (wr.alloc o).cell? _ = _ := fun o => Lib.cell?_alloc_some o d1
        have d2' : ∀ o, (wr.alloc o).cell? _ = _ := fun o => Lib.cell?_alloc_some o d2
        clear c0'
        have HB2 := Lib.hid ((HB.out.alloc HB.out.size (.cells #[Value.string ks[k].name, .slice ks[k].pa ks[k].props.length ks[k].pc, .slice ks[k].ka ks[k].kids.length ks[k].kc] 27)).alloc (by have := HB.out.size; simp; omega) (.cells #[Value.string ks'[k].name, .slice ks'[k].pa ks'[k].props.length ks'[k].pc, .slice ks'[k].ka ks'[k].kids.length ks'[k].kc] 27))
        go_wp2_with fail
        obtain ⟨q, hq⟩ : ∃ q, sameB ks[k] ks'[k] = q := ⟨_, rfl⟩
        refine (IH.out ks[k] (List.getElem_mem hlt) ks'[k] _ (((HI.out.kid (List.getElem_mem hlt)).under HB2.out).more HB2.out.size) (((HJ.out.kid (List.getElem_mem hlt')).under HB2.out).more HB2.out.size) q hq).mono ?_
        rintro e w' ⟨rfl, hb'⟩
        have HB3 := Lib.hid (HB2.out.trans (hb'.mono HB2.out.size))
        have HQ := Lib.hid hq
        clear hb' hq
        cases q
        · obtain rfl : r = false := by rw [← HR.out]; exact all2_bad k hlt hlt' HQ.out
          go_wp2
          go_ret
          exact ⟨rfl, HB3.out⟩
        · go_wp2
          go_roundw
          case rel => exact ⟨k + 1, by omega, by go_num, HE.out.succ hlt hlt' HQ.out, HB3.out⟩
          case measure => simp [intOf]; omega
      · obtain rfl : r = true := by rw [← HR.out]; exact HE.out.all HL.out hlt
        go_wp2
        go_ret
        exact ⟨rfl, HB.out⟩
  · obtain rfl : r = false := by rw [← HR.out]; exact all2_lens hle
    have hL1 : ((ks.length : Int) == (ks'.length : Int)) = false := by rw [beq_eq_false_iff_ne]; omega
    have hL2 : ((ks.length : Int) != (ks'.length : Int)) = true := by rw [bne, hL1]; rfl
    go_enter Try.func31, Try.ntmps31
    go_wp2
    go_ret
    exact ⟨rfl, Below.refl _ _⟩

set_option maxHeartbeats 1000000 in
theorem same_any : ∀ (n m : Nd) (w : World), n.In w w.heap.size → m.In w w.heap.size → ∀ r : Bool, sameB n m = r → Calls Try.prog 14 #[n.val, m.val] w fun e w' => e = .returned (.bool r) ∧ Below w.heap.size w w' := by
  refine Nd.ind ?_
  intro n ih m w hn hm r hr
  have HI := Lib.hid hn
  have HJ := Lib.hid hm
  have HR := Lib.hid ((sameB_mk n m).symm.trans hr)
  have IH := Lib.hid ih
  have HW := Lib.hid ((((Below.refl w.heap.size w).alloc (Nat.le_refl _) (.cells #[.string n.name, n.pv, n.kv] 27))).alloc (by simp) (.cells #[.string m.name, m.pv, m.kv] 27))
  have HA := Lib.hid (fun r hr => equalP_any n m _ (HI.out.on HW.out) (HJ.out.on HW.out) r hr)
  obtain ⟨r1, h1⟩ : ∃ r1, all2 sameP n.props m.props = r1 := ⟨_, rfl⟩
  obtain ⟨r2, h2⟩ : ∃ r2, all2 sameB n.kids m.kids = r2 := ⟨_, rfl⟩
  have HP := Lib.hid (HA.out r1 h1)
  have HK := Lib.hid (fun w h1 h2' => equalN_any n m IH.out w h1 h2' r2 h2)
  have H1 := Lib.hid h1
  have H2 := Lib.hid h2
  clear HA h1 h2 hn hm hr ih IH
  obtain ⟨nm, pa, pc, ps, ka, kc, ks⟩ := n
  obtain ⟨nm', pa', pc', ps', ka', kc', ks'⟩ := m
  show Calls _ _ #[.agg #[.string nm, .slice pa ps.length pc, .slice ka ks.length kc], .agg #[.string nm', .slice pa' ps'.length pc', .slice ka' ks'.length kc']] _ _
  by_cases hnm : nm = nm'
  · have hn1 : (nm.toList == nm'.toList) = true := by rw [str_eqb, decide_eq_true hnm]
    have HR' : Hid ((r1 && r2) = r) := by
      have := HR.out
      rw [show (Nd.mk nm pa pc ps ka kc ks).name = nm from rfl, show (Nd.mk nm' pa' pc' ps' ka' kc' ks').name = nm' from rfl, decide_eq_true hnm, Bool.true_and, H1.out, H2.out] at this
      exact this
    clear hnm HR
    cases r1
    · obtain rfl : r = false := HR'.out.symm
      go_enter Try.func14, Try.ntmps14
      go_wp2_with fail
      refine HP.out.mono ?_
      rintro e w' ⟨rfl, hb'⟩
      have HB3 := Lib.hid (HW.out.trans (hb'.mono HW.out.size))
      clear hb'
      go_wp2
      go_ret
      exact ⟨rfl, HB3.out⟩
    · obtain rfl : r = r2 := HR'.out.symm
      go_enter Try.func14, Try.ntmps14
      go_wp2_with fail
      refine HP.out.mono ?_
      rintro e w' ⟨rfl, hb'⟩
      have HB3 := Lib.hid (HW.out.trans (hb'.mono HW.out.size))
      have hx := (hb'.cell (p := ⟨w.heap.size, 2, none⟩) (by simp; omega)).trans (World.cell?_alloc2_first _ _ _ _)
      have hy := (hb'.cell (p := ⟨w.heap.size + 1, 2, none⟩) (by simp)).trans (World.cell?_alloc2_new _ _ _ _)
      replace hx : _ = some (Value.slice ka ks.length kc) := hx
      replace hy : _ = some (Value.slice ka' ks'.length kc') := hy
      clear hb'
      go_wp2_with fail
      refine (HK.out _ (HI.out.on HB3.out) (HJ.out.on HB3.out)).mono ?_
      rintro e w2 ⟨rfl, hb'⟩
      have HB4 := Lib.hid (HB3.out.trans (hb'.mono HB3.out.size))
      clear hb' hx hy
      go_wp2
      go_ret
      exact ⟨rfl, HB4.out⟩
  · have hn1 : (nm.toList == nm'.toList) = false := by rw [str_eqb, decide_eq_false hnm]
    obtain rfl : r = false := by
      have := HR.out
      rw [show (Nd.mk nm pa pc ps ka kc ks).name = nm from rfl, show (Nd.mk nm' pa' pc' ps' ka' kc' ks').name = nm' from rfl, decide_eq_false hnm] at this
      exact this.symm
    clear hnm
    go_enter Try.func14, Try.ntmps14
    go_wp2
    go_ret
    exact ⟨rfl, HW.out⟩
end Go.Proofs.Ythfonfecangmcaa
