/-
  Base, part 3: what the proofs of this claim lean on.
-/
import Derived.Test.YtihlpcbebpnmkaaGreatDoorBase2
import Derived.Test.YtihlpcbebpnmkaaGreatDoorBase1
import Derived.Deep.OwnRows
import Derived.Deep.Strs
import Derived.Great.BuildSlice
import Derived.Lib.SlFresh
import Derived.Laws.OwnMore

/-! Layer 10: a node laid over another, as a function of the nodes without addresses. -/
namespace Go.Proofs.YtihlpcbebpnmkaaGreatDoor
open Go.RowKit
set_option linter.unusedVariables false
set_option linter.unusedSimpArgs false

/-- One property laid over properties. -/
def putP : List (ByteArray × List Int) → ByteArray × List Int → List (ByteArray × List Int)
  | [], p => [p]
  | x :: r, p => if x.1 = p.1 then p :: r else x :: putP r p
/-- The first node of that name is changed, or the node comes behind. -/
def updK (f : PN → PN) (k : PN) : List PN → List PN
  | [] => [k]
  | x :: r => if x.name = k.name then f x :: r else x :: updK f k r
mutual
def mergeN : PN → PN → PN
  | .mk _ ps ks, a => .mk a.name (ps.foldl putP a.props) (mergeL ks a.kids)
def mergeL : List PN → List PN → List PN
  | [], l => l
  | k :: r, l => mergeL r (updK (fun x => mergeN k x) k l)
end
theorem mergeL_app : ∀ (r s l : List PN), mergeL (r ++ s) l = mergeL s (mergeL r l)
  | [], s, l => by rw [List.nil_append, mergeL]
  | k :: r, s, l => by rw [List.cons_append, mergeL, mergeL, mergeL_app r s]

theorem idxOf_neg_or (l : List ByteArray) (s : ByteArray) : idxOf l s = -1 ∨ 0 ≤ idxOf l s := by
  cases l with
  | nil => exact .inl rfl
  | cons x l =>
    rw [idxOf]
    split
    · exact .inr (Int.le_refl _)
    · split
      · exact .inl rfl
      · exact .inr (by omega)
theorem putP_none : ∀ (l : List (ByteArray × List Int)) (p : ByteArray × List Int), idxOf (l.map Prod.fst) p.1 < 0 → putP l p = l ++ [p]
  | [], p, _ => rfl
  | x :: l, p, h => by
    rw [List.map_cons, idxOf] at h
    by_cases hx : x.1 = p.1
    · rw [if_pos hx] at h; omega
    · rw [if_neg hx] at h
      rw [putP, if_neg hx, putP_none l p, List.cons_append]
      rcases idxOf_neg_or (l.map Prod.fst) p.1 with h' | h'
      · omega
      · rw [if_neg (by omega)] at h; omega
theorem putP_at : ∀ (l : List (ByteArray × List Int)) (p : ByteArray × List Int) (k : Nat), idxOf (l.map Prod.fst) p.1 = (k : Int) → k < l.length ∧ putP l p = l.set k p
  | [], p, k, h => by rw [List.map_nil, idxOf] at h; omega
  | x :: l, p, k, h => by
    rw [List.map_cons, idxOf] at h
    by_cases hx : x.1 = p.1
    · rw [if_pos hx] at h
      obtain rfl : k = 0 := by omega
      rw [putP, if_pos hx]
      exact ⟨by simp, rfl⟩
    · rw [if_neg hx] at h
      by_cases h0 : idxOf (l.map Prod.fst) p.1 < 0
      · rw [if_pos h0] at h; omega
      · rw [if_neg h0] at h
        obtain ⟨j, rfl⟩ : ∃ j, k = j + 1 := ⟨k - 1, by omega⟩
        obtain ⟨h1, h2⟩ := putP_at l p j (by omega)
        rw [putP, if_neg hx, h2]
        exact ⟨by simpa using h1, rfl⟩
theorem updK_none (f : PN → PN) : ∀ (l : List PN) (k : PN), idxOf (l.map PN.name) k.name < 0 → updK f k l = l ++ [k]
  | [], k, _ => rfl
  | x :: l, k, h => by
    rw [List.map_cons, idxOf] at h
    by_cases hx : x.name = k.name
    · rw [if_pos hx] at h; omega
    · rw [if_neg hx] at h
      rw [updK, if_neg hx, updK_none f l k, List.cons_append]
      rcases idxOf_neg_or (l.map PN.name) k.name with h' | h'
      · omega
      · rw [if_neg (by omega)] at h; omega
theorem updK_at (f : PN → PN) : ∀ (l : List PN) (k : PN) (j : Nat), idxOf (l.map PN.name) k.name = (j : Int) → ∃ h : j < l.length, updK f k l = l.set j (f l[j])
  | [], k, j, h => by rw [List.map_nil, idxOf] at h; omega
  | x :: l, k, j, h => by
    rw [List.map_cons, idxOf] at h
    by_cases hx : x.name = k.name
    · rw [if_pos hx] at h
      obtain rfl : j = 0 := by omega
      rw [updK, if_pos hx]
      exact ⟨by simp, rfl⟩
    · rw [if_neg hx] at h
      by_cases h0 : idxOf (l.map PN.name) k.name < 0
      · rw [if_pos h0] at h; omega
      · rw [if_neg h0] at h
        obtain ⟨i, rfl⟩ : ∃ i, j = i + 1 := ⟨j - 1, by omega⟩
        obtain ⟨h1, h2⟩ := updK_at f l k i (by omega)
        rw [updK, if_neg hx, h2]
        exact ⟨by simpa using h1, rfl⟩

/-! ### How much it takes -/
def szP (x : ByteArray × List Int) : Nat := 16 + x.1.size + x.2.length
def szPs (l : List (ByteArray × List Int)) : Nat := (l.map szP).sum
mutual
def hpN : PN → Nat
  | .mk n ps ks => 16 + n.size + szPs ps + hpL ks
def hpL : List PN → Nat
  | [] => 0
  | k :: r => hpN k + hpL r
end
theorem heft_hp : ∀ n : Nd, heftN n = hpN (pureN n) := by
  refine Nd.ind ?_
  intro n ih
  have hl : ∀ l : List Nd, (∀ k ∈ l, heftN k = hpN (pureN k)) → heftL l = hpL (l.map pureN) := by
    intro l
    induction l with
    | nil => intro _; simp [heftL, hpL]
    | cons x l ihl =>
      intro h
      rw [heftL, List.map_cons, hpL, h x (by simp), ihl (fun k hk => h k (by simp [hk]))]
  have e : heftN n = 16 + n.name.size + (n.props.map heftP).sum + heftL n.kids := by cases n; rw [heftN]; rfl
  rw [e, pureN_mk, hpN, hl n.kids ih, szPs, List.map_map]
  rfl
theorem heftL_hp (l : List Nd) : heftL l = hpL (l.map pureN) := by
  induction l with
  | nil => simp [heftL, hpL]
  | cons x l ih => rw [heftL, List.map_cons, hpL, heft_hp x, ih]
theorem szPs_put : ∀ (l : List (ByteArray × List Int)) (p : ByteArray × List Int), szPs (putP l p) ≤ szPs l + szP p
  | [], p => by simp [putP, szPs]
  | x :: l, p => by
    rw [putP]
    split
    · simp only [szPs, List.map_cons, List.sum_cons]; omega
    · have := szPs_put l p
      simp only [szPs, List.map_cons, List.sum_cons] at this ⊢; omega
theorem szPs_puts : ∀ (ps l : List (ByteArray × List Int)), szPs (ps.foldl putP l) ≤ szPs l + szPs ps
  | [], l => by simp [szPs]
  | p :: ps, l => by
    have h1 := szPs_puts ps (putP l p)
    have h2 := szPs_put l p
    rw [List.foldl_cons]
    simp only [szPs, List.map_cons, List.sum_cons] at h1 h2 ⊢; omega
theorem hpL_upd (f : PN → PN) (k : PN) (hf : ∀ x, hpN (f x) ≤ hpN x + hpN k) : ∀ l : List PN, hpL (updK f k l) ≤ hpL l + hpN k
  | [] => by simp [updK, hpL]
  | x :: l => by
    rw [updK]
    split
    · have := hf x
      simp only [hpL]; omega
    · have := hpL_upd f k hf l
      simp only [hpL]; omega
mutual
theorem hp_merge : ∀ (b a : PN), hpN (mergeN b a) ≤ hpN a + hpN b
  | .mk n ps ks, a => by
    have h1 := szPs_puts ps a.props
    have h2 := hpL_merge ks a.kids
    have e : hpN a = 16 + a.name.size + szPs a.props + hpL a.kids := by cases a; rw [hpN]; rfl
    rw [mergeN, hpN, hpN]
    omega
theorem hpL_merge : ∀ (ks l : List PN), hpL (mergeL ks l) ≤ hpL l + hpL ks
  | [], l => by rw [mergeL, hpL]; omega
  | k :: r, l => by
    have h1 := hpL_merge r (updK (fun x => mergeN k x) k l)
    have h2 := hpL_upd (fun x => mergeN k x) k (fun x => hp_merge k x) l
    rw [mergeL, hpL]
    omega
end
theorem hpL_len : ∀ l : List PN, 16 * l.length ≤ hpL l
  | [] => by simp [hpL]
  | k :: r => by
    have h1 := hpL_len r
    have e : hpN k = 16 + k.name.size + szPs k.props + hpL k.kids := by cases k; rw [hpN]; rfl
    rw [hpL, List.length_cons]; omega
theorem szPs_len : ∀ l : List (ByteArray × List Int), 16 * l.length ≤ szPs l
  | [] => by simp [szPs]
  | k :: r => by
    have h1 := szPs_len r
    simp only [szPs, List.map_cons, List.sum_cons, szP, List.length_cons] at h1 ⊢; omega
theorem hpL_mem : ∀ {l : List PN} {k : PN}, k ∈ l → hpN k ≤ hpL l
  | x :: l, k, h => by
    rw [hpL]
    rcases List.mem_cons.1 h with rfl | h
    · omega
    · have := hpL_mem h; omega
end Go.Proofs.YtihlpcbebpnmkaaGreatDoor

/-! Rows of one cell an element, of any type: slices that show values, rows of a call's own, append. -/
namespace Go.Proofs.YtihlpcbebpnmkaaGreatDoor
open Go.RowKit
set_option linter.unusedVariables false
set_option linter.unusedSimpArgs false

/-- A slice shows these values, one cell each, in a block below B. -/
def Cel (w : World) (B : Nat) (A : Option Addr) (n : Nat) (xs : List Value) : Prop :=
  xs.length = n ∧ (0 < n → ∃ b o, A = some ⟨b, o, none⟩ ∧ b < B ∧ ∀ i, i < n → w.cell? ⟨b, o + i, none⟩ = xs[i]?)
section
variable {w w' : World} {B B' n : Nat} {A : Option Addr} {xs : List Value}
theorem Cel.at_ (h : Cel w B A n xs) (hn : 0 < n) : ∃ b o, A = some ⟨b, o, none⟩ ∧ b < B ∧ ∀ i, i < n → w.cell? ⟨b, o + i, none⟩ = xs[i]? := h.2 hn
theorem Cel.nil (w : World) (B : Nat) (A : Option Addr) : Cel w B A 0 [] := ⟨rfl, fun h => absurd h (Nat.lt_irrefl 0)⟩
theorem Cel.keep (h : Cel w B A n xs) (hk : ∀ p : Addr, p.block < B → w'.cell? p = w.cell? p) : Cel w' B A n xs :=
  ⟨h.1, fun hn => by
    obtain ⟨b, o, e, hb, hc⟩ := h.2 hn
    exact ⟨b, o, e, hb, fun i hi => (hk _ hb).trans (hc i hi)⟩⟩
theorem Cel.below (h : Cel w B A n xs) (hb : Below B w w') : Cel w' B A n xs := h.keep fun _ hp => hb.cell hp
theorem Cel.more (h : Cel w B A n xs) (hB : B ≤ B') : Cel w B' A n xs :=
  ⟨h.1, fun hn => by
    obtain ⟨b, o, e, hb, hc⟩ := h.2 hn
    exact ⟨b, o, e, by omega, hc⟩⟩
theorem Cel.on (h : Cel w w.heap.size A n xs) (hb : Below w.heap.size w w') : Cel w' w'.heap.size A n xs := (h.below hb).more hb.size
theorem Cel.upto {k : Nat} (h : Cel w B A n xs) (hk : k ≤ n) : Cel w B A k (xs.take k) :=
  ⟨by rw [List.length_take, h.1]; omega, fun h0 => by
    obtain ⟨b, o, e, hb, hc⟩ := h.2 (by omega)
    exact ⟨b, o, e, hb, fun i hi => by rw [List.getElem?_take_of_lt hi]; exact hc i (by omega)⟩⟩
theorem Cel.from_ {l c : Nat} (h : Cel w B A n xs) (hl : l ≤ n) (hc : n ≤ c) : Cel w B (cutAt A c l) (n - l) (xs.drop l) :=
  ⟨by rw [List.length_drop, h.1], fun h0 => by
    obtain ⟨b, o, e, hb, hcc⟩ := h.2 (by omega)
    subst e
    have e : cutAt (some ⟨b, o, none⟩) c l = some ⟨b, o + l, none⟩ := by
      unfold cutAt
      rw [if_neg (by omega)]
      simp [addr_add]
    exact ⟨b, o + l, e, hb, fun i hi => by rw [List.getElem?_drop, Nat.add_assoc]; exact hcc (l + i) (by omega)⟩⟩
theorem Cel.drewN (h : Cel w B A n xs) (k : Nat) : Cel (w.drewN k) B A n xs := h
end

/-- What a call has made shows its values. -/
theorem owned_cel {w : World} {base n : Nat} {e : TypeId} {v : Value} {xs : List Value} (h : w.ownsRow base e 1 v n xs) : ∃ A c, v = .slice A n c ∧ Cel w w.heap.size A n xs ∧ n ≤ c ∧ c ≤ 9223372036854775807 ∧ (∀ b, v.ownBlock = some b → base ≤ b ∧ b < w.heap.size) := by
  obtain ⟨hl, ⟨rfl, rfl⟩ | ⟨g, cap, cur, rfl, hb, hg, hnc, hcm, hsz, htk⟩⟩ := h
  · obtain rfl : xs = [] := by simpa using hl
    exact ⟨none, 0, rfl, Cel.nil _ _ _, Nat.le_refl _, by omega, fun b h => by simp [Value.ownBlock] at h⟩
  · have hlz : xs.length = n := by simpa using hl
    have hlt := (Array.getElem?_eq_some_iff.1 hg).1
    refine ⟨_, cap, rfl, ⟨hlz, fun hn => ⟨g, 0, rfl, hlt, fun i hi => ?_⟩⟩, hnc, hcm, fun b h => ?_⟩
    · have h1 : xs[i]? = cur[i]? := by
        rw [← htk, List.getElem?_take_of_lt (by omega), Array.getElem?_toList]
      rw [Nat.zero_add, h1]
      simp [World.cell?, hg]
    · simp [Value.ownBlock] at h
      omega

/-- A row of the call's own has become another one. -/
def GrewC (e : TypeId) (w w' : World) (B : Nat) (v v' : Value) (xs : List Value) : Prop := w'.ownsRow B e 1 v' xs.length xs ∧ w.grownBy w' v.ownBlock ∧ (v'.ownBlock = v.ownBlock ∨ v'.ownBlock = some w.heap.size)

/-- append onto a row of the call's own of what a slice shows. -/
theorem app_cel {t e : TypeId} {i0 : TypeInfo} {z : Value} {bytes : Nat} (ht : Tryz.prog.underlying t = some (.slice e)) (hi : Tryz.prog.info? e = some i0) (hz : i0.zero = some z) (hs1 : i0.size = 1) (hby : i0.bytes = bytes) (hzs : z.cells.size = 1)
    {w : World} {B B' : Nat} {v : Value} {xs ys : List Value} {A : Option Addr} {m : Nat} (c : Nat) (h : w.ownsRow B e 1 v xs.length xs) (hs : Cel w B' A m ys) (h1 : ∀ u ∈ ys, u.oneCell' = true)
    (hbig : (xs.length + ys.length) * bytes ≤ 140737488355328) (hlen : xs.length + ys.length ≤ 140737488355328) (hB : B ≤ w.heap.size) (ty : TypeId) :
    ∃ v' w', (Builtin.append_ #[t, t] ty #[v, .slice A m c]).run Tryz.prog w = .ok v' w' ∧ GrewC e w w' B v v' (xs ++ ys) := by
  have hm : ys.length = m := hs.1
  rcases Nat.eq_zero_or_pos m with h0 | h0
  · obtain rfl : ys = [] := List.eq_nil_of_length_eq_zero (hm.trans h0)
    subst h0
    rcases A with _ | ad
    · refine ⟨v, w, ?_, by simpa using h, World.grownBy.refl w _, .inl rfl⟩
      rcases h.2 with ⟨rfl, _⟩ | ⟨g, cap, cur, rfl, _, _, hnc, _⟩
      · simp [Builtin.append_, run_underlying ht, sizeOf, typeInfo, hi, Builtin.lenOf, Builtin.firstCells]
      · simp [Builtin.append_, run_underlying ht, sizeOf, typeInfo, hi, Builtin.lenOf, Builtin.firstCells, hnc, storeCells]
    · obtain ⟨v', w', r1, r2, r3, _, r5⟩ := run_append_own_at (P := Tryz.prog) w B t ty e i0 z 1 bytes ht hi hz hs1 hby hzs (by omega) v _ xs h ad 0 c [] rfl (by simp) (by simp) (by unfold maxLen; simp at hlen; omega) (by simpa using hbig) hB
      exact ⟨v', w', r1, by simpa using r2, r3, r5⟩
  · obtain ⟨b, o, rfl, _, hc⟩ := hs.at_ h0
    obtain ⟨v', w', r1, r2, r3, _, r5⟩ := run_append_own_at (P := Tryz.prog) w B t ty e i0 z 1 bytes ht hi hz hs1 hby hzs (by omega) v _ xs h ⟨b, o, none⟩ m c ys (by rw [hm, Nat.mul_one])
      (fun j u hu => by
        have hj : j < m := by
          rw [← hm]
          rcases Nat.lt_or_ge j ys.length with h | h
          · exact h
          · rw [List.getElem?_eq_none h] at hu; cases hu
        rw [addr_add, hc j hj]; exact hu) h1 (by unfold maxLen; omega) (by rw [← hm]; exact hbig) hB
    exact ⟨v', w', r1, by rw [GrewC, List.length_append, hm]; exact ⟨r2, r3, r5⟩⟩
theorem GrewC.below {e : TypeId} {w w' W0 : World} {B : Nat} {v v' : Value} {xs ys : List Value} (h : GrewC e w w' B v v' ys) (hv : w.ownsRow B e 1 v xs.length xs) (h0 : Below B W0 w) (hB : B ≤ w.heap.size) : Below B W0 w' :=
  h0.grown h.2.1 hB (fun q hq => (hv.lt q hq).1)

theorem info_int : (Tryz.prog.info? 3).map (fun i => (i.zero, i.size, i.bytes)) = some (some (.int .i64 0), 1, 8) := by kernel_rfl
theorem info_ints : (Tryz.prog.info? 39).map (fun i => (i.zero, i.size, i.bytes)) = some (some (.slice none 0 0), 1, 24) := by kernel_rfl
theorem info_any {t : TypeId} {z : Value} {s b : Nat} (h : (Tryz.prog.info? t).map (fun i => (i.zero, i.size, i.bytes)) = some (some z, s, b)) : ∃ i0, Tryz.prog.info? t = some i0 ∧ i0.zero = some z ∧ i0.size = s ∧ i0.bytes = b := by
  obtain ⟨i, hi, he⟩ := Option.map_eq_some_iff.1 h
  simp only [Prod.mk.injEq] at he
  exact ⟨i, hi, he.1, he.2.1, he.2.2⟩

/-- The numbers of a place, as cells. -/
abbrev ints (p : List Nat) : List Value := p.map fun k : Nat => Value.int .i64 (k : Int)
theorem ints_one (p : List Nat) : ∀ u ∈ ints p, u.oneCell' = true := by
  intro u hu
  obtain ⟨k, _, rfl⟩ := List.mem_map.1 hu
  rfl
theorem app_ints {w : World} {B B' : Nat} {v : Value} {xs ys : List Nat} {A : Option Addr} {m : Nat} (c : Nat) (h : w.ownsRow B 3 1 v xs.length (ints xs)) (hs : Cel w B' A m (ints ys)) (hbig : xs.length + ys.length ≤ 17592186044416) (hB : B ≤ w.heap.size) (ty : TypeId) :
    ∃ v' w', (Builtin.append_ #[39, 39] ty #[v, .slice A m c]).run Tryz.prog w = .ok v' w' ∧ GrewC 3 w w' B v v' (ints (xs ++ ys)) := by
  obtain ⟨i0, hi, hz, hs1, hb⟩ := info_any info_int
  have h' : w.ownsRow B 3 1 v (ints xs).length (ints xs) := by rw [List.length_map]; exact h
  obtain ⟨v', w', h1, h2⟩ := app_cel Tryz.underlying39 hi hz hs1 hb rfl c h' hs (ints_one ys) (by simp only [List.length_map]; omega) (by simp only [List.length_map]; omega) hB ty
  exact ⟨v', w', h1, by rw [← List.map_append] at h2; exact h2⟩

/-! ### Lists of places -/
/-- The slice v shows the place p, in a block from lo on and below hi that is not the one named. -/
def PlV (w : World) (lo hi : Nat) (own : Option Nat) (v : Value) (p : List Nat) : Prop :=
  ∃ A c, v = .slice A p.length c ∧ Cel w hi A p.length (ints p) ∧ p.length ≤ c ∧ c ≤ 9223372036854775807 ∧ (0 < p.length → ∀ b o, A = some ⟨b, o, none⟩ → lo ≤ b ∧ own ≠ some b)
/-- Pair by pair. -/
inductive Two {α β : Type} (r : α → β → Prop) : List α → List β → Prop
  | nil : Two r [] []
  | cons {a : α} {b : β} {l : List α} {m : List β} (h : r a b) (t : Two r l m) : Two r (a :: l) (b :: m)
section
variable {α β : Type} {r s : α → β → Prop}
theorem Two.len : ∀ {l : List α} {m : List β}, Two r l m → l.length = m.length
  | _, _, .nil => rfl
  | _, _, .cons _ t => by simp [t.len]
theorem Two.mono (h : ∀ a b, r a b → s a b) : ∀ {l : List α} {m : List β}, Two r l m → Two s l m
  | _, _, .nil => .nil
  | _, _, .cons a t => .cons (h _ _ a) (t.mono h)
theorem Two.app : ∀ {l l' : List α} {m m' : List β}, Two r l m → Two r l' m' → Two r (l ++ l') (m ++ m')
  | _, _, _, _, .nil, h => h
  | _, _, _, _, .cons a t, h => .cons a (t.app h)
theorem Two.get : ∀ {l : List α} {m : List β}, Two r l m → ∀ (i : Nat) (h1 : i < l.length) (h2 : i < m.length), r l[i] m[i]
  | _, _, .nil, i, h1, _ => absurd h1 (by simp)
  | _, _, .cons a t, 0, _, _ => a
  | _, _, .cons a t, i + 1, h1, h2 => by simpa using t.get i (by simpa using h1) (by simpa using h2)
end
theorem PlV.keep {w w' : World} {lo hi hi' : Nat} {own own' : Option Nat} {v : Value} {p : List Nat} (h : PlV w lo hi own v p) (hh : hi ≤ hi') (hk : ∀ a : Addr, a.block < hi → own ≠ some a.block → w'.cell? a = w.cell? a) (ho : ∀ b, b < hi → own ≠ some b → own' ≠ some b) : PlV w' lo hi' own' v p := by
  obtain ⟨A, c, e, hc, h1, h2, h3⟩ := h
  refine ⟨A, c, e, ⟨hc.1, fun h0 => ?_⟩, h1, h2, fun h0 b o e => ?_⟩
  · obtain ⟨b, o, e, hb, hcc⟩ := hc.2 h0
    obtain ⟨_, hne⟩ := h3 h0 b o e
    exact ⟨b, o, e, by omega, fun i hi => (hk _ hb hne).trans (hcc i hi)⟩
  · obtain ⟨h4, h5⟩ := h3 h0 b o e
    obtain ⟨b', o', e', hb, _⟩ := hc.2 h0
    rw [e] at e'
    simp only [Option.some.injEq, Addr.mk.injEq] at e'
    exact ⟨h4, ho b (by omega) h5⟩
/-- A row of places that a call has made. -/
structure PlRow (w : World) (lo : Nat) (v : Value) (ps : List (List Nat)) : Prop where
  row : ∃ vs, w.ownsRow lo 39 1 v ps.length vs ∧ Two (PlV w lo w.heap.size v.ownBlock) vs ps
end Go.Proofs.YtihlpcbebpnmkaaGreatDoor

/-! Rows of two cells an element: what a call has made shows them; append of one literal. -/
namespace Go.Proofs.YtihlpcbebpnmkaaGreatDoor
open Go.RowKit
set_option linter.unusedVariables false
set_option linter.unusedSimpArgs false

/-- A slice shows these pairs of values, two cells each, in a block below B. -/
def Cel2 (w : World) (B : Nat) (A : Option Addr) (n : Nat) (xs : List (Value × Value)) : Prop :=
  xs.length = n ∧ (0 < n → ∃ b o, A = some ⟨b, o, none⟩ ∧ b < B ∧ ∀ i (h : i < xs.length), w.cell? ⟨b, o + i * 2, none⟩ = some xs[i].1 ∧ w.cell? ⟨b, o + i * 2 + 1, none⟩ = some xs[i].2)
section
variable {w w' : World} {B B' n : Nat} {A : Option Addr} {xs : List (Value × Value)}
theorem Cel2.nil (w : World) (B : Nat) (A : Option Addr) : Cel2 w B A 0 [] := ⟨rfl, fun h => absurd h (Nat.lt_irrefl 0)⟩
theorem Cel2.keep (h : Cel2 w B A n xs) (hk : ∀ p : Addr, p.block < B → w'.cell? p = w.cell? p) : Cel2 w' B A n xs :=
  ⟨h.1, fun hn => by
    obtain ⟨b, o, e, hb, hc⟩ := h.2 hn
    exact ⟨b, o, e, hb, fun i hi => ⟨(hk _ hb).trans (hc i hi).1, (hk _ hb).trans (hc i hi).2⟩⟩⟩
theorem Cel2.below (h : Cel2 w B A n xs) (hb : Below B w w') : Cel2 w' B A n xs := h.keep fun _ hp => hb.cell hp
theorem Cel2.more (h : Cel2 w B A n xs) (hB : B ≤ B') : Cel2 w B' A n xs :=
  ⟨h.1, fun hn => by
    obtain ⟨b, o, e, hb, hc⟩ := h.2 hn
    exact ⟨b, o, e, by omega, hc⟩⟩
theorem Cel2.on (h : Cel2 w w.heap.size A n xs) (hb : Below w.heap.size w w') : Cel2 w' w'.heap.size A n xs := (h.below hb).more hb.size
end
/-- Pairs, cell by cell. -/
def flat2 (xs : List (Value × Value)) : List Value := xs.flatMap fun x => [x.1, x.2]
theorem flat2_length (xs : List (Value × Value)) : (flat2 xs).length = xs.length * 2 := by
  induction xs with
  | nil => rfl
  | cons x r ih =>
    have e : flat2 (x :: r) = [x.1, x.2] ++ flat2 r := by simp [flat2]
    rw [e, List.length_append, ih]; simp; omega
theorem flat2_app (xs : List (Value × Value)) (x : Value × Value) : flat2 (xs ++ [x]) = flat2 xs ++ [x.1, x.2] := by simp [flat2]
theorem flat2_at : ∀ (xs : List (Value × Value)) (i : Nat) (h : i < xs.length), (flat2 xs)[i * 2]? = some xs[i].1 ∧ (flat2 xs)[i * 2 + 1]? = some xs[i].2
  | x :: r, 0, _ => by simp [flat2]
  | x :: r, i + 1, h => by
    have e : flat2 (x :: r) = x.1 :: x.2 :: flat2 r := by simp [flat2]
    have ih := flat2_at r i (by simpa using h)
    rw [e, show (i + 1) * 2 = i * 2 + 1 + 1 by omega]
    simpa using ih
/-- What a call has made shows its pairs. -/
theorem owned_cel2 {w : World} {base n : Nat} {e : TypeId} {v : Value} {xs : List (Value × Value)} (h : w.ownsRow base e 2 v n (flat2 xs)) : ∃ A c, v = .slice A n c ∧ Cel2 w w.heap.size A n xs ∧ n ≤ c ∧ c ≤ 9223372036854775807 ∧ (∀ b, v.ownBlock = some b → base ≤ b ∧ b < w.heap.size) := by
  obtain ⟨hl, ⟨rfl, rfl⟩ | ⟨g, cap, cur, rfl, hb, hg, hnc, hcm, hsz, htk⟩⟩ := h
  · rw [flat2_length] at hl
    obtain rfl : xs = [] := List.eq_nil_of_length_eq_zero (by omega)
    exact ⟨none, 0, rfl, Cel2.nil _ _ _, Nat.le_refl _, by omega, fun b h => by simp [Value.ownBlock] at h⟩
  · rw [flat2_length] at hl
    have hlz : xs.length = n := by omega
    have hlt := (Array.getElem?_eq_some_iff.1 hg).1
    have hcell : ∀ k, k < n * 2 → w.cell? ⟨g, k, none⟩ = (flat2 xs)[k]? := fun k hk => by
      have h1 : (flat2 xs)[k]? = cur[k]? := by
        rw [← htk, List.getElem?_take_of_lt hk, Array.getElem?_toList]
      rw [h1]
      simp [World.cell?, hg]
    refine ⟨_, cap, rfl, ⟨hlz, fun hn => ⟨g, 0, rfl, hlt, fun i hi => ?_⟩⟩, hnc, hcm, fun b h => ?_⟩
    · obtain ⟨a1, a2⟩ := flat2_at xs i hi
      rw [Nat.zero_add, hcell _ (by omega), hcell _ (by omega)]
      exact ⟨a1, a2⟩
    · simp [Value.ownBlock] at h
      omega
/-- append of one pair, laid by the call itself. -/
theorem app_pair {t e : TypeId} {i0 : TypeInfo} {z : Value} {bytes : Nat} (ht : Tryz.prog.underlying t = some (.slice e)) (hi : Tryz.prog.info? e = some i0) (hz : i0.zero = some z) (hs1 : i0.size = 2) (hby : i0.bytes = bytes) (hzs : z.cells.size = 2)
    {w : World} {B n : Nat} {v : Value} {xs : List (Value × Value)} (h : w.ownsRow B e 2 v n (flat2 xs)) (x : Value × Value) (hx : x.1.oneCell' = true) (hx2 : x.2.oneCell' = true) (hbig : (n + 1) * bytes ≤ 140737488355328) (hlen : n + 1 ≤ 140737488355328) (hB : B ≤ w.heap.size) (ty : TypeId) :
    ∃ A' c' w', (Builtin.append_ #[t, t] ty #[v, .slice (some ⟨w.heap.size, 0, none⟩) 1 1]).run Tryz.prog (w.alloc (.cells #[x.1, x.2] e)) = .ok (.slice A' (n + 1) c') w' ∧ w'.ownsRow B e 2 (.slice A' (n + 1) c') (n + 1) (flat2 (xs ++ [x])) ∧ Below B w w' ∧ w.grownBy w' v.ownBlock ∧ ((Value.slice A' (n + 1) c').ownBlock = v.ownBlock ∨ (Value.slice A' (n + 1) c').ownBlock = some (w.heap.size + 1)) := by
  have h1 : (w.alloc (.cells #[x.1, x.2] e)).ownsRow B e 2 v n (flat2 xs) := h.alloc _
  have hb1 := (Below.refl B w).alloc hB (.cells #[x.1, x.2] e)
  obtain ⟨v', w', r1, r2, r3, _, r5⟩ := run_append_own_at (P := Tryz.prog) (w.alloc (.cells #[x.1, x.2] e)) B t ty e i0 z 2 bytes ht hi hz hs1 hby hzs (by omega) v _ (flat2 xs) h1 ⟨w.heap.size, 0, none⟩ 1 1 [x.1, x.2] rfl
    (fun j u hu => by
      rw [addr_add, Nat.zero_add, World.cell?_alloc_new]
      rcases j with _ | _ | j
      · simpa using hu
      · simpa using hu
      · simp at hu)
    (fun u hu => by
      rcases List.mem_cons.1 hu with rfl | hu
      · exact hx
      · rw [List.mem_singleton.1 hu]; exact hx2) (by unfold maxLen; omega) hbig (by simp; omega)
  have r2' : w'.ownsRow B e 2 v' (n + 1) (flat2 (xs ++ [x])) := by rw [flat2_app]; exact r2
  obtain ⟨A', c', rfl, _⟩ := owned_cel2 r2'
  refine ⟨A', c', w', r1, r2', hb1.grown r3 (by simp; omega) (fun q hq => (h1.lt q hq).1), ?_, by simpa using r5⟩
  have hg0 := World.grownBy_alloc w (.cells #[x.1, x.2] e) v.ownBlock
  exact ⟨r3.os.trans hg0.os, r3.tape.trans hg0.tape, r3.output.trans hg0.output, Nat.le_trans hg0.size r3.size, fun k hk hne => (r3.block k (Nat.lt_of_lt_of_le hk hg0.size) hne).trans (hg0.block k hk hne)⟩
end Go.Proofs.YtihlpcbebpnmkaaGreatDoor

/-! Rows of three cells an element: what a call has made shows them; append of one literal. -/
namespace Go.Proofs.YtihlpcbebpnmkaaGreatDoor
open Go.RowKit
set_option linter.unusedVariables false
set_option linter.unusedSimpArgs false

/-- A slice shows these triples of values, three cells each, in a block below B. -/
def Cel3 (w : World) (B : Nat) (A : Option Addr) (n : Nat) (xs : List (Value × Value × Value)) : Prop :=
  xs.length = n ∧ (0 < n → ∃ b o, A = some ⟨b, o, none⟩ ∧ b < B ∧ ∀ i (h : i < xs.length), w.cell? ⟨b, o + i * 3, none⟩ = some xs[i].1 ∧ w.cell? ⟨b, o + i * 3 + 1, none⟩ = some xs[i].2.1 ∧ w.cell? ⟨b, o + i * 3 + 2, none⟩ = some xs[i].2.2)
section
variable {w w' : World} {B B' n : Nat} {A : Option Addr} {xs : List (Value × Value × Value)}
theorem Cel3.nil (w : World) (B : Nat) (A : Option Addr) : Cel3 w B A 0 [] := ⟨rfl, fun h => absurd h (Nat.lt_irrefl 0)⟩
theorem Cel3.keep (h : Cel3 w B A n xs) (hk : ∀ p : Addr, p.block < B → w'.cell? p = w.cell? p) : Cel3 w' B A n xs :=
  ⟨h.1, fun hn => by
    obtain ⟨b, o, e, hb, hc⟩ := h.2 hn
    exact ⟨b, o, e, hb, fun i hi => ⟨(hk _ hb).trans (hc i hi).1, (hk _ hb).trans (hc i hi).2.1, (hk _ hb).trans (hc i hi).2.2⟩⟩⟩
theorem Cel3.below (h : Cel3 w B A n xs) (hb : Below B w w') : Cel3 w' B A n xs := h.keep fun _ hp => hb.cell hp
theorem Cel3.more (h : Cel3 w B A n xs) (hB : B ≤ B') : Cel3 w B' A n xs :=
  ⟨h.1, fun hn => by
    obtain ⟨b, o, e, hb, hc⟩ := h.2 hn
    exact ⟨b, o, e, by omega, hc⟩⟩
theorem Cel3.on (h : Cel3 w w.heap.size A n xs) (hb : Below w.heap.size w w') : Cel3 w' w'.heap.size A n xs := (h.below hb).more hb.size
end
/-- Triples, cell by cell. -/
def flatT (xs : List (Value × Value × Value)) : List Value := xs.flatMap fun x => [x.1, x.2.1, x.2.2]
theorem flatT_length (xs : List (Value × Value × Value)) : (flatT xs).length = xs.length * 3 := by
  induction xs with
  | nil => rfl
  | cons x r ih =>
    have e : flatT (x :: r) = [x.1, x.2.1, x.2.2] ++ flatT r := by simp [flatT]
    rw [e, List.length_append, ih]; simp; omega
theorem flatT_app (xs : List (Value × Value × Value)) (x : Value × Value × Value) : flatT (xs ++ [x]) = flatT xs ++ [x.1, x.2.1, x.2.2] := by simp [flatT]
theorem flatT_at : ∀ (xs : List (Value × Value × Value)) (i : Nat) (h : i < xs.length), (flatT xs)[i * 3]? = some xs[i].1 ∧ (flatT xs)[i * 3 + 1]? = some xs[i].2.1 ∧ (flatT xs)[i * 3 + 2]? = some xs[i].2.2
  | x :: r, 0, _ => by simp [flatT]
  | x :: r, i + 1, h => by
    have e : flatT (x :: r) = x.1 :: x.2.1 :: x.2.2 :: flatT r := by simp [flatT]
    have ih := flatT_at r i (by simpa using h)
    rw [e, show (i + 1) * 3 = i * 3 + 1 + 1 + 1 by omega]
    simpa using ih
/-- What a call has made shows its triples. -/
theorem owned_cel3 {w : World} {base n : Nat} {e : TypeId} {v : Value} {xs : List (Value × Value × Value)} (h : w.ownsRow base e 3 v n (flatT xs)) : ∃ A c, v = .slice A n c ∧ Cel3 w w.heap.size A n xs ∧ n ≤ c ∧ c ≤ 9223372036854775807 ∧ (∀ b, v.ownBlock = some b → base ≤ b ∧ b < w.heap.size) := by
  obtain ⟨hl, ⟨rfl, rfl⟩ | ⟨g, cap, cur, rfl, hb, hg, hnc, hcm, hsz, htk⟩⟩ := h
  · rw [flatT_length] at hl
    obtain rfl : xs = [] := List.eq_nil_of_length_eq_zero (by omega)
    exact ⟨none, 0, rfl, Cel3.nil _ _ _, Nat.le_refl _, by omega, fun b h => by simp [Value.ownBlock] at h⟩
  · rw [flatT_length] at hl
    have hlz : xs.length = n := by omega
    have hlt := (Array.getElem?_eq_some_iff.1 hg).1
    have hcell : ∀ k, k < n * 3 → w.cell? ⟨g, k, none⟩ = (flatT xs)[k]? := fun k hk => by
      have h1 : (flatT xs)[k]? = cur[k]? := by
        rw [← htk, List.getElem?_take_of_lt hk, Array.getElem?_toList]
      rw [h1]
      simp [World.cell?, hg]
    refine ⟨_, cap, rfl, ⟨hlz, fun hn => ⟨g, 0, rfl, hlt, fun i hi => ?_⟩⟩, hnc, hcm, fun b h => ?_⟩
    · obtain ⟨a1, a2, a3⟩ := flatT_at xs i hi
      rw [Nat.zero_add, hcell _ (by omega), hcell _ (by omega), hcell _ (by omega)]
      exact ⟨a1, a2, a3⟩
    · simp [Value.ownBlock] at h
      omega
/-- A literal of one triple. -/
theorem row_triple (W : World) (B : Nat) (hB : B ≤ W.heap.size) (e : TypeId) (x : Value × Value × Value) : (W.alloc (.cells #[x.1, x.2.1, x.2.2] e)).ownsRow B e 3 (.slice (some ⟨W.heap.size, 0, none⟩) 1 1) 1 (flatT [x]) :=
  ⟨by simp [flatT], .inr ⟨W.heap.size, 1, _, rfl, hB, heap_alloc_new W _, Nat.le_refl _, by unfold maxLen; omega, rfl, by simp [flatT]⟩⟩
/-- append of one triple, laid by the call itself. -/
theorem app_triple {t e : TypeId} {i0 : TypeInfo} {z : Value} {bytes : Nat} (ht : Tryz.prog.underlying t = some (.slice e)) (hi : Tryz.prog.info? e = some i0) (hz : i0.zero = some z) (hs1 : i0.size = 3) (hby : i0.bytes = bytes) (hzs : z.cells.size = 3)
    {w : World} {B n : Nat} {v : Value} {xs : List (Value × Value × Value)} (h : w.ownsRow B e 3 v n (flatT xs)) (x : Value × Value × Value) (hx : x.1.oneCell' = true) (hx2 : x.2.1.oneCell' = true) (hx3 : x.2.2.oneCell' = true) (hbig : (n + 1) * bytes ≤ 140737488355328) (hlen : n + 1 ≤ 140737488355328) (hB : B ≤ w.heap.size) (ty : TypeId) :
    ∃ A' c' w', (Builtin.append_ #[t, t] ty #[v, .slice (some ⟨w.heap.size, 0, none⟩) 1 1]).run Tryz.prog (w.alloc (.cells #[x.1, x.2.1, x.2.2] e)) = .ok (.slice A' (n + 1) c') w' ∧ w'.ownsRow B e 3 (.slice A' (n + 1) c') (n + 1) (flatT (xs ++ [x])) ∧ Below B w w' ∧ w.grownBy w' v.ownBlock ∧ ((Value.slice A' (n + 1) c').ownBlock = v.ownBlock ∨ (Value.slice A' (n + 1) c').ownBlock = some (w.heap.size + 1)) := by
  have h1 : (w.alloc (.cells #[x.1, x.2.1, x.2.2] e)).ownsRow B e 3 v n (flatT xs) := h.alloc _
  have hb1 := (Below.refl B w).alloc hB (.cells #[x.1, x.2.1, x.2.2] e)
  obtain ⟨v', w', r1, r2, r3, _, r5⟩ := run_append_own_at (P := Tryz.prog) (w.alloc (.cells #[x.1, x.2.1, x.2.2] e)) B t ty e i0 z 3 bytes ht hi hz hs1 hby hzs (by omega) v _ (flatT xs) h1 ⟨w.heap.size, 0, none⟩ 1 1 [x.1, x.2.1, x.2.2] rfl
    (fun j u hu => by
      rw [addr_add, Nat.zero_add, World.cell?_alloc_new]
      rcases j with _ | _ | _ | j
      · simpa using hu
      · simpa using hu
      · simpa using hu
      · simp at hu)
    (fun u hu => by
      simp only [List.mem_cons, List.not_mem_nil, or_false] at hu
      rcases hu with rfl | rfl | rfl
      · exact hx
      · exact hx2
      · exact hx3) (by unfold maxLen; omega) hbig (by simp; omega)
  have r2' : w'.ownsRow B e 3 v' (n + 1) (flatT (xs ++ [x])) := by rw [flatT_app]; exact r2
  obtain ⟨A', c', rfl, _⟩ := owned_cel3 r2'
  refine ⟨A', c', w', r1, r2', hb1.grown r3 (by simp; omega) (fun q hq => (h1.lt q hq).1), ?_, by simpa using r5⟩
  have hg0 := World.grownBy_alloc w (.cells #[x.1, x.2.1, x.2.2] e) v.ownBlock
  exact ⟨r3.os.trans hg0.os, r3.tape.trans hg0.tape, r3.output.trans hg0.output, Nat.le_trans hg0.size r3.size, fun k hk hne => (r3.block k (Nat.lt_of_lt_of_le hk hg0.size) hne).trans (hg0.block k hk hne)⟩
end Go.Proofs.YtihlpcbebpnmkaaGreatDoor

/-! Layer 10: a node that is being made, as it lies: a block of its own, two rows of its own, and what they lead to. -/
namespace Go.Proofs.YtihlpcbebpnmkaaGreatDoor
open Go.RowKit
set_option linter.unusedVariables false
set_option linter.unusedSimpArgs false

theorem info_prop : (Tryz.prog.info? 61).map (fun i => (i.zero, i.size, i.bytes)) = some (some (.agg #[.string ⟨#[]⟩, .slice none 0 0]), 2, 40) := by kernel_rfl
theorem info_node : (Tryz.prog.info? 27).map (fun i => (i.zero, i.size, i.bytes)) = some (some (.agg #[.string ⟨#[]⟩, .slice none 0 0, .slice none 0 0]), 3, 64) := by kernel_rfl

section
variable {w w' : World} {D D' : Nat → Prop}
/-- What lies below a block is in blocks below it. -/
theorem PV.At.lows {B : Nat} {p : PV} (hin : p.In w B) (h : p.At D) : p.At (fun g => D g ∧ g < B) := fun h0 b o e => ⟨h h0 b o e, by
  obtain ⟨b', o', e', hb, _⟩ := hin.2.1.2.2 h0
  rw [e] at e'
  simp only [Option.some.injEq, Addr.mk.injEq] at e'
  omega⟩
theorem Nd.At.lows {B : Nat} {n : Nd} : n.In w B → n.At D → n.At (fun g => D g ∧ g < B) :=
  Nd.ind (p := fun n => n.In w B → n.At D → n.At (fun g => D g ∧ g < B)) (fun n ih hin h => by
    obtain ⟨h1, h2, h3, h4⟩ := h.parts
    refine .mk n (fun h0 b o e => ⟨h1 h0 b o e, ?_⟩) (fun p hp => PV.At.lows (hin.prop hp) (h2 p hp)) (fun h0 b o e => ⟨h3 h0 b o e, ?_⟩) (fun k hk => ih k hk (hin.kid hk) (h4 k hk))
    · obtain ⟨b', o', e', hb, _⟩ := hin.prow h0
      rw [e] at e'
      simp only [Option.some.injEq, Addr.mk.injEq] at e'
      omega
    · obtain ⟨b', o', e', hb, _⟩ := hin.krow h0
      rw [e] at e'
      simp only [Option.some.injEq, Addr.mk.injEq] at e'
      omega) n
theorem Nd.At.all (n : Nd) : n.At (fun _ => True) :=
  Nd.ind (p := fun n => n.At (fun _ => True)) (fun n ih => .mk n (fun _ _ _ _ => trivial) (fun _ _ _ _ _ _ => trivial) (fun _ _ _ _ => trivial) (fun k hk => ih k hk)) n
/-- What is touched in one block alone, where nothing of it lies. -/
theorem PV.In.grown {row : Option Nat} {p : PV} (hg : w.grownBy w' row) (hr : ∀ g, row = some g → ¬ D g) (hin : p.In w w.heap.size) (h : p.At D) : p.In w' w'.heap.size :=
  (hin.at_ (D := fun g => D g ∧ g < w.heap.size) (PV.At.lows hin h) (fun a ha => World.cell?_of_block (hg.block a.block ha.2 (fun e => hr _ e.symm ha.1)))).more hg.size
theorem Nd.In.grown {row : Option Nat} {n : Nd} (hg : w.grownBy w' row) (hr : ∀ g, row = some g → ¬ D g) (hin : n.In w w.heap.size) (h : n.At D) : n.In w' w'.heap.size :=
  (Nd.In.at_ (D := fun g => D g ∧ g < w.heap.size) (fun a ha => World.cell?_of_block (hg.block a.block ha.2 (fun e => hr _ e.symm ha.1))) hin (Nd.At.lows hin h)).more hg.size
end

/-- Blocks that are not the node's own. -/
def FreeM (D : Nat → Prop) (B go : Nat) (pv kv : Value) (g : Nat) : Prop := g ≠ go ∧ pv.ownBlock ≠ some g ∧ kv.ownBlock ≠ some g ∧ (D g ∨ B ≤ g)
theorem pC_len (p : PV) : (pC p).length = 2 := rfl
theorem kC_len (k : Nd) : (kC k).length = 3 := rfl

/-- The node that is being made: its block go, its rows, what they lead to. -/
structure MS (W0 w : World) (B go : Nat) (D : Nat → Prop) (nm : ByteArray) (pv kv : Value) (P : List PV) (K : List Nd) : Prop where
  below : Below B W0 w
  lo : B ≤ go
  box : w.heap[go]? = some (.cells #[.string nm, pv, kv] 27 (0, 0))
  prow : w.ownsRow B 61 2 pv P.length (P.flatMap pC)
  krow : w.ownsRow B 27 3 kv K.length (K.flatMap kC)
  pform : ∃ g c, pv = .slice (some ⟨g, 0, none⟩) P.length c
  kform : ∃ g c, kv = .slice (some ⟨g, 0, none⟩) K.length c
  pgo : pv.ownBlock ≠ some go
  kgo : kv.ownBlock ≠ some go
  pk : ∀ g, pv.ownBlock = some g → kv.ownBlock ≠ some g
  props : ∀ p ∈ P, p.In w w.heap.size ∧ p.At (FreeM D B go pv kv)
  kids : ∀ k ∈ K, k.In w w.heap.size ∧ k.At (FreeM D B go pv kv)

section
variable {W0 w w' : World} {B go : Nat} {D : Nat → Prop} {nm : ByteArray} {pv kv : Value} {P : List PV} {K : List Nd}
theorem MS.golt (h : MS W0 w B go D nm pv kv P K) : go < w.heap.size := (Array.getElem?_eq_some_iff.1 h.box).1
theorem MS.size (h : MS W0 w B go D nm pv kv P K) : B ≤ w.heap.size := Nat.le_trans h.lo (Nat.le_of_lt h.golt)
theorem MS.on (h : MS W0 w B go D nm pv kv P K) (hb : Below w.heap.size w w') : MS W0 w' B go D nm pv kv P K :=
  ⟨h.below.trans (hb.mono h.size), h.lo, (hb.block go h.golt).trans h.box, own_on h.prow hb, own_on h.krow hb, h.pform, h.kform, h.pgo, h.kgo, h.pk,
    fun p hp => ⟨((h.props p hp).1.keep (fun _ hq => hb.cell hq)).more hb.size, (h.props p hp).2⟩, fun k hk => ⟨(h.kids k hk).1.on hb, (h.kids k hk).2⟩⟩
theorem MS.cells (h : MS W0 w B go D nm pv kv P K) : w.cell? ⟨go, 0, none⟩ = some (.string nm) ∧ w.cell? ⟨go, 1, none⟩ = some pv ∧ w.cell? ⟨go, 2, none⟩ = some kv := by
  refine ⟨?_, ?_, ?_⟩ <;> rw [cell_of_row w go _ _ _ (0, 0) h.box] <;> rfl
theorem MS.free (h : MS W0 w B go D nm pv kv P K) (i : Nat) : w.frozen? ⟨go, i, none⟩ = false := frozen_of_row w go i _ _ h.box
/-- The node as it is. -/
def ndM (nm : ByteArray) (pv kv : Value) (P : List PV) (K : List Nd) : Nd :=
  match pv, kv with
  | .slice pa _ pc, .slice ka _ kc => .mk nm pa pc P ka kc K
  | _, _ => .mk nm none 0 P none 0 K
theorem MS.val (h : MS W0 w B go D nm pv kv P K) : (ndM nm pv kv P K).val = .agg #[.string nm, pv, kv] := by
  obtain ⟨g, c, rfl⟩ := h.pform
  obtain ⟨g', c', rfl⟩ := h.kform
  rfl
theorem MS.pure (h : MS W0 w B go D nm pv kv P K) : pureN (ndM nm pv kv P K) = .mk nm (P.map PV.pure) (K.map pureN) := by
  obtain ⟨g, c, rfl⟩ := h.pform
  obtain ⟨g', c', rfl⟩ := h.kform
  rw [pureN_mk]; rfl
theorem MS.node (h : MS W0 w B go D nm pv kv P K) (hn : nm.size ≤ 140737488351232) (hp : P.length * 40 ≤ 140737488351232) (hk : K.length * 64 ≤ 140737488351232) : (ndM nm pv kv P K).In w w.heap.size := by
  obtain ⟨g, c, rfl⟩ := h.pform
  obtain ⟨g', c', rfl⟩ := h.kform
  have hp1 := h.prow
  have hk1 := h.krow
  rcases hp1.2 with ⟨e, _⟩ | ⟨_, cp, cur, e, _, hg, hnc, hcm, _, _⟩
  · cases e
  rcases hk1.2 with ⟨e', _⟩ | ⟨_, ck, cur', e', _, hg', hnc', hcm', _, _⟩
  · cases e'
  simp only [Value.slice.injEq, Option.some.injEq, Addr.mk.injEq, and_true, true_and] at e e'
  obtain ⟨rfl, rfl⟩ := e
  obtain ⟨rfl, rfl⟩ := e'
  refine .mk _ ⟨hn, hp, hk⟩ hnc hcm hnc' hcm' (fun h0 => ⟨g, 0, rfl, (Array.getElem?_eq_some_iff.1 hg).1, fun i hi => ?_⟩) (fun p hp => (h.props p hp).1) (fun h0 => ⟨g', 0, rfl, (Array.getElem?_eq_some_iff.1 hg').1, fun i hi => ?_⟩) (fun k hk => (h.kids k hk).1)
  · have hi' : i < P.length := hi
    have e0 := flat_at pC_len P i 0 hi' (by omega)
    have e1 := flat_at pC_len P i 1 hi' (by omega)
    have c0 := hp1.cells (g := g) rfl (i * 2) (.string P[i].name) e0
    have c1 := hp1.cells (g := g) rfl (i * 2 + 1) P[i].val e1
    rw [addr_add, Nat.zero_add] at c0 c1
    rw [Nat.zero_add]
    exact ⟨c0, c1⟩
  · have hi' : i < K.length := hi
    have e0 := flat_at kC_len K i 0 hi' (by omega)
    have e1 := flat_at kC_len K i 1 hi' (by omega)
    have e2 := flat_at kC_len K i 2 hi' (by omega)
    have c0 := hk1.cells (g := g') rfl (i * 3) (.string K[i].name) e0
    have c1 := hk1.cells (g := g') rfl (i * 3 + 1) K[i].pv e1
    have c2 := hk1.cells (g := g') rfl (i * 3 + 2) K[i].kv e2
    rw [addr_add, Nat.zero_add] at c0 c1 c2
    rw [Nat.zero_add]
    exact ⟨c0, c1, c2⟩
end
end Go.Proofs.YtihlpcbebpnmkaaGreatDoor

/-! Layer 10: a node that is being made: a property, or a node right below it, takes another one's place, or comes behind (written by mkmops.py). -/
namespace Go.Proofs.YtihlpcbebpnmkaaGreatDoor
open Go.RowKit
set_option linter.unusedVariables false
set_option linter.unusedSimpArgs false

theorem _root_.Go.World.grownBy.thenG {w w1 w2 : World} {r : Option Nat} (h : w.grownBy w1 r) (k : w1.grownBy w2 r) : w.grownBy w2 r :=
  ⟨k.os.trans h.os, k.tape.trans h.tape, k.output.trans h.output, Nat.le_trans h.size k.size, fun b hb hne => (k.block b (Nat.lt_of_lt_of_le hb h.size) hne).trans (h.block b hb hne)⟩
section
variable {W0 w w' : World} {B go : Nat} {D : Nat → Prop} {nm : ByteArray} {pv kv : Value} {P : List PV} {K : List Nd}

/-! ### Prop -/
theorem flat_set2 : ∀ (P : List PV) (k : Nat) (hk : k < P.length) (p : PV), ((P.flatMap pC).set (k * 2) (.string p.name)).set (k * 2 + 1) p.val = (P.set k p).flatMap pC
  | x :: r, 0, _, p => by simp [pC]
  | x :: r, k + 1, hk, p => by
    have ih := flat_set2 r k (by simpa using hk) p
    rw [List.set_cons_succ, List.flatMap_cons, List.flatMap_cons, ← ih]
    have e : (k + 1) * 2 = k * 2 + 2 := by omega
    rw [e]
    rfl
theorem flat_pr2 (P : List PV) : flat2 (P.map (fun p : PV => (Value.string p.name, p.val))) = P.flatMap pC := by
  unfold flat2
  rw [List.flatMap_map]
  rfl
theorem MS.atProp (h : MS W0 w B go D nm pv kv P K) {k : Nat} (hk : k < P.length) (p : PV) (hp : p.In w w.heap.size) (ha : p.At (FreeM D B go pv kv)) :
    ∃ g c, pv = .slice (some ⟨g, 0, none⟩) P.length c ∧ (∀ j, w.frozen? ⟨g, j, none⟩ = false) ∧ (w.cell? ⟨g, k * 2, none⟩ = some (.string P[k].name) ∧ w.cell? ⟨g, k * 2 + 1, none⟩ = some P[k].val) ∧ c ≤ 9223372036854775807 ∧ P.length ≤ c ∧
      MS W0 ((w.setCell ⟨g, k * 2, none⟩ (.string p.name)).setCell ⟨g, k * 2 + 1, none⟩ p.val) B go D nm pv kv (P.set k p) K := by
  obtain ⟨g, c, e⟩ := h.pform
  have hr := h.prow
  rw [e] at hr
  have hob : pv.ownBlock = some g := by rw [e]; rfl
  have hlt := h.prow.lt g hob
  obtain ⟨o1, g1⟩ := hr.stored (k * 2) (.string p.name)
  obtain ⟨o2, g2⟩ := o1.stored (k * 2 + 1) p.val
  rw [flat_set2 P k hk p] at o2
  have hg : w.grownBy ((w.setCell ⟨g, k * 2, none⟩ (.string p.name)).setCell ⟨g, k * 2 + 1, none⟩ p.val) (some g) := (g1.thenG g2)
  clear g1 g2
  have cells := hr.cells (g := g) rfl
  have c0 := cells (k * 2) (.string P[k].name) (flat_at pC_len P k 0 hk (by omega))
  rw [addr_add, Nat.zero_add] at c0
  have c1 := cells (k * 2 + 1) P[k].val (flat_at pC_len P k 1 hk (by omega))
  rw [addr_add, Nat.zero_add] at c1
  have hcc : P.length ≤ c ∧ c ≤ 9223372036854775807 := by
    rcases hr.2 with ⟨e', _⟩ | ⟨_, cp, cur, e', _, _, h1, h2, _⟩
    · cases e'
    · simp only [Value.slice.injEq, true_and] at e'
      obtain ⟨_, rfl⟩ := e'
      exact ⟨h1, h2⟩
  have nf : ∀ q, some g = some q → ¬ FreeM D B go pv kv q := fun q hq hf => by
    injection hq with hq
    subst hq
    exact hf.2.1 hob
  refine ⟨g, c, e, fun j => hr.frozenAt j, ⟨c0, c1⟩, hcc.2, hcc.1, h.below.grown hg h.size (fun q hq => by injection hq with hq; subst hq; exact hlt.1), h.lo, (hg.block go h.golt (fun e' => h.pgo (by rw [hob, e']))).trans h.box, (by rw [List.length_set, e]; exact o2), h.krow.kept hg (.inr (h.pk g hob)), (by rw [List.length_set]; exact h.pform), h.kform, h.pgo, h.kgo, h.pk, fun q hq => ?_, fun q hq => ?_⟩
  · rcases List.mem_or_eq_of_mem_set hq with hq | rfl
    · exact ⟨PV.In.grown hg nf (h.props q hq).1 (h.props q hq).2, (h.props q hq).2⟩
    · exact ⟨PV.In.grown hg nf hp ha, ha⟩
  · exact ⟨Nd.In.grown hg nf (h.kids q hq).1 (h.kids q hq).2, (h.kids q hq).2⟩
theorem MS.appProp (h : MS W0 w B go D nm pv kv P K) (p : PV) (hp : p.In w w.heap.size) (ha : p.At (FreeM D B go pv kv)) (hbig : P.length ≤ 1099511627776) (ty : TypeId) :
    ∃ g' c' w2, (Builtin.append_ #[24, 24] ty #[pv, .slice (some ⟨w.heap.size, 0, none⟩) 1 1]).run Tryz.prog (w.alloc (.cells #[.string p.name, p.val] 61)) = .ok (.slice (some ⟨g', 0, none⟩) (P.length + 1) c') w2 ∧
      w2.cell? ⟨go, 1, none⟩ = some pv ∧ w2.frozen? ⟨go, 1, none⟩ = false ∧ Below B w w2 ∧ MS W0 (w2.setCell ⟨go, 1, none⟩ (.slice (some ⟨g', 0, none⟩) (P.length + 1) c')) B go D nm (.slice (some ⟨g', 0, none⟩) (P.length + 1) c') kv (P ++ [p]) K := by
  obtain ⟨i0, hi0, hz0, hz1, hz2⟩ := info_any info_prop
  have hr : w.ownsRow B 61 2 pv P.length (flat2 (P.map (fun p : PV => (Value.string p.name, p.val)))) := by rw [flat_pr2]; exact h.prow
  obtain ⟨A', c', w2, run, o2, b2, g2, e2⟩ := app_pair Tryz.underlying24 hi0 hz0 hz1 hz2 rfl hr (.string p.name, p.val) rfl rfl (by omega) (by omega) h.size ty
  obtain ⟨g', cp, ef⟩ := Joins.ownsRow_form o2 (Nat.succ_pos _)
  simp only [Value.slice.injEq, true_and] at ef
  obtain ⟨rfl, rfl⟩ := ef
  rw [show (P.map (fun p : PV => (Value.string p.name, p.val)) ++ [(.string p.name, p.val)]) = (P ++ [p]).map (fun p : PV => (Value.string p.name, p.val)) by rw [List.map_append]; rfl, flat_pr2] at o2
  have hgo := h.golt
  have e3 : some g' = pv.ownBlock ∨ g' = w.heap.size + 1 := by
    rcases e2 with e | e
    · exact .inl e
    · exact .inr (by simpa [Value.ownBlock] using e)
  have lt : ∀ q, pv.ownBlock = some q → q < w.heap.size := fun q hq => (h.prow.lt q hq).2
  have lk : ∀ q, kv.ownBlock = some q → q < w.heap.size := fun q hq => (h.krow.lt q hq).2
  have n1 : some g' ≠ some go := fun e => by
    rcases e3 with e' | e'
    · exact h.pgo (e'.symm.trans e)
    · injection e with e; omega
  have box2 := (g2.block go hgo (fun e => h.pgo e.symm)).trans h.box
  have box3 := heap_setCell_same w2 go 1 _ _ (.slice (some ⟨g', 0, none⟩) (P.length + 1) c') box2
  have hgo2 : go < w2.heap.size := Nat.lt_of_lt_of_le hgo g2.size
  have g3 : w2.grownBy (w2.setCell ⟨go, 1, none⟩ (.slice (some ⟨g', 0, none⟩) (P.length + 1) c')) (some go) := ⟨rfl, rfl, rfl, by simp, fun k _ hk => heap_setCell_other w2 ⟨go, 1, none⟩ k _ (fun e => hk (by simp [e]))⟩
  have nf2 : ∀ q, pv.ownBlock = some q → ¬ FreeM D B go pv kv q := fun q hq hf => hf.2.1 hq
  have nf3 : ∀ q, some go = some q → ¬ FreeM D B go pv kv q := fun q hq hf => by injection hq with hq; exact hf.1 hq.symm
  have fr : ∀ q, FreeM D B go pv kv q ∧ q < w.heap.size → FreeM D B go (.slice (some ⟨g', 0, none⟩) (P.length + 1) c') kv q := fun q ⟨hf, hq⟩ => ⟨hf.1, fun e => (by
    rcases e3 with e' | e'
    · exact hf.2.1 (e'.symm.trans e)
    · have : g' = q := by simpa [Value.ownBlock] using e
      omega), hf.2.2⟩
  refine ⟨g', c', w2, run, (by rw [cell_of_row w2 go _ _ _ (0, 0) box2]; rfl), frozen_of_row w2 go _ _ _ box2, b2, ((h.below.trans b2).setCell (p := ⟨go, 1, none⟩) h.lo _), h.lo, box3, (by rw [List.length_append]; exact o2.kept g3 (.inr (fun e => n1 (by simpa [Value.ownBlock] using e)))), (h.krow.kept g2 (by cases hv : kv.ownBlock with
    | none => exact .inl rfl
    | some q => exact .inr (fun e => h.pk q e.symm hv))).kept g3 (.inr h.kgo), ⟨g', c', by rw [List.length_append]; rfl⟩, h.kform, (fun e => n1 (by simpa [Value.ownBlock] using e)), h.kgo, (fun q hq hk => by
    have hq' : g' = q := by simpa [Value.ownBlock] using hq
    subst hq'
    rcases e3 with e' | e'
    · exact h.pk _ e'.symm hk
    · have := lk _ hk; omega), fun q hq => ?_, fun q hq => ?_⟩
  · have hq2 : q.In w w.heap.size ∧ q.At (FreeM D B go pv kv) := by
      rcases List.mem_append.1 hq with hq | hq
      · exact h.props q hq
      · rw [List.mem_singleton.1 hq]; exact ⟨hp, ha⟩
    exact ⟨PV.In.grown g3 nf3 (PV.In.grown g2 nf2 hq2.1 hq2.2) hq2.2, PV.At.mono (PV.At.lows hq2.1 hq2.2) fr⟩
  · exact ⟨Nd.In.grown g3 nf3 (Nd.In.grown g2 nf2 (h.kids q hq).1 (h.kids q hq).2) (h.kids q hq).2, Nd.At.mono fr (Nd.At.lows (h.kids q hq).1 (h.kids q hq).2)⟩

/-! ### Kid -/
theorem flat_set3 : ∀ (K : List Nd) (k : Nat) (hk : k < K.length) (p : Nd), (((K.flatMap kC).set (k * 3) (.string p.name)).set (k * 3 + 1) p.pv).set (k * 3 + 2) p.kv = (K.set k p).flatMap kC
  | x :: r, 0, _, p => by simp [kC]
  | x :: r, k + 1, hk, p => by
    have ih := flat_set3 r k (by simpa using hk) p
    rw [List.set_cons_succ, List.flatMap_cons, List.flatMap_cons, ← ih]
    have e : (k + 1) * 3 = k * 3 + 3 := by omega
    rw [e]
    rfl
theorem flat_pr3 (K : List Nd) : flatT (K.map (fun k : Nd => (Value.string k.name, k.pv, k.kv))) = K.flatMap kC := by
  unfold flatT
  rw [List.flatMap_map]
  rfl
theorem MS.atKid (h : MS W0 w B go D nm pv kv P K) {k : Nat} (hk : k < K.length) (p : Nd) (hp : p.In w w.heap.size) (ha : p.At (FreeM D B go pv kv)) :
    ∃ g c, kv = .slice (some ⟨g, 0, none⟩) K.length c ∧ (∀ j, w.frozen? ⟨g, j, none⟩ = false) ∧ (w.cell? ⟨g, k * 3, none⟩ = some (.string K[k].name) ∧ w.cell? ⟨g, k * 3 + 1, none⟩ = some K[k].pv ∧ w.cell? ⟨g, k * 3 + 2, none⟩ = some K[k].kv) ∧ c ≤ 9223372036854775807 ∧ K.length ≤ c ∧
      MS W0 (((w.setCell ⟨g, k * 3, none⟩ (.string p.name)).setCell ⟨g, k * 3 + 1, none⟩ p.pv).setCell ⟨g, k * 3 + 2, none⟩ p.kv) B go D nm pv kv P (K.set k p) := by
  obtain ⟨g, c, e⟩ := h.kform
  have hr := h.krow
  rw [e] at hr
  have hob : kv.ownBlock = some g := by rw [e]; rfl
  have hlt := h.krow.lt g hob
  obtain ⟨o1, g1⟩ := hr.stored (k * 3) (.string p.name)
  obtain ⟨o2, g2⟩ := o1.stored (k * 3 + 1) p.pv
  obtain ⟨o3, g3⟩ := o2.stored (k * 3 + 2) p.kv
  rw [flat_set3 K k hk p] at o3
  have hg : w.grownBy (((w.setCell ⟨g, k * 3, none⟩ (.string p.name)).setCell ⟨g, k * 3 + 1, none⟩ p.pv).setCell ⟨g, k * 3 + 2, none⟩ p.kv) (some g) := ((g1.thenG g2).thenG g3)
  clear g1 g2 g3
  have cells := hr.cells (g := g) rfl
  have c0 := cells (k * 3) (.string K[k].name) (flat_at kC_len K k 0 hk (by omega))
  rw [addr_add, Nat.zero_add] at c0
  have c1 := cells (k * 3 + 1) K[k].pv (flat_at kC_len K k 1 hk (by omega))
  rw [addr_add, Nat.zero_add] at c1
  have c2 := cells (k * 3 + 2) K[k].kv (flat_at kC_len K k 2 hk (by omega))
  rw [addr_add, Nat.zero_add] at c2
  have hcc : K.length ≤ c ∧ c ≤ 9223372036854775807 := by
    rcases hr.2 with ⟨e', _⟩ | ⟨_, cp, cur, e', _, _, h1, h2, _⟩
    · cases e'
    · simp only [Value.slice.injEq, true_and] at e'
      obtain ⟨_, rfl⟩ := e'
      exact ⟨h1, h2⟩
  have nf : ∀ q, some g = some q → ¬ FreeM D B go pv kv q := fun q hq hf => by
    injection hq with hq
    subst hq
    exact hf.2.2.1 hob
  refine ⟨g, c, e, fun j => hr.frozenAt j, ⟨c0, c1, c2⟩, hcc.2, hcc.1, h.below.grown hg h.size (fun q hq => by injection hq with hq; subst hq; exact hlt.1), h.lo, (hg.block go h.golt (fun e' => h.kgo (by rw [hob, e']))).trans h.box, h.prow.kept hg (.inr (fun e' => h.pk g e' hob)), (by rw [List.length_set, e]; exact o3), h.pform, (by rw [List.length_set]; exact h.kform), h.pgo, h.kgo, h.pk, fun q hq => ?_, fun q hq => ?_⟩
  · exact ⟨PV.In.grown hg nf (h.props q hq).1 (h.props q hq).2, (h.props q hq).2⟩
  · rcases List.mem_or_eq_of_mem_set hq with hq | rfl
    · exact ⟨Nd.In.grown hg nf (h.kids q hq).1 (h.kids q hq).2, (h.kids q hq).2⟩
    · exact ⟨Nd.In.grown hg nf hp ha, ha⟩
theorem MS.appKid (h : MS W0 w B go D nm pv kv P K) (p : Nd) (hp : p.In w w.heap.size) (ha : p.At (FreeM D B go pv kv)) (hbig : K.length ≤ 1099511627776) (ty : TypeId) :
    ∃ g' c' w2, (Builtin.append_ #[25, 25] ty #[kv, .slice (some ⟨w.heap.size, 0, none⟩) 1 1]).run Tryz.prog (w.alloc (.cells #[.string p.name, p.pv, p.kv] 27)) = .ok (.slice (some ⟨g', 0, none⟩) (K.length + 1) c') w2 ∧
      w2.cell? ⟨go, 2, none⟩ = some kv ∧ w2.frozen? ⟨go, 2, none⟩ = false ∧ Below B w w2 ∧ MS W0 (w2.setCell ⟨go, 2, none⟩ (.slice (some ⟨g', 0, none⟩) (K.length + 1) c')) B go D nm pv (.slice (some ⟨g', 0, none⟩) (K.length + 1) c') P (K ++ [p]) := by
  obtain ⟨i0, hi0, hz0, hz1, hz2⟩ := info_any info_node
  have hr : w.ownsRow B 27 3 kv K.length (flatT (K.map (fun k : Nd => (Value.string k.name, k.pv, k.kv)))) := by rw [flat_pr3]; exact h.krow
  obtain ⟨A', c', w2, run, o2, b2, g2, e2⟩ := app_triple Tryz.underlying25 hi0 hz0 hz1 hz2 rfl hr (.string p.name, p.pv, p.kv) rfl rfl rfl (by omega) (by omega) h.size ty
  obtain ⟨g', cp, ef⟩ := Joins.ownsRow_form o2 (Nat.succ_pos _)
  simp only [Value.slice.injEq, true_and] at ef
  obtain ⟨rfl, rfl⟩ := ef
  rw [show (K.map (fun k : Nd => (Value.string k.name, k.pv, k.kv)) ++ [(.string p.name, p.pv, p.kv)]) = (K ++ [p]).map (fun k : Nd => (Value.string k.name, k.pv, k.kv)) by rw [List.map_append]; rfl, flat_pr3] at o2
  have hgo := h.golt
  have e3 : some g' = kv.ownBlock ∨ g' = w.heap.size + 1 := by
    rcases e2 with e | e
    · exact .inl e
    · exact .inr (by simpa [Value.ownBlock] using e)
  have lt : ∀ q, pv.ownBlock = some q → q < w.heap.size := fun q hq => (h.prow.lt q hq).2
  have lk : ∀ q, kv.ownBlock = some q → q < w.heap.size := fun q hq => (h.krow.lt q hq).2
  have n1 : some g' ≠ some go := fun e => by
    rcases e3 with e' | e'
    · exact h.kgo (e'.symm.trans e)
    · injection e with e; omega
  have box2 := (g2.block go hgo (fun e => h.kgo e.symm)).trans h.box
  have box3 := heap_setCell_same w2 go 2 _ _ (.slice (some ⟨g', 0, none⟩) (K.length + 1) c') box2
  have hgo2 : go < w2.heap.size := Nat.lt_of_lt_of_le hgo g2.size
  have g3 : w2.grownBy (w2.setCell ⟨go, 2, none⟩ (.slice (some ⟨g', 0, none⟩) (K.length + 1) c')) (some go) := ⟨rfl, rfl, rfl, by simp, fun k _ hk => heap_setCell_other w2 ⟨go, 2, none⟩ k _ (fun e => hk (by simp [e]))⟩
  have nf2 : ∀ q, kv.ownBlock = some q → ¬ FreeM D B go pv kv q := fun q hq hf => hf.2.2.1 hq
  have nf3 : ∀ q, some go = some q → ¬ FreeM D B go pv kv q := fun q hq hf => by injection hq with hq; exact hf.1 hq.symm
  have fr : ∀ q, FreeM D B go pv kv q ∧ q < w.heap.size → FreeM D B go pv (.slice (some ⟨g', 0, none⟩) (K.length + 1) c') q := fun q ⟨hf, hq⟩ => ⟨hf.1, hf.2.1, fun e => (by
    rcases e3 with e' | e'
    · exact hf.2.2.1 (e'.symm.trans e)
    · have : g' = q := by simpa [Value.ownBlock] using e
      omega), hf.2.2.2⟩
  refine ⟨g', c', w2, run, (by rw [cell_of_row w2 go _ _ _ (0, 0) box2]; rfl), frozen_of_row w2 go _ _ _ box2, b2, ((h.below.trans b2).setCell (p := ⟨go, 2, none⟩) h.lo _), h.lo, box3, (h.prow.kept g2 (by cases hv : pv.ownBlock with
    | none => exact .inl rfl
    | some q => exact .inr (fun e => h.pk q hv e.symm))).kept g3 (.inr h.pgo), (by rw [List.length_append]; exact o2.kept g3 (.inr (fun e => n1 (by simpa [Value.ownBlock] using e)))), h.pform, ⟨g', c', by rw [List.length_append]; rfl⟩, h.pgo, (fun e => n1 (by simpa [Value.ownBlock] using e)), (fun q hq hk => by
    have hq' : g' = q := by simpa [Value.ownBlock] using hk
    subst hq'
    rcases e3 with e' | e'
    · exact h.pk _ hq e'.symm
    · have := lt _ hq; omega), fun q hq => ?_, fun q hq => ?_⟩
  · exact ⟨PV.In.grown g3 nf3 (PV.In.grown g2 nf2 (h.props q hq).1 (h.props q hq).2) (h.props q hq).2, PV.At.mono (PV.At.lows (h.props q hq).1 (h.props q hq).2) fr⟩
  · have hq2 : q.In w w.heap.size ∧ q.At (FreeM D B go pv kv) := by
      rcases List.mem_append.1 hq with hq | hq
      · exact h.kids q hq
      · rw [List.mem_singleton.1 hq]; exact ⟨hp, ha⟩
    exact ⟨Nd.In.grown g3 nf3 (Nd.In.grown g2 nf2 hq2.1 hq2.2) hq2.2, Nd.At.mono fr (Nd.At.lows hq2.1 hq2.2)⟩
end
end Go.Proofs.YtihlpcbebpnmkaaGreatDoor

/-! A node whose memory is the call's own, to be written: its rows, what they lead to, and what may be done with it. -/
namespace Go.Proofs.YtihlpcbebpnmkaaGreatDoor
open Go.RowKit
set_option linter.unusedVariables false
set_option linter.unusedSimpArgs false

/-- w' is w but for blocks of F, and new ones. -/
structure Chg (F : Nat → Prop) (w w' : World) : Prop where
  os : w'.os = w.os
  tape : w'.tape = w.tape
  output : w'.output = w.output
  size : w.heap.size ≤ w'.heap.size
  block : ∀ k, k < w.heap.size → ¬ F k → w'.heap[k]? = w.heap[k]?
section
variable {F F' : Nat → Prop} {w w' w2 : World}
theorem Chg.refl (F : Nat → Prop) (w : World) : Chg F w w := ⟨rfl, rfl, rfl, Nat.le_refl _, fun _ _ _ => rfl⟩
theorem Chg.trans (h : Chg F w w') (k : Chg F' w' w2) (hF : ∀ g, g < w.heap.size → F' g → F g) : Chg F w w2 :=
  ⟨k.os.trans h.os, k.tape.trans h.tape, k.output.trans h.output, Nat.le_trans h.size k.size, fun g hg hn => (k.block g (Nat.lt_of_lt_of_le hg h.size) (fun e => hn (hF g hg e))).trans (h.block g hg hn)⟩
theorem Chg.mono (h : Chg F w w') (hF : ∀ g, g < w.heap.size → F g → F' g) : Chg F' w w' := ⟨h.os, h.tape, h.output, h.size, fun g hg hn => h.block g hg (fun e => hn (hF g hg e))⟩
theorem Chg.ofBelow (h : Below w.heap.size w w') : Chg F w w' := ⟨h.os, h.tape, h.output, h.size, fun g hg _ => h.block g hg⟩
theorem Chg.ofGrown {row : Option Nat} (h : w.grownBy w' row) (hr : ∀ g, row = some g → F g) : Chg F w w' := ⟨h.os, h.tape, h.output, h.size, fun g hg hn => h.block g hg (fun e => hn (hr g e.symm))⟩
theorem Chg.below (h : Chg F w w') {B : Nat} (hB : B ≤ w.heap.size) (hF : ∀ g, F g → B ≤ g) : Below B w w' := ⟨h.os, h.tape, h.output, h.size, fun g hg => h.block g (by omega) (fun e => by have := hF g e; omega)⟩
theorem Chg.alloc (h : Chg F w w') (o : Obj) : Chg F w (w'.alloc o) := h.trans (F' := F) (Chg.ofBelow ((Below.refl _ w').alloc (Nat.le_refl _) o)) (fun _ _ h => h)
theorem Chg.drew (h : Chg F w w') : Chg F w w'.drew := ⟨h.os, h.tape, h.output, h.size, h.block⟩
theorem Chg.setCell (h : Chg F w w') {a : Addr} (ha : F a.block ∨ w.heap.size ≤ a.block) (v : Value) : Chg F w (w'.setCell a v) :=
  ⟨h.os, h.tape, h.output, by simpa using h.size, fun g hg hn => (heap_setCell_other w' a g v (fun e => by rcases ha with ha | ha; exact hn (e ▸ ha); omega)).trans (h.block g hg hn)⟩
theorem Chg.cell (h : Chg F w w') {a : Addr} (ha : a.block < w.heap.size) (hn : ¬ F a.block) : w'.cell? a = w.cell? a := World.cell?_of_block (h.block _ ha hn)
theorem Chg.frozen (h : Chg F w w') {a : Addr} (ha : a.block < w.heap.size) (hn : ¬ F a.block) : w'.frozen? a = w.frozen? a := World.frozen?_of_block (h.block _ ha hn)
end

section
variable {w w' : World} {E D D' F F' G' : Nat → Prop} {B : Nat}
theorem own_same {e : TypeId} {sz n : Nat} {v : Value} {xs : List Value} (h : w.ownsRow B e sz v n xs) (hk : ∀ g, v.ownBlock = some g → w'.heap[g]? = w.heap[g]?) : w'.ownsRow B e sz v n xs := by
  refine ⟨h.1, ?_⟩
  rcases h.2 with hn | ⟨g, cap, cur, rfl, hb, hg, r⟩
  · exact .inl hn
  · exact .inr ⟨g, cap, cur, rfl, hb, (hk g rfl).trans hg, r⟩
theorem own_ne_type {e e' : TypeId} {sz sz' n n' : Nat} {v v' : Value} {xs xs' : List Value} (h : w.ownsRow B e sz v n xs) (h' : w.ownsRow B e' sz' v' n' xs') (hne : e ≠ e') : ∀ g, v.ownBlock = some g → v'.ownBlock ≠ some g := fun g h1 h2 => by
  rcases h.2 with ⟨rfl, _⟩ | ⟨g1, cap, cur, rfl, _, hg, _⟩
  · cases h1
  rcases h'.2 with ⟨rfl, _⟩ | ⟨g2, cap', cur', rfl, _, hg', _⟩
  · cases h2
  have e1 : g1 = g := by simpa [Value.ownBlock] using h1
  have e2 : g2 = g := by simpa [Value.ownBlock] using h2
  subst e1 e2
  rw [hg] at hg'
  injection hg' with hg'
  injection hg' with _ ht
  exact hne ht
theorem PV.In.chg {p : PV} (hin : p.In w w.heap.size) (ha : p.At D) (hc : Chg E w w') (hd : ∀ g, D g → ¬ E g) : p.In w' w'.heap.size :=
  (hin.at_ (D := fun g => D g ∧ g < w.heap.size) (PV.At.lows hin ha) (fun a h => hc.cell h.2 (hd _ h.1))).more hc.size
theorem PV.At.mono' {p : PV} (h : p.At D) (hd : ∀ g, D g → D' g) : p.At D' := fun h0 b o e => hd _ (h h0 b o e)

/-- The node's rows are the call's own, in blocks of F; its values lie in blocks of D. -/
inductive Own (w : World) : (Nat → Prop) → (Nat → Prop) → Nd → Prop where
  | mk (F D : Nat → Prop) (n : Nd) (hnm : n.name.size ≤ 140737488351232)
      (hp : w.ownsRow 0 61 2 n.pv n.props.length (n.props.flatMap pC)) (hk : w.ownsRow 0 27 3 n.kv n.kids.length (n.kids.flatMap kC))
      (fp : ∀ g, n.pv.ownBlock = some g → F g) (fk : ∀ g, n.kv.ownBlock = some g → F g)
      (hv : ∀ p ∈ n.props, p.In w w.heap.size ∧ p.At D)
      (G : Nat → Nat → Prop) (hG : ∀ i g, G i g → F g ∧ n.pv.ownBlock ≠ some g ∧ n.kv.ownBlock ≠ some g) (hd : ∀ i j g, G i g → G j g → i = j)
      (hkids : ∀ i (h : i < n.kids.length), Own w (G i) D n.kids[i]) : Own w F D n
theorem Own.parts {n : Nd} (h : Own w F D n) : n.name.size ≤ 140737488351232 ∧ w.ownsRow 0 61 2 n.pv n.props.length (n.props.flatMap pC) ∧ w.ownsRow 0 27 3 n.kv n.kids.length (n.kids.flatMap kC) ∧
    (∀ g, n.pv.ownBlock = some g → F g) ∧ (∀ g, n.kv.ownBlock = some g → F g) ∧ (∀ p ∈ n.props, p.In w w.heap.size ∧ p.At D) ∧
    ∃ G : Nat → Nat → Prop, (∀ i g, G i g → F g ∧ n.pv.ownBlock ≠ some g ∧ n.kv.ownBlock ≠ some g) ∧ (∀ i j g, G i g → G j g → i = j) ∧ ∀ i (h : i < n.kids.length), Own w (G i) D n.kids[i] := by
  cases h with | mk _ _ _ h1 h2 h3 h4 h5 h6 G h7 h8 h9 => exact ⟨h1, h2, h3, h4, h5, h6, G, h7, h8, h9⟩
theorem ind_at {l : List Nd} {i : Nat} (h : i < l.length) : l[i] ∈ l := List.getElem_mem h
theorem Own.mono {n : Nd} : ∀ {F F' : Nat → Prop}, Own w F D n → (∀ g, F g → F' g) → (∀ g, D g → D' g) → Own w F' D' n :=
  Nd.ind (p := fun n => ∀ {F F' : Nat → Prop}, Own w F D n → (∀ g, F g → F' g) → (∀ g, D g → D' g) → Own w F' D' n) (fun n ih F F' h hF hD => by
    obtain ⟨h1, h2, h3, h4, h5, h6, G, h7, h8, h9⟩ := h.parts
    exact .mk F' D' n h1 h2 h3 (fun g e => hF g (h4 g e)) (fun g e => hF g (h5 g e)) (fun p hp => ⟨(h6 p hp).1, (h6 p hp).2.mono' hD⟩) G (fun i g e => ⟨hF g (h7 i g e).1, (h7 i g e).2⟩) h8 (fun i hi => ih _ (ind_at hi) (h9 i hi) (fun _ h => h) hD)) n
/-- What turns elsewhere leaves the node. -/
theorem Own.chg {n : Nd} : ∀ {F : Nat → Prop}, Own w F D n → Chg E w w' → (∀ g, F g → ¬ E g) → (∀ g, D g → ¬ E g) → Own w' F D n :=
  Nd.ind (p := fun n => ∀ {F : Nat → Prop}, Own w F D n → Chg E w w' → (∀ g, F g → ¬ E g) → (∀ g, D g → ¬ E g) → Own w' F D n) (fun n ih F h hc hF hD => by
    obtain ⟨h1, h2, h3, h4, h5, h6, G, h7, h8, h9⟩ := h.parts
    exact .mk F D n h1 (own_same h2 (fun g e => hc.block g (h2.lt g e).2 (hF g (h4 g e)))) (own_same h3 (fun g e => hc.block g (h3.lt g e).2 (hF g (h5 g e)))) h4 h5 (fun p hp => ⟨(h6 p hp).1.chg (h6 p hp).2 hc hD, (h6 p hp).2⟩) G h7 h8 (fun i hi => ih _ (ind_at hi) (h9 i hi) hc (fun g e => hF g (h7 i g e).1) hD)) n
theorem prow_own {A : Option Addr} {n c : Nat} {P : List PV} (h : w.ownsRow B 61 2 (.slice A n c) P.length (P.flatMap pC)) : n = P.length ∧ P.length ≤ c ∧ c ≤ 9223372036854775807 ∧ PRow w w.heap.size A P := by
  rcases h.2 with ⟨e, e0⟩ | ⟨g, cap, cur, e, _, hg, h1, h2, _⟩
  · simp only [Value.slice.injEq] at e
    obtain ⟨rfl, rfl, rfl⟩ := e
    exact ⟨e0.symm, by omega, by omega, fun h => absurd h (by omega)⟩
  · simp only [Value.slice.injEq] at e
    obtain ⟨rfl, rfl, rfl⟩ := e
    refine ⟨rfl, h1, h2, fun h0 => ⟨g, 0, rfl, (Array.getElem?_eq_some_iff.1 hg).1, fun i hi => ?_⟩⟩
    have c0 := h.cells (g := g) rfl (i * 2) (.string P[i].name) (flat_at pC_len P i 0 hi (by omega))
    have c1 := h.cells (g := g) rfl (i * 2 + 1) P[i].val (flat_at pC_len P i 1 hi (by omega))
    rw [addr_add, Nat.zero_add] at c0 c1
    rw [Nat.zero_add]
    exact ⟨c0, c1⟩
theorem krow_own {A : Option Addr} {n c : Nat} {P : List Nd} (h : w.ownsRow B 27 3 (.slice A n c) P.length (P.flatMap kC)) : n = P.length ∧ P.length ≤ c ∧ c ≤ 9223372036854775807 ∧ KRow w w.heap.size A P := by
  rcases h.2 with ⟨e, e0⟩ | ⟨g, cap, cur, e, _, hg, h1, h2, _⟩
  · simp only [Value.slice.injEq] at e
    obtain ⟨rfl, rfl, rfl⟩ := e
    exact ⟨e0.symm, by omega, by omega, fun h => absurd h (by omega)⟩
  · simp only [Value.slice.injEq] at e
    obtain ⟨rfl, rfl, rfl⟩ := e
    refine ⟨rfl, h1, h2, fun h0 => ⟨g, 0, rfl, (Array.getElem?_eq_some_iff.1 hg).1, fun i hi => ?_⟩⟩
    have c0 := h.cells (g := g) rfl (i * 3) (.string P[i].name) (flat_at kC_len P i 0 hi (by omega))
    have c1 := h.cells (g := g) rfl (i * 3 + 1) P[i].pv (flat_at kC_len P i 1 hi (by omega))
    have c2 := h.cells (g := g) rfl (i * 3 + 2) P[i].kv (flat_at kC_len P i 2 hi (by omega))
    rw [addr_add, Nat.zero_add] at c0 c1 c2
    rw [Nat.zero_add]
    exact ⟨c0, c1, c2⟩
theorem hpN_pos : ∀ n : PN, 16 ≤ hpN n
  | .mk n ps ks => by rw [hpN]; omega
theorem hp_parts (n : Nd) : hpN (pureN n) = 16 + n.name.size + szPs (n.props.map PV.pure) + hpL (n.kids.map pureN) := by
  rw [pureN_mk, hpN]
/-- Such a node lies in memory, as any other one. -/
theorem Own.in_ {n : Nd} : ∀ {F : Nat → Prop}, Own w F D n → hpN (pureN n) ≤ 1099511627776 → n.In w w.heap.size :=
  Nd.ind (p := fun n => ∀ {F : Nat → Prop}, Own w F D n → hpN (pureN n) ≤ 1099511627776 → n.In w w.heap.size) (fun n ih F h hh => by
    obtain ⟨h1, h2, h3, h4, h5, h6, G, h7, h8, h9⟩ := h.parts
    rw [hp_parts] at hh
    have l1 := szPs_len (n.props.map PV.pure)
    have l2 := hpL_len (n.kids.map pureN)
    rw [List.length_map] at l1 l2
    obtain ⟨_, p1, p2, p3⟩ := prow_own h2
    obtain ⟨_, k1, k2, k3⟩ := krow_own h3
    refine .mk n ⟨h1, by omega, by omega⟩ p1 p2 k1 k2 p3 (fun p hp => (h6 p hp).1) k3 (fun k hk => ?_)
    obtain ⟨i, hi, rfl⟩ := List.getElem_of_mem hk
    refine ih _ hk (h9 i hi) ?_
    have := hpL_mem (List.mem_map.2 ⟨_, hk, rfl⟩ : pureN n.kids[i] ∈ n.kids.map pureN)
    omega) n
theorem own_at {sz n c : Nat} {e : TypeId} {A : Option Addr} {xs : List Value} (h : w.ownsRow B e sz (.slice A n c) n xs) {b o : Nat} (he : A = some ⟨b, o, none⟩) : (Value.slice A n c).ownBlock = some b := by rw [he]; rfl
theorem Own.at_ {n : Nd} : ∀ {F : Nat → Prop}, Own w F D n → n.At (fun g => F g ∨ D g) :=
  Nd.ind (p := fun n => ∀ {F : Nat → Prop}, Own w F D n → n.At (fun g => F g ∨ D g)) (fun n ih F h => by
    obtain ⟨h1, h2, h3, h4, h5, h6, G, h7, h8, h9⟩ := h.parts
    refine .mk n (fun _ b o e => .inl (h4 b (by rw [Nd.pv, e]; rfl))) (fun p hp => (h6 p hp).2.mono' (fun _ h => .inr h)) (fun _ b o e => .inl (h5 b (by rw [Nd.kv, e]; rfl))) (fun k hk => ?_)
    obtain ⟨i, hi, rfl⟩ := List.getElem_of_mem hk
    exact Nd.At.mono (fun g hg => hg.imp (fun e => (h7 i g e).1) id) (ih _ hk (h9 i hi))) n

theorem prop_ne_node : 61 ≠ 27 := by decide
/-- Other properties. -/
theorem Own.props {n : Nd} (h : Own w F D n) (hb : ∀ g, F g → g < w.heap.size) (hc : Chg E w w') (hE : ∀ g, E g → ¬ D g ∧ (F g → n.pv.ownBlock = some g)) {A' : Option Addr} {c' : Nat} {P' : List PV}
    (hr : w'.ownsRow 0 61 2 (.slice A' P'.length c') P'.length (P'.flatMap pC)) (hF' : ∀ g, (Value.slice A' P'.length c').ownBlock = some g → F' g ∧ (n.pv.ownBlock = some g ∨ w.heap.size ≤ g))
    (hv : ∀ p ∈ P', p.In w' w'.heap.size ∧ p.At D') (hFF : ∀ g, F g → F' g) (hDD : ∀ g, D g → D' g) : Own w' F' D' (.mk n.name A' c' P' n.ka n.kc n.kids) := by
  obtain ⟨h1, h2, h3, h4, h5, h6, G, h7, h8, h9⟩ := h.parts
  have nk := own_ne_type h2 h3 prop_ne_node
  refine .mk F' D' _ h1 hr (own_same h3 (fun g e => hc.block g (h3.lt g e).2 (fun e' => nk g ((hE g e').2 (h5 g e)) e))) (fun g e => (hF' g e).1) (fun g e => hFF g (h5 g e)) hv G (fun i g e => ⟨hFF g (h7 i g e).1, fun e' => ?_, (h7 i g e).2.2⟩) h8 (fun i hi => ?_)
  · rcases (hF' g e').2 with e2 | e2
    · exact (h7 i g e).2.1 e2
    · have := hb g (h7 i g e).1
      omega
  · exact ((h9 i hi).chg hc (fun g e e' => (h7 i g e).2.1 ((hE g e').2 (h7 i g e).1)) (fun g e e' => (hE g e').1 e)).mono (fun _ h => h) hDD
/-- Another node in a kid's place. -/
theorem Own.kid {n : Nd} (h : Own w F D n) (hb : ∀ g, F g → g < w.heap.size) {i : Nat} (hi : i < n.kids.length) :
    ∃ Gi : Nat → Prop, (∀ g, Gi g → F g ∧ n.pv.ownBlock ≠ some g ∧ n.kv.ownBlock ≠ some g) ∧ Own w Gi D n.kids[i] ∧
      ∀ (w' : World) (G' D' : Nat → Prop) (k' : Nd) (E : Nat → Prop), Chg E w w' → (∀ g, E g → ¬ D g ∧ (F g → Gi g ∨ n.kv.ownBlock = some g)) → w'.ownsRow 0 27 3 n.kv n.kids.length ((n.kids.set i k').flatMap kC) → Own w' G' D' k' →
        (∀ g, G' g → Gi g ∨ w.heap.size ≤ g) → (∀ g, D g → D' g) → Own w' (fun g => F g ∨ G' g) D' (.mk n.name n.pa n.pc n.props n.ka n.kc (n.kids.set i k')) := by
  obtain ⟨h1, h2, h3, h4, h5, h6, G, h7, h8, h9⟩ := h.parts
  have nk := own_ne_type h2 h3 prop_ne_node
  refine ⟨G i, h7 i, h9 i hi, fun w' G' D' k' E hc hE hr hk' hG' hDD => ?_⟩
  refine .mk _ D' _ h1 ?_ ?_ (fun g e => .inl (h4 g e)) (fun g e => .inl (h5 g ?_)) (fun p hp => ?_) (fun j => if j = i then G' else G j) (fun j g e => ?_) (fun j k g ej ek => ?_) (fun j hj => ?_)
  · refine own_same h2 (fun g e => hc.block g (h2.lt g e).2 (fun e' => ?_))
    rcases (hE g e').2 (h4 g e) with e2 | e2
    · exact (h7 i g e2).2.1 e
    · exact nk g e e2
  · show w'.ownsRow 0 _ 3 (.slice n.ka (n.kids.set i k').length n.kc) (n.kids.set i k').length _
    rw [List.length_set]
    exact hr
  · have e' : (Value.slice n.ka (n.kids.set i k').length n.kc).ownBlock = some g := e
    rw [List.length_set] at e'
    exact e'
  · exact ⟨(h6 p hp).1.chg (h6 p hp).2 hc (fun g e e' => (hE g e').1 e), (h6 p hp).2.mono' hDD⟩
  · have kb : ∀ {x}, (Nd.mk n.name n.pa n.pc n.props n.ka n.kc (n.kids.set i k')).kv.ownBlock = x → n.kv.ownBlock = x := fun e => by
      have e' : (Value.slice n.ka (n.kids.set i k').length n.kc).ownBlock = _ := e
      rw [List.length_set] at e'
      exact e'
    by_cases hji : j = i
    · rw [if_pos hji] at e
      rcases hG' g e with e2 | e2
      · exact ⟨.inr e, (h7 i g e2).2.1, fun e' => (h7 i g e2).2.2 (kb e')⟩
      · exact ⟨.inr e, fun e' => by have := (h2.lt g e').2; omega, fun e' => by have := (h3.lt g (kb e')).2; omega⟩
    · rw [if_neg hji] at e
      exact ⟨.inl (h7 j g e).1, (h7 j g e).2.1, fun e' => (h7 j g e).2.2 (kb e')⟩
  · have key : ∀ j, j ≠ i → G j g → G' g → False := fun j hj e e' => by
      rcases hG' g e' with e2 | e2
      · exact hj (h8 j i g e e2)
      · have := hb g (h7 j g e).1
        omega
    by_cases hji : j = i
    · rw [if_pos hji] at ej
      by_cases hki : k = i
      · omega
      · rw [if_neg hki] at ek
        exact absurd (key k hki ek ej) id
    · rw [if_neg hji] at ej
      by_cases hki : k = i
      · rw [if_pos hki] at ek
        exact absurd (key j hji ej ek) id
      · rw [if_neg hki] at ek
        exact h8 j k g ej ek
  · have hj' : j < (n.kids.set i k').length := hj
    show Own w' _ D' ((n.kids.set i k')[j]'hj')
    rw [List.getElem_set]
    by_cases hji : j = i
    · rw [if_pos hji, if_pos hji.symm]
      exact hk'
    · rw [if_neg hji, if_neg (Ne.symm hji)]
      rw [List.length_set] at hj'
      refine ((h9 j hj').chg hc (fun g e e' => ?_) (fun g e e' => (hE g e').1 e)).mono (fun _ h => h) hDD
      rcases (hE g e').2 (h7 j g e).1 with e2 | e2
      · exact hji (h8 j i g e e2)
      · exact (h7 j g e).2.2 e2
/-- One more node right below it. -/
theorem Own.addKid {n : Nd} (h : Own w F D n) (hb : ∀ g, F g → g < w.heap.size) (hc : Chg E w w') (hE : ∀ g, E g → ¬ D g ∧ (F g → n.kv.ownBlock = some g)) {A' : Option Addr} {c' : Nat} {k : Nd}
    (hr : w'.ownsRow 0 27 3 (.slice A' (n.kids ++ [k]).length c') (n.kids ++ [k]).length ((n.kids ++ [k]).flatMap kC)) (hF' : ∀ g, (Value.slice A' (n.kids ++ [k]).length c').ownBlock = some g → F' g ∧ ¬ G' g ∧ (n.kv.ownBlock = some g ∨ w.heap.size ≤ g))
    (hk : Own w' G' D' k) (hG : ∀ g, G' g → F' g ∧ ¬ F g) (hFF : ∀ g, F g → F' g) (hDD : ∀ g, D g → D' g) : Own w' F' D' (.mk n.name n.pa n.pc n.props A' c' (n.kids ++ [k])) := by
  obtain ⟨h1, h2, h3, h4, h5, h6, G, h7, h8, h9⟩ := h.parts
  have nk := own_ne_type h2 h3 prop_ne_node
  have far : ∀ j g, G j g → ¬ G' g := fun j g e e' => (hG g e').2 (h7 j g e).1
  refine .mk F' D' _ h1 (own_same h2 (fun g e => hc.block g (h2.lt g e).2 (fun e' => nk g e ((hE g e').2 (h4 g e))))) hr (fun g e => hFF g (h4 g e)) (fun g e => (hF' g e).1) (fun p hp => ⟨(h6 p hp).1.chg (h6 p hp).2 hc (fun g e e' => (hE g e').1 e), (h6 p hp).2.mono' hDD⟩)
    (fun j => if j = n.kids.length then G' else if j < n.kids.length then G j else fun _ => False) (fun j g e => ?_) (fun j i g ej ei => ?_) (fun j hj => ?_)
  · by_cases hj : j = n.kids.length
    · rw [if_pos hj] at e
      exact ⟨(hG g e).1, fun e' => (hG g e).2 (h4 g e'), fun e' => (hF' g e').2.1 e⟩
    · rw [if_neg hj] at e
      split at e
      · refine ⟨hFF g (h7 j g e).1, (h7 j g e).2.1, fun e' => ?_⟩
        rcases (hF' g e').2.2 with e2 | e2
        · exact (h7 j g e).2.2 e2
        · have := hb g (h7 j g e).1
          omega
      · cases e
  · have one : ∀ j, (if j = n.kids.length then G' else if j < n.kids.length then G j else fun _ => False) g → (j = n.kids.length ∧ G' g) ∨ (j ≠ n.kids.length ∧ G j g) := fun j e => by
      by_cases hj : j = n.kids.length
      · rw [if_pos hj] at e
        exact .inl ⟨hj, e⟩
      · rw [if_neg hj] at e
        split at e
        · exact .inr ⟨hj, e⟩
        · cases e
    rcases one j ej with ⟨e1, e2⟩ | ⟨e1, e2⟩
    · rcases one i ei with ⟨e3, e4⟩ | ⟨e3, e4⟩
      · omega
      · exact absurd e2 (far i g e4)
    · rcases one i ei with ⟨e3, e4⟩ | ⟨e3, e4⟩
      · exact absurd e4 (far j g e2)
      · exact h8 j i g e2 e4
  · have hj' : j < (n.kids ++ [k]).length := hj
    show Own w' _ D' ((n.kids ++ [k])[j]'hj')
    by_cases he : j = n.kids.length
    · subst he
      rw [if_pos rfl]
      simpa using hk
    · have hl : j < n.kids.length := by simp at hj'; omega
      rw [if_neg he, if_pos hl, List.getElem_append_left hl]
      exact ((h9 j hl).chg hc (fun g e e' => (h7 j g e).2.2 ((hE g e').2 (h7 j g e).1)) (fun g e e' => (hE g e').1 e)).mono (fun _ h => h) hDD
end
end Go.Proofs.YtihlpcbebpnmkaaGreatDoor

/-! slices.Clone of properties, of nodes; bytes.Clone: rows of the call's own. -/
namespace Go.Proofs.YtihlpcbebpnmkaaGreatDoor
open Go.RowKit
set_option linter.unusedVariables false
set_option linter.unusedSimpArgs false

section
variable {α : Type} {f : α → List Value} {sz : Nat}
/-- What a flat row holds at any place. -/
theorem flat_get (hf : ∀ a, (f a).length = sz) (h0 : 0 < sz) {l : List α} {j : Nat} {u : Value} (h : (l.flatMap f)[j]? = some u) : ∃ i r, ∃ hi : i < l.length, r < sz ∧ j = i * sz + r ∧ (f l[i])[r]? = some u := by
  have hj : j < l.length * sz := by
    rw [← flat_len hf l]
    rcases Nat.lt_or_ge j (l.flatMap f).length with h' | h'
    · exact h'
    · rw [List.getElem?_eq_none h'] at h; cases h
  have hi : j / sz < l.length := (Nat.div_lt_iff_lt_mul h0).2 hj
  have hr : j % sz < sz := Nat.mod_lt _ h0
  have e : j = j / sz * sz + j % sz := by rw [Nat.mul_comm]; exact (Nat.div_add_mod j sz).symm
  refine ⟨j / sz, j % sz, hi, hr, e, ?_⟩
  rw [← flat_at hf l _ _ hi hr, ← e]
  exact h
end
/-- 'append' onto an empty row of the call's own: the cells of a row that came in. -/
theorem clone_run (w : World) (t e : TypeId) (sz bytes : Nat) (i0 : TypeInfo) (z : Value) (ht : Tryz.prog.underlying t = some (.slice e)) (hi0 : Tryz.prog.info? e = some i0) (hz0 : i0.zero = some z) (hz1 : i0.size = sz) (hz2 : i0.bytes = bytes) (hzc : z.cells.size = sz) (hs0 : 0 < sz)
    (ad : Addr) (n c : Nat) (news : List Value) (hl : news.length = n * sz) (hc : ∀ (j : Nat) (u : Value), news[j]? = some u → w.cell? (ad.add j) = some u) (ho : ∀ u ∈ news, u.oneCell' = true) (hb : n * bytes ≤ 140737488351232) (hn : n ≤ 140737488351232) :
    ∃ v' w', (Builtin.append_ #[t, t] t #[.slice (some ⟨w.heap.size, 0, none⟩) 0 0, .slice (some ad) n c]).run Tryz.prog (w.alloc (.cells #[] e)) = .ok v' w' ∧ w'.ownsRow w.heap.size e sz v' n news ∧ Below w.heap.size w w' := by
  have h0 : (w.alloc (.cells #[] e)).ownsRow w.heap.size e sz (.slice (some ⟨w.heap.size, 0, none⟩) 0 0) 0 [] := World.ownsRow_made w #[] 0 (Nat.le_refl _) (Nat.zero_le _) (by simp)
  have hcell : ∀ (j : Nat) (u : Value), news[j]? = some u → (w.alloc (.cells #[] e)).cell? (ad.add j) = some u := fun j u hu => Lib.cell?_alloc_some _ (hc j u hu)
  obtain ⟨v', w', h1, h2, h3, h4⟩ := run_append_own_at (P := Tryz.prog) (w.alloc (.cells #[] e)) w.heap.size t t e i0 z sz bytes ht hi0 hz0 hz1 hz2 hzc hs0 _ 0 [] h0 ad n c news hl hcell ho (by unfold maxLen; omega) (by rw [Nat.zero_add]; omega) (by simp)
  refine ⟨v', w', h1, by simpa using h2, ((Below.refl w.heap.size w).alloc (Nat.le_refl _) _).grown h3 (by simp) ?_⟩
  intro k hk
  simp [Value.ownBlock] at hk
  omega
set_option maxHeartbeats 1000000 in
theorem obclone_any (A : Option Addr) (n c : Nat) (zs : List Int) (w : World) (hs : Shows w w.heap.size A n zs) (hn : n ≤ 140737488351232) :
    Calls Tryz.prog 42 #[.slice A n c] w fun e w' => ∃ v', e = .returned v' ∧ w'.ownsRow w.heap.size 5 1 v' n (u8s zs) ∧ Below w.heap.size w w' := by
  obtain ⟨i0, hi0, hz0, hz1, hz2⟩ := info_any info_u8
  have HS := Lib.hid hs
  clear hs
  have q : ∀ (w : World) (a : Option Addr) (n c n' c' : Nat), (binOp .eql 59 (.slice a n c) (.slice none n' c')).run Tryz.prog w = .ok (.bool a.isNone) w := fun w a n c n' c' => Lib.run_eql_slice_nil w _ _ a n c n' c' Tryz.underlying59
  have u22 : ∀ w, Sem.run Tryz.prog (underlying 59) w = .ok (TypeDesc.slice 5) w := run_underlying Tryz.underlying59
  rcases A with _ | ad
  · have hn0 : n = 0 := by
      rcases Nat.eq_zero_or_pos n with h | h
      · exact h
      · obtain ⟨b, o, e, _⟩ := HS.out.2.2 h
        cases e
    have hz0' : zs = [] := List.eq_nil_of_length_eq_zero (HS.out.1.trans hn0)
    subst hn0 hz0'
    go_enter Tryz.func42, Tryz.ntmps42
    go_wp2
    go_ret
    exact ⟨_, rfl, World.ownsRow_nil _ _ _ _, Below.refl _ _⟩
  · have HB0 := Lib.hid ((Below.refl w.heap.size w).alloc (Nat.le_refl _) (.cells #[] 5))
    obtain ⟨v', w', hrun, hown, hgr, _⟩ := run_append_shown (w.alloc (.cells #[] 5)) i0 hi0 hz0 hz1 hz2 w.heap.size (.slice (some ⟨w.heap.size, 0, none⟩) 0 0) 0 [] (World.ownsRow_made w #[] 0 (Nat.le_refl _) (Nat.zero_le _) rfl) w.heap.size (some ad) n c zs (HS.out.below HB0.out) (by omega) (by simp) 59
    have HO := Lib.hid hown
    have HG := Lib.hid hgr
    have HR := Lib.hid hrun
    clear hown hgr hrun hi0 hz0 hz1 hz2
    go_enter Tryz.func42, Tryz.ntmps42
    go_wp2_with (at_builtin; refine Lib.wpList_append_run_sl _ rfl _ _ 59 rfl _ _ rfl rfl HR.out ?_)
    go_ret
    refine ⟨_, rfl, ?_, HB0.out.grown HG.out (by simp) ?_⟩
    · have := HO.out
      rw [Nat.zero_add] at this
      simpa using this
    · intro k hk
      simp [Value.ownBlock] at hk
      omega


set_option maxHeartbeats 1000000 in
theorem cloneProps_own (A : Option Addr) (cp : Nat) (l : List PV) (w : World) (hrow : PRow w w.heap.size A l) (hsz : l.length * 40 ≤ 140737488351232) :
    Calls Tryz.prog 40 #[.slice A l.length cp] w fun e w' => ∃ A' c', e = .returned (.slice A' l.length c') ∧ w'.ownsRow w.heap.size 61 2 (.slice A' l.length c') l.length (l.flatMap pC) ∧ Below w.heap.size w w' := by
  obtain ⟨i0, hi0, hz0, hz1, hz2⟩ := info_any info_prop
  have hf : ∀ a, (pC a).length = 2 := fun _ => rfl
  have q : ∀ (w : World) (a : Option Addr) (n c n' c' : Nat), (binOp .eql 24 (.slice a n c) (.slice none n' c')).run Tryz.prog w = .ok (.bool a.isNone) w := fun w a n c n' c' => Lib.run_eql_slice_nil w _ _ a n c n' c' Tryz.underlying24
  have u22 : ∀ w, Sem.run Tryz.prog (underlying 24) w = .ok (TypeDesc.slice 61) w := run_underlying Tryz.underlying24
  rcases A with _ | ad
  · have hn0 : l.length = 0 := by
      rcases Nat.eq_zero_or_pos l.length with h | h
      · exact h
      · obtain ⟨b, o, e, _⟩ := hrow h
        cases e
    have HZ := Lib.hid hn0
    clear hn0 hsz hi0 hz0 hz1 hz2 hrow
    go_enter Tryz.func40, Tryz.ntmps40
    go_wp2
    go_ret
    obtain rfl : l = [] := List.eq_nil_of_length_eq_zero HZ.out
    exact ⟨none, 0, rfl, World.ownsRow_nil _ _ _ _, Below.refl _ _⟩
  · obtain ⟨v', w', hrun, hown, hbel⟩ := clone_run w 24 61 2 40 i0 _ Tryz.underlying24 hi0 hz0 hz1 hz2 rfl (by omega) ad l.length cp (l.flatMap pC) (flat_len hf l)
      (fun j u hu => by
        obtain ⟨i, r, hi, hr, rfl, hu'⟩ := flat_get hf (by omega) hu
        obtain ⟨b, o, e, _, hc⟩ := hrow (by omega)
        obtain rfl : ad = ⟨b, o, none⟩ := Option.some.inj e
        rw [addr_add, ← Nat.add_assoc]
        obtain ⟨c0, c1⟩ := hc i hi
        match r, hr, hu' with
        | 0, _, hu' => rw [← Option.some.inj hu']; exact c0
        | 1, _, hu' => rw [← Option.some.inj hu']; exact c1)
      (fun u hu => by
        obtain ⟨x, _, hx⟩ := List.mem_flatMap.1 hu
        simp only [pC, List.mem_cons, List.not_mem_nil, or_false] at hx
        rcases hx with rfl | rfl <;> rfl)
      hsz (by omega)
    obtain ⟨A', c', rfl, h1, h2⟩ : ∃ A' c', v' = .slice A' l.length c' ∧ l.length ≤ c' ∧ c' ≤ 9223372036854775807 := by
      rcases hown.2 with ⟨rfl, e0⟩ | ⟨g, cap, cur, rfl, _, _, h1, h2, _⟩
      · exact ⟨none, 0, by rw [e0], by omega, by omega⟩
      · exact ⟨_, cap, rfl, h1, h2⟩
    have HR := Lib.hid hrun
    have HF := Lib.hid (And.intro hown hbel)
    clear hrun hown hbel h1 h2 hi0 hz0 hz1 hz2 hsz hrow
    go_enter Tryz.func40, Tryz.ntmps40
    go_wp2_with (at_builtin; refine Lib.wpList_append_run_sl _ rfl _ _ 24 rfl _ _ rfl rfl HR.out ?_)
    go_ret
    exact ⟨A', c', rfl, HF.out⟩

set_option maxHeartbeats 1000000 in
theorem cloneKids_own (A : Option Addr) (cp : Nat) (l : List Nd) (w : World) (hrow : KRow w w.heap.size A l) (hsz : l.length * 64 ≤ 140737488351232) :
    Calls Tryz.prog 41 #[.slice A l.length cp] w fun e w' => ∃ A' c', e = .returned (.slice A' l.length c') ∧ w'.ownsRow w.heap.size 27 3 (.slice A' l.length c') l.length (l.flatMap kC) ∧ Below w.heap.size w w' := by
  obtain ⟨i0, hi0, hz0, hz1, hz2⟩ := info_any info_node
  have hf : ∀ a, (kC a).length = 3 := fun _ => rfl
  have q : ∀ (w : World) (a : Option Addr) (n c n' c' : Nat), (binOp .eql 25 (.slice a n c) (.slice none n' c')).run Tryz.prog w = .ok (.bool a.isNone) w := fun w a n c n' c' => Lib.run_eql_slice_nil w _ _ a n c n' c' Tryz.underlying25
  have u22 : ∀ w, Sem.run Tryz.prog (underlying 25) w = .ok (TypeDesc.slice 27) w := run_underlying Tryz.underlying25
  rcases A with _ | ad
  · have hn0 : l.length = 0 := by
      rcases Nat.eq_zero_or_pos l.length with h | h
      · exact h
      · obtain ⟨b, o, e, _⟩ := hrow h
        cases e
    have HZ := Lib.hid hn0
    clear hn0 hsz hi0 hz0 hz1 hz2 hrow
    go_enter Tryz.func41, Tryz.ntmps41
    go_wp2
    go_ret
    obtain rfl : l = [] := List.eq_nil_of_length_eq_zero HZ.out
    exact ⟨none, 0, rfl, World.ownsRow_nil _ _ _ _, Below.refl _ _⟩
  · obtain ⟨v', w', hrun, hown, hbel⟩ := clone_run w 25 27 3 64 i0 _ Tryz.underlying25 hi0 hz0 hz1 hz2 rfl (by omega) ad l.length cp (l.flatMap kC) (flat_len hf l)
      (fun j u hu => by
        obtain ⟨i, r, hi, hr, rfl, hu'⟩ := flat_get hf (by omega) hu
        obtain ⟨b, o, e, _, hc⟩ := hrow (by omega)
        obtain rfl : ad = ⟨b, o, none⟩ := Option.some.inj e
        rw [addr_add, ← Nat.add_assoc]
        obtain ⟨c0, c1, c2⟩ := hc i hi
        match r, hr, hu' with
        | 0, _, hu' => rw [← Option.some.inj hu']; exact c0
        | 1, _, hu' => rw [← Option.some.inj hu']; exact c1
        | 2, _, hu' => rw [← Option.some.inj hu']; exact c2)
      (fun u hu => by
        obtain ⟨x, _, hx⟩ := List.mem_flatMap.1 hu
        simp only [kC, List.mem_cons, List.not_mem_nil, or_false] at hx
        rcases hx with rfl | rfl | rfl <;> rfl)
      hsz (by omega)
    obtain ⟨A', c', rfl, h1, h2⟩ : ∃ A' c', v' = .slice A' l.length c' ∧ l.length ≤ c' ∧ c' ≤ 9223372036854775807 := by
      rcases hown.2 with ⟨rfl, e0⟩ | ⟨g, cap, cur, rfl, _, _, h1, h2, _⟩
      · exact ⟨none, 0, by rw [e0], by omega, by omega⟩
      · exact ⟨_, cap, rfl, h1, h2⟩
    have HR := Lib.hid hrun
    have HF := Lib.hid (And.intro hown hbel)
    clear hrun hown hbel h1 h2 hi0 hz0 hz1 hz2 hsz hrow
    go_enter Tryz.func41, Tryz.ntmps41
    go_wp2_with (at_builtin; refine Lib.wpList_append_run_sl _ rfl _ _ 25 rfl _ _ rfl rfl HR.out ?_)
    go_ret
    exact ⟨A', c', rfl, HF.out⟩
end Go.Proofs.YtihlpcbebpnmkaaGreatDoor
