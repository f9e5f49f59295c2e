/-
  Base, part 6: what the proofs of this claim lean on.
-/
import Derived.Test.YtfekjihjifimcaaBase5
import Derived.Test.YtfekjihjifimcaaBase1
import Derived.Lib.Bytes
import Derived.Lib.SmallJoins
import Derived.Test.YtfekjihjifimcaaBase2
import Derived.BigQuiet
import Derived.Deep.DrawnRows

/-! Layer 5: what a formed tree's whole bytes say. -/
namespace Go.Proofs.Ytfekjihjifimcaa
open Go.RowKit
set_option linter.unusedVariables false
set_option linter.unusedSimpArgs false

theorem numTo_eight (a b : List Int) (v : Int) (h0 : 0 ≤ v) (k : Nat) (hk : k = a.length) : numTo (a ++ (eight v ++ b)) k 8 = v := by
  subst hk
  have e : ∀ i, (a ++ (eight v ++ b)).getD (a.length + i) 0 = (eight v ++ b).getD i 0 := fun i => by
    simp [List.getD, List.getElem?_append_right]
  simp only [numTo, e]
  simp only [eight, four, List.cons_append, List.nil_append, List.getD_cons_zero, List.getD_cons_succ]
  omega

theorem eight_length (v : Int) : (eight v).length = 8 := rfl

theorem resF_go {zs : List Int} : ∀ (rs : List (Int × Int)) (pre post : List Int) (acc : List (Int × Int)) (f : Nat), zs = pre ++ (resL rs ++ (List.replicate 16 0 ++ post)) → (∀ r ∈ rs, 0 ≤ r.1 ∧ 0 ≤ r.2 ∧ ¬ (r.1 = 0 ∧ r.2 = 0)) → acc.length + rs.length ≤ 64 → rs.length < f →
    resF zs f pre.length acc = .ok (acc ++ rs)
  | _, _, _, _, 0, _, _, _, h => by omega
  | [], pre, post, acc, f + 1, hz, _, hl, _ => by
    have e0 : (List.replicate 16 0 : List Int) = eight 0 ++ eight 0 := by decide
    have e1 : zs = pre ++ (eight 0 ++ (eight 0 ++ post)) := by rw [hz, e0]; simp [resL]
    have e2 : zs = (pre ++ eight 0) ++ (eight 0 ++ post) := by rw [e1]; simp
    have n1 : numTo zs pre.length 8 = 0 := by rw [e1]; exact numTo_eight _ _ 0 (by decide) _ rfl
    have n2 : numTo zs (pre.length + 8) 8 = 0 := by rw [e2]; exact numTo_eight _ _ 0 (by decide) _ (by simp [eight_length])
    have hzl : pre.length + 16 ≤ zs.length := by rw [e1]; simp only [List.length_append, eight_length]; omega
    rw [resF, if_pos hzl, n1, n2, if_pos ⟨rfl, rfl⟩, if_neg (by simp at hl; omega), List.append_nil]
  | r :: l, pre, post, acc, f + 1, hz, hr, hl, hf => by
    have e1 : zs = pre ++ (eight r.1 ++ (eight r.2 ++ (resL l ++ (List.replicate 16 0 ++ post)))) := by rw [hz]; simp [resL]
    have e2 : zs = (pre ++ eight r.1) ++ (eight r.2 ++ (resL l ++ (List.replicate 16 0 ++ post))) := by rw [e1]; simp
    have h0 := hr r (by simp)
    have n1 : numTo zs pre.length 8 = r.1 := by rw [e1]; exact numTo_eight _ _ _ h0.1 _ rfl
    have n2 : numTo zs (pre.length + 8) 8 = r.2 := by rw [e2]; exact numTo_eight _ _ _ h0.2.1 _ (by simp [eight_length])
    have hzl : pre.length + 16 ≤ zs.length := by rw [e1]; simp only [List.length_append, eight_length]; omega
    have ih := resF_go (zs := zs) l (pre ++ (eight r.1 ++ eight r.2)) post (acc ++ [r]) f (e1.trans (by simp)) (fun q hq => hr q (by simp [hq])) (by simp only [List.length_append, List.length_cons, List.length_nil] at hl ⊢; omega) (by simp only [List.length_cons] at hf; omega)
    rw [resF, if_pos hzl, n1, n2, if_neg h0.2.2]
    have e3 : (pre ++ (eight r.1 ++ eight r.2)).length = pre.length + 16 := by simp only [List.length_append, eight_length]
    rw [e3] at ih
    rw [ih]; simp

/-- What a tree is in which nothing is wrong. -/
theorem check_zero {t : Tr} (h : checkE t = 0) : wrongN t.root 1 = 0 ∧ t.rs.length ≤ 64 ∧ t.rs.any zeroR = false := by
  unfold checkE at h
  by_cases h1 : wrongN t.root 1 = 0
  · rw [if_pos h1] at h
    unfold manyE at h
    by_cases h2 : 4096 < wrap64 (nodesN t.root) ∨ 8192 < wrap64 (propsN t.root) ∨ 64 < t.rs.length
    · rw [if_pos h2] at h; omega
    · rw [if_neg h2] at h
      by_cases h3 : t.rs.any zeroR = true
      · rw [if_pos h3] at h; omega
      · refine ⟨h1, ?_, by simpa using h3⟩
        exact Nat.le_of_not_lt (fun h4 => h2 (.inr (.inr h4)))
  · rw [if_neg h1] at h; exact absurd h h1

/-- What a formed tree's bytes say is the tree. -/
theorem read_blob (t : Tr) (hb : 0 ≤ t.boot ∧ t.boot ≤ 4294967295) (hr : ∀ r ∈ t.rs, 0 ≤ r.1 ∧ 0 ≤ r.2) (hc : checkE t = 0) (hlen : (blobT t).length ≤ 4294967295) : readAll (blobT t) = .ok (t.rs, pureN t.root) := by
  obtain ⟨h1, h2, h3⟩ := check_zero hc
  have hl : 40 + (reserveT t).length + (structT t).length + (textB (textsT t)).length ≤ 4294967295 := by
    have e := blob_length t
    simp only [headT, List.getD_cons_zero, List.getD_cons_succ] at e
    omega
  have H := blob_head t hb hl
  have hrl : (reserveT t).length = 16 * t.rs.length + 16 := by simp [reserveT, resL_length]
  obtain ⟨F, hF⟩ : ∃ F, fours (fun k => (headT t k : Int)) 10 = F := ⟨_, rfl⟩
  have hF40 : F.length = 40 := by rw [← hF, fours_length]
  have eB : blobT t = F ++ (reserveT t ++ (structT t ++ textB (textsT t))) := by rw [← hF]; rfl
  unfold readAll
  rw [H 4 (by decide), H 2 (by decide), H 9 (by decide), H 3 (by decide), H 8 (by decide)]
  simp only [headT, List.getD_cons_zero, List.getD_cons_succ, Int.toNat_natCast]
  have r1 : resF (blobT t) ((blobT t).length + 1) 40 [] = .ok t.rs := by
    have h := resF_go (zs := blobT t) t.rs F (structT t ++ textB (textsT t)) [] ((blobT t).length + 1) (by rw [eB, reserveT]; simp) (fun r hr' => ⟨(hr r hr').1, (hr r hr').2, fun hz => by
      have : t.rs.any zeroR = true := List.any_eq_true.2 ⟨r, hr', by simp [zeroR, hz.1, hz.2]⟩
      rw [h3] at this; cases this⟩) (by simpa using h2) (by rw [eB]; simp only [List.length_append]; omega)
    rw [hF40] at h
    simpa using h
  rw [r1]
  have p1 : partL (blobT t) (40 + (reserveT t).length) (structT t).length = structT t := by
    have e : blobT t = (F ++ reserveT t) ++ (structT t ++ textB (textsT t)) := by rw [eB]; simp
    rw [partL, e, show 40 + (reserveT t).length = (F ++ reserveT t).length by simp [hF40], List.drop_left, List.take_left]
  have p2 : partL (blobT t) (40 + (reserveT t).length + (structT t).length) (textB (textsT t)).length = textB (textsT t) := by
    have e : blobT t = (F ++ (reserveT t ++ structT t)) ++ textB (textsT t) := by rw [eB]; simp
    rw [partL, e, show 40 + (reserveT t).length + (structT t).length = (F ++ (reserveT t ++ structT t)).length by simp [hF40]; omega, List.drop_left, List.take_length]
  rw [p1, p2]
  dsimp only
  have h := root_back (L := textsT t) h1 (textsN_all t.root []).2 (structT t) rfl
  rw [h]

/-- A formed tree's header is none that is refused. -/
theorem head_blob (t : Tr) (hb : 0 ≤ t.boot ∧ t.boot ≤ 4294967295) (hlen : (blobT t).length ≤ 4294967295) :
    headE (blobT t).length (hcell (blobT t) 0) (hcell (blobT t) 1) (hcell (blobT t) 2) (hcell (blobT t) 3) (hcell (blobT t) 4) (hcell (blobT t) 5) (hcell (blobT t) 6) (hcell (blobT t) 8) (hcell (blobT t) 9) = 0 := by
  have e := blob_length t
  simp only [headT, List.getD_cons_zero, List.getD_cons_succ] at e
  have hl : 40 + (reserveT t).length + (structT t).length + (textB (textsT t)).length ≤ 4294967295 := by omega
  have hrl : (reserveT t).length = 16 * t.rs.length + 16 := by simp [reserveT, resL_length]
  have H := blob_head t hb hl
  rw [H 0 (by decide), H 1 (by decide), H 2 (by decide), H 3 (by decide), H 4 (by decide), H 5 (by decide), H 6 (by decide), H 8 (by decide), H 9 (by decide)]
  simp only [headT, List.getD_cons_zero, List.getD_cons_succ]
  rw [headE, if_pos (by decide), if_pos (by decide), if_pos]
  refine ⟨by rw [e], ?_⟩
  simp only [parts, within, Bool.and_eq_true, decide_eq_true_eq]
  omega
end Go.Proofs.Ytfekjihjifimcaa

/-! Texts of bytes that are shown; bytes.Equal. -/
namespace Go.Proofs.Ytfekjihjifimcaa
open Go.RowKit
set_option linter.unusedVariables false
set_option linter.unusedSimpArgs false

/-- 'string(b)' of bytes that are shown. -/
theorem run_string {w : World} {B n : Nat} {A : Option Addr} {zs : List Int} (h : Shows w B A n zs) (c : Nat) :
    (convert 30 9 (.slice A n c)).run Try.prog w = .ok (.string (strOfNums zs)) w := by
  rcases Nat.eq_zero_or_pos n with rfl | h0
  · obtain rfl : zs = [] := List.eq_nil_of_length_eq_zero h.1
    rcases A with _ | ⟨b, o, s⟩
    · exact run_convert_bytes_nil w 30 5 Try.underlying30 Try.underlying5 0 c _ Try.underlying9
    · rw [run_convert_bytes_string w 30 9 5 _ 0 c Try.underlying30 Try.underlying5 Try.underlying9,
        run_bytesToString w _ 0 c [] (by simpa using run_loadCells_list (P := Try.prog) w ⟨b, o, s⟩ [] (by simp))]
      rfl
  · obtain ⟨b, o, rfl, _, hc⟩ := h.at_ h0
    exact run_convert_bytes_arg w 30 5 Try.underlying30 Try.underlying5 b o n c zs h.1 hc _ Try.underlying9

theorem nums_inj : ∀ {xs ys : List Int}, (∀ z ∈ xs, 0 ≤ z ∧ z < 256) → (∀ z ∈ ys, 0 ≤ z ∧ z < 256) → (xs.map fun n => UInt8.ofNat n.toNat) = (ys.map fun n => UInt8.ofNat n.toNat) → xs = ys
  | [], [], _, _, _ => rfl
  | [], _ :: _, _, _, h => by simp at h
  | _ :: _, [], _, _, h => by simp at h
  | x :: xs, y :: ys, hx, hy, h => by
    simp only [List.map_cons, List.cons.injEq] at h
    have h1 := hx x (List.mem_cons_self ..)
    have h2 := hy y (List.mem_cons_self ..)
    have h3 := congrArg UInt8.toNat h.1
    simp only [UInt8.toNat_ofNat'] at h3
    rw [nums_inj (fun z hz => hx z (List.mem_cons_of_mem _ hz)) (fun z hz => hy z (List.mem_cons_of_mem _ hz)) h.2]
    congr 1
    omega

/-- Texts of bytes are the same just if the bytes are. -/
theorem str_eqz {xs ys : List Int} (hx : ∀ z ∈ xs, 0 ≤ z ∧ z < 256) (hy : ∀ z ∈ ys, 0 ≤ z ∧ z < 256) : ((strOfNums xs).toList == (strOfNums ys).toList) = decide (xs = ys) := by
  rw [Lib.toList_data, Lib.toList_data, strOfNums_data, strOfNums_data, Bool.eq_iff_iff, beq_iff_eq, decide_eq_true_iff]
  exact ⟨nums_inj hx hy, fun h => by rw [h]⟩
theorem str_eqb (x y : ByteArray) : (x.toList == y.toList) = decide (x = y) := by
  by_cases h : x = y
  · subst h; simp
  · rw [str_ne h, decide_eq_false h]

end Go.Proofs.Ytfekjihjifimcaa

/-! Whether two nodes, and all below them, are the same: the functions alone. -/
namespace Go.Proofs.Ytfekjihjifimcaa
open Go.RowKit
set_option linter.unusedVariables false
set_option linter.unusedSimpArgs false

/-- Two properties are the same. -/
def sameP (p q : PV) : Bool := decide (p.name = q.name) && decide (p.zs = q.zs)
def all2 {α : Type} (f : α → α → Bool) : List α → List α → Bool
  | [], [] => true
  | p :: l, q :: r => f p q && all2 f l r
  | _, _ => false
theorem all2_len {α : Type} {f : α → α → Bool} : ∀ {l r : List α}, all2 f l r = true → l.length = r.length
  | [], [], _ => rfl
  | [], _ :: _, h => by simp [all2] at h
  | _ :: _, [], h => by simp [all2] at h
  | p :: l, q :: r, h => by
    simp only [all2, Bool.and_eq_true] at h
    simp [all2_len h.2]
theorem all2_at {α : Type} {f : α → α → Bool} : ∀ {l r : List α}, all2 f l r = true → ∀ (k : Nat) (h1 : k < l.length) (h2 : k < r.length), f l[k] r[k] = true
  | p :: l, q :: r, h, 0, _, _ => by simp only [all2, Bool.and_eq_true] at h; exact h.1
  | p :: l, q :: r, h, k + 1, h1, h2 => by
    simp only [all2, Bool.and_eq_true] at h
    exact all2_at h.2 k (by simpa using h1) (by simpa using h2)
theorem all2_mk {α : Type} {f : α → α → Bool} : ∀ {l r : List α}, l.length = r.length → (∀ (k : Nat) (h1 : k < l.length) (h2 : k < r.length), f l[k] r[k] = true) → all2 f l r = true
  | [], [], _, _ => rfl
  | [], _ :: _, h, _ => by simp at h
  | _ :: _, [], h, _ => by simp at h
  | p :: l, q :: r, hl, h => by
    have h0 : f p q = true := h 0 (by simp) (by simp)
    simp only [all2, Bool.and_eq_true]
    exact ⟨h0, all2_mk (by simpa using hl) (fun k h1 h2 => h (k + 1) (by simpa using h1) (by simpa using h2))⟩
theorem all2_bad {α : Type} {f : α → α → Bool} {l r : List α} (k : Nat) (h1 : k < l.length) (h2 : k < r.length) (h : f l[k] r[k] = false) : all2 f l r = false := by
  rcases hb : all2 f l r with _ | _
  · rfl
  · rw [all2_at hb k h1 h2] at h; cases h
theorem all2_lens {α : Type} {f : α → α → Bool} {l r : List α} (h : l.length ≠ r.length) : all2 f l r = false := by
  rcases hb : all2 f l r with _ | _
  · rfl
  · exact absurd (all2_len hb) h

/-- The first k pairs are the same. -/
def Even {α : Type} (f : α → α → Bool) (l r : List α) (k : Nat) : Prop := ∀ j (h1 : j < l.length) (h2 : j < r.length), j < k → f l[j] r[j] = true
theorem Even.zero {α : Type} (f : α → α → Bool) (l r : List α) : Even f l r 0 := fun _ _ _ h => absurd h (Nat.not_lt_zero _)
theorem Even.succ {α : Type} {f : α → α → Bool} {l r : List α} {k : Nat} (h : Even f l r k) (h1 : k < l.length) (h2 : k < r.length) (he : f l[k] r[k] = true) : Even f l r (k + 1) := fun j h1' h2' hj => by
  rcases Nat.lt_succ_iff_lt_or_eq.1 hj with h' | rfl
  · exact h j h1' h2' h'
  · exact he
theorem Even.all {α : Type} {f : α → α → Bool} {l r : List α} {k : Nat} (h : Even f l r k) (hl : l.length = r.length) (hk : ¬ k < l.length) : all2 f l r = true := all2_mk hl fun j h1 h2 => h j h1 h2 (by omega)

mutual
/-- Two nodes, and all below them, are the same. -/
def sameB : Nd → Nd → Bool
  | .mk n _ _ p _ _ k, m => decide (n = m.name) && all2 sameP p m.props && sameL k m.kids
def sameL : List Nd → List Nd → Bool
  | [], [] => true
  | a :: l, b :: r => sameB a b && sameL l r
  | [], _ :: _ => false
  | _ :: _, [] => false
end
theorem sameL_all2 : ∀ l r : List Nd, sameL l r = all2 sameB l r
  | [], [] => rfl
  | a :: l, b :: r => by rw [sameL, all2, sameL_all2 l r]
  | [], _ :: _ => rfl
  | _ :: _, [] => rfl
theorem sameB_mk (n m : Nd) : sameB n m = (decide (n.name = m.name) && all2 sameP n.props m.props && all2 sameB n.kids m.kids) := by
  cases n
  rw [sameB, sameL_all2]
  rfl

/-- Two reserves are the same. -/
def sameR (p q : Int × Int) : Bool := decide (p.1 = q.1) && decide (p.2 = q.2)
/-- Two trees are the same. -/
def sameT (t u : Tr) : Bool := decide (t.boot = u.boot) && all2 sameR t.rs u.rs && sameB t.root u.root

end Go.Proofs.Ytfekjihjifimcaa

/-! Layer 5: what hangs on a tree without its addresses alone; how much what is read can be. -/
namespace Go.Proofs.Ytfekjihjifimcaa
open Go.RowKit
set_option linter.unusedVariables false
set_option linter.unusedSimpArgs false

/-- Two lists of nodes, pair by pair. -/
inductive Pairs (p : Nd → Nd → Prop) : List Nd → List Nd → Prop
  | nil : Pairs p [] []
  | cons {a b : Nd} {l r : List Nd} (h : p a b) (t : Pairs p l r) : Pairs p (a :: l) (b :: r)
theorem pairs_of {p : Nd → Nd → Prop} : ∀ (l r : List Nd), l.map pureN = r.map pureN → (∀ k ∈ l, ∀ m, pureN k = pureN m → p k m) → Pairs p l r
  | [], [], _, _ => .nil
  | [], _ :: _, h, _ => by simp at h
  | _ :: _, [], h, _ => by simp at h
  | a :: l, b :: r, h, hp => by
    rw [List.map_cons, List.map_cons, List.cons.injEq] at h
    exact .cons (hp a (by simp) b h.1) (pairs_of l r h.2 (fun k hk => hp k (by simp [hk])))
theorem pure_ind {p : Nd → Nd → Prop} (h : ∀ a b : Nd, a.name = b.name → a.props.map PV.pure = b.props.map PV.pure → a.kids.map pureN = b.kids.map pureN → Pairs p a.kids b.kids → p a b) : ∀ a b : Nd, pureN a = pureN b → p a b := by
  refine Nd.ind ?_
  intro a ih b hab
  rw [pureN_mk, pureN_mk, PN.mk.injEq] at hab
  exact h a b hab.1 hab.2.1 hab.2.2 (pairs_of _ _ hab.2.2 ih)
theorem pureN_name (n : Nd) : (pureN n).name = n.name := by rw [pureN_mk]; rfl

theorem names_pure (ps : List PV) : ps.map PV.name = (ps.map PV.pure).map Prod.fst := by rw [List.map_map]; rfl
theorem kidnames_pure (ks : List Nd) : ks.map Nd.name = (ks.map pureN).map PN.name := by
  rw [List.map_map]
  exact List.map_congr_left fun k _ => (pureN_name k).symm
theorem anyMis_pure (ps : List PV) : ps.any misP = (ps.map PV.pure).any fun x => !propB x.1 := by rw [List.any_map]; rfl
theorem toks_pure (L : List ByteArray) (ps : List PV) : ps.flatMap (propT L) = (ps.map PV.pure).flatMap fun x => propT L ⟨x.1, none, 0, x.2⟩ := by
  rw [List.flatMap_map]; rfl

theorem alone_pure {a b : Nd} (h1 : a.name = b.name) (h2 : a.props.map PV.pure = b.props.map PV.pure) (h3 : a.kids.map pureN = b.kids.map pureN) (d : Int) : aloneE a d = aloneE b d := by
  unfold aloneE nameOk
  rw [h1, anyMis_pure, anyMis_pure, h2, names_pure, names_pure, h2, kidnames_pure a.kids, h3, ← kidnames_pure]

theorem wrong_pure : ∀ a b : Nd, pureN a = pureN b → ∀ d, wrongN a d = wrongN b d := by
  refine pure_ind (p := fun a b => ∀ d, wrongN a d = wrongN b d) ?_
  intro a b h1 h2 h3 hk d
  have hl : ∀ (l r : List Nd), Pairs (fun a b => ∀ d, wrongN a d = wrongN b d) l r → ∀ d, wrongL l d = wrongL r d := by
    intro l r h
    induction h with
    | nil => intro d; rfl
    | cons h _ ih => intro d; rw [wrongL, wrongL, h d, ih d]
  rw [wrongN_mk, wrongN_mk, alone_pure h1 h2 h3, hl _ _ hk]
theorem nodesN_mk (n : Nd) : nodesN n = 1 + nodesL n.kids := by cases n; rw [nodesN]; rfl
theorem propsN_mk (n : Nd) : propsN n = n.props.length + propsL n.kids := by cases n; rw [propsN]; rfl
theorem nodeN_mk (L : List ByteArray) (n : Nd) : nodeN L n = [0, 0, 0, 1] ++ padL (strB n.name ++ [0]) ++ n.props.flatMap (propT L) ++ nodeL L n.kids ++ [0, 0, 0, 2] := by cases n; rw [nodeN]; rfl
theorem textsN_mk (n : Nd) (l : List ByteArray) : textsN n l = textsL n.kids ((n.props.map PV.name).foldl addT l) := by cases n; rw [textsN]; rfl
theorem heftN_mk (n : Nd) : heftN n = 16 + n.name.size + (n.props.map heftP).sum + heftL n.kids := by cases n; rw [heftN]; rfl
theorem count_pure : ∀ a b : Nd, pureN a = pureN b → nodesN a = nodesN b ∧ propsN a = propsN b := by
  refine pure_ind (p := fun a b => nodesN a = nodesN b ∧ propsN a = propsN b) ?_
  intro a b h1 h2 h3 hk
  have hl : ∀ (l r : List Nd), Pairs (fun a b => nodesN a = nodesN b ∧ propsN a = propsN b) l r → nodesL l = nodesL r ∧ propsL l = propsL r := by
    intro l r h
    induction h with
    | nil => exact ⟨rfl, rfl⟩
    | cons h _ ih => rw [nodesL, nodesL, propsL, propsL, h.1, h.2, ih.1, ih.2]; exact ⟨rfl, rfl⟩
  have e := congrArg List.length h2
  rw [List.length_map, List.length_map] at e
  rw [nodesN_mk, nodesN_mk, propsN_mk, propsN_mk, (hl _ _ hk).1, (hl _ _ hk).2, e]
  exact ⟨rfl, rfl⟩
theorem tokens_pure (L : List ByteArray) : ∀ a b : Nd, pureN a = pureN b → nodeN L a = nodeN L b := by
  refine pure_ind (p := fun a b => nodeN L a = nodeN L b) ?_
  intro a b h1 h2 h3 hk
  have hl : ∀ (l r : List Nd), Pairs (fun a b => nodeN L a = nodeN L b) l r → nodeL L l = nodeL L r := by
    intro l r h
    induction h with
    | nil => rfl
    | cons h _ ih => rw [nodeL, nodeL, h, ih]
  rw [nodeN_mk, nodeN_mk, h1, toks_pure, toks_pure, h2, hl _ _ hk]
theorem texts_pure : ∀ a b : Nd, pureN a = pureN b → ∀ l, textsN a l = textsN b l := by
  refine pure_ind (p := fun a b => ∀ l, textsN a l = textsN b l) ?_
  intro a b h1 h2 h3 hk l
  have hl : ∀ (l r : List Nd), Pairs (fun a b => ∀ l, textsN a l = textsN b l) l r → ∀ x, textsL l x = textsL r x := by
    intro l r h
    induction h with
    | nil => intro x; rfl
    | cons h _ ih => intro x; rw [textsL, textsL, h x, ih]
  rw [textsN_mk, textsN_mk, names_pure, names_pure, h2, hl _ _ hk]
theorem sameP_pure : ∀ (l r : List PV), l.map PV.pure = r.map PV.pure → all2 sameP l r = true
  | [], [], _ => rfl
  | [], _ :: _, h => by simp at h
  | _ :: _, [], h => by simp at h
  | a :: l, b :: r, h => by
    rw [List.map_cons, List.map_cons, List.cons.injEq] at h
    have h1 : a.name = b.name ∧ a.zs = b.zs := by simpa [PV.pure] using h.1
    rw [all2, sameP, decide_eq_true h1.1, decide_eq_true h1.2, sameP_pure l r h.2]
    rfl
theorem same_pure : ∀ a b : Nd, pureN a = pureN b → sameB a b = true := by
  refine pure_ind (p := fun a b => sameB a b = true) ?_
  intro a b h1 h2 h3 hk
  have hl : ∀ (l r : List Nd), Pairs (fun a b => sameB a b = true) l r → all2 sameB l r = true := by
    intro l r h
    induction h with
    | nil => rfl
    | cons h _ ih => rw [all2, h, ih]; rfl
  rw [sameB_mk, decide_eq_true h1, sameP_pure _ _ h2, hl _ _ hk]
  rfl

/-! ### Trees -/
theorem check_pure {t u : Tr} (hr : t.rs = u.rs) (h : pureN t.root = pureN u.root) : checkE t = checkE u := by
  unfold checkE manyE
  rw [wrong_pure _ _ h, (count_pure _ _ h).1, (count_pure _ _ h).2, hr]
theorem blob_pure {t u : Tr} (hb : t.boot = u.boot) (hr : t.rs = u.rs) (h : pureN t.root = pureN u.root) : blobT t = blobT u := by
  have e1 : textsT t = textsT u := texts_pure _ _ h []
  have e2 : structT t = structT u := by unfold structT; rw [e1, tokens_pure _ _ _ h]
  have e3 : reserveT t = reserveT u := by unfold reserveT; rw [hr]
  have e4 : headT t = headT u := by funext k; unfold headT; rw [e1, e2, e3, hb]
  unfold blobT
  rw [e1, e2, e3, e4]
theorem all2_refl {α : Type} {f : α → α → Bool} (hf : ∀ x, f x x = true) : ∀ l : List α, all2 f l l = true
  | [] => rfl
  | x :: l => by rw [all2, hf x, all2_refl hf l]; rfl
theorem sameT_pure {t u : Tr} (hb : t.boot = u.boot) (hr : t.rs = u.rs) (h : pureN t.root = pureN u.root) : sameT t u = true := by
  rw [sameT, decide_eq_true hb, hr, all2_refl (fun x => by simp [sameR]), same_pure _ _ h]
  rfl

/-! ### How much what is read can be -/
def massQ (x : ByteArray × List Int) : Nat := 12 + (x.2.length + padN x.2.length)
def nameM (s : ByteArray) : Nat := s.size + 1 + padN (s.size + 1)
mutual
/-- How many bytes the tokens of a node are. -/
def massP : PN → Nat
  | .mk nm ps ks => 8 + nameM nm + (ps.map massQ).sum + massK ks
def massK : List PN → Nat
  | [] => 0
  | k :: r => massP k + massK r
end
theorem massK_append : ∀ a b : List PN, massK (a ++ b) = massK a + massK b
  | [], b => by simp [massK]
  | x :: a, b => by simp only [List.cons_append, massK, massK_append a b]; omega
theorem sum_append_one {α : Type} (f : α → Nat) (l : List α) (x : α) : ((l ++ [x]).map f).sum = (l.map f).sum + f x := by simp
theorem mass_toks (L : List ByteArray) : ∀ n : Nd, (nodeN L n).length = massP (pureN n) := by
  refine Nd.ind ?_
  intro n ih
  have hp : ∀ ps : List PV, (ps.flatMap (propT L)).length = ((ps.map PV.pure).map massQ).sum := by
    intro ps
    induction ps with
    | nil => rfl
    | cons p r ih =>
      rw [List.flatMap_cons, List.length_append, ih, List.map_cons, List.map_cons, List.sum_cons]
      have e : massQ p.pure = 12 + (p.zs.length + padN p.zs.length) := rfl
      rw [e]
      simp only [propT, List.length_append, padL_length, four, List.length_cons, List.length_nil]
      omega
  have hl : ∀ (r : List Nd), (∀ k ∈ r, k ∈ n.kids) → (nodeL L r).length = massK (r.map pureN) := by
    intro r
    induction r with
    | nil => intro _; rfl
    | cons k r ihr =>
      intro hr
      rw [nodeL, List.length_append, ih k (hr k (by simp)), ihr (fun x hx => hr x (by simp [hx])), List.map_cons, massK]
  rw [nodeN_mk, pureN_mk, massP]
  simp only [List.length_append, padL_length, List.length_cons, List.length_nil, Nat.zero_add]
  rw [hp, hl _ (fun _ h => h), strB_length, nameM]
  omega

def massF (f : PF) : Nat := 4 + nameM f.name + (f.props.map massQ).sum + massK f.kids
def massS (st : PSt) : Nat := massF st.top + (st.below.map massF).sum
theorem strOf_size (s : List Int) : (strOfNums s).size = s.length := by
  show (strOfNums s).data.toList.length = s.length
  rw [strOfNums_data, List.length_map]
theorem padN_four {a b : Nat} (h : a % 4 = 0) : padN (a + b) = padN b := by unfold padN; omega
theorem mass_read {S T : List Int} {st st' : PSt} {tok : Int} (h4 : st.pos % 4 = 0) (h : readF S T st tok = .ok st') : massS st' + st.pos ≤ massS st + st'.pos ∧ st'.pos % 4 = 0 := by
  unfold readF at h
  split at h
  · unfold beginF at h
    split at h
    · cases h
    · split at h
      · cases h
      · rename_i s hs _ a ha
        have h1 := behind_some ha
        repeat' split at h
        all_goals first | (cases h; done) | skip
        simp only [Except.ok.injEq] at h
        subst h
        have e := padN_four (b := s.length + 1) (show (st.pos + 4) % 4 = 0 by omega)
        have e0 := padN_mod (st.pos + 4 + s.length + 1)
        rw [← Nat.add_assoc] at e
        simp only [massS, massF, PF.new, nameM, List.map_cons, List.map_nil, List.sum_cons, List.sum_nil, massK, strOf_size]
        refine ⟨?_, by omega⟩
        omega
  · split at h
    · unfold propF at h
      split at h
      · split at h
        · cases h
        · split at h
          · cases h
          · rename_i hz a ha
            have h1 := behind_some ha
            repeat' split at h
            all_goals first | (cases h; done) | skip
            rename_i hle _ _ _ _ _ _
            simp only [Except.ok.injEq] at h
            subst h
            generalize hk : (numTo S (st.pos + 4) 4).toNat = k at *
            have e := padN_four (b := k) (show (st.pos + 12) % 4 = 0 by omega)
            have e0 := padN_mod (st.pos + 12 + k)
            have hlen : ((S.drop (st.pos + 12)).take k).length = k := by
              rw [List.length_take, List.length_drop]; omega
            simp only [massS, massF, sum_append_one, massQ, hlen]
            refine ⟨?_, by omega⟩
            omega
      · cases h
    · split at h <;> simp only [Except.ok.injEq] at h <;> subst h
      · unfold leaveF skipF
        split
        · simp only [massS]; omega
        · rename_i f r hb
          simp only [massS, hb, List.map_cons, List.sum_cons, massF, massK_append, massK, PF.done, massP]
          omega
      · simp only [skipF, massS]; omega
theorem stand_last {b k : Nat} (h : standB b k 9 = true) : b = 0 ∧ k = 1 := by
  simpa [standB] using h
theorem mass_root {S T : List Int} : ∀ (f : Nat) (st : PSt) (pn : PN), st.pos % 4 = 0 → rootF S T f st = .ok pn → massP pn + st.pos ≤ massS st + S.length
  | 0, _, _, _, h => by cases h
  | f + 1, st, pn, h4, h => by
    rw [rootF] at h
    split at h
    · cases h
    · rename_i k hk
      by_cases hs : standB st.below.length st.top.kids.length k = false
      · rw [if_pos hs] at h; cases h
      rw [if_neg hs] at h
      split at h
      · cases h
      · rename_i st' hr
        have h1 := mass_read h4 hr
        by_cases h9 : k = 9
        · subst h9
          rw [if_pos rfl] at h
          by_cases hp : st'.pos = S.length
          · rw [if_pos hp] at h
            have e := Except.ok.inj h
            have hs' := stand_last (by simpa using hs)
            have er : st' = skipF st := by
              have : readF S T st 9 = .ok (skipF st) := by simp [readF]
              rw [this] at hr
              exact (Except.ok.inj hr).symm
            have ek : st'.top.kids.length = 1 := by rw [er]; exact hs'.2
            obtain ⟨x, hx⟩ := List.length_eq_one_iff.1 ek
            rw [hx] at e
            have e2 : x = pn := e
            have : massP x ≤ massS st' := by
              simp only [massS, massF, hx, massK]; omega
            rw [← e2]
            omega
          · rw [if_neg hp] at h; cases h
        · rw [if_neg h9] at h
          have := mass_root f st' pn h1.2 h
          omega
theorem mass_all {zs : List Int} {rs : List (Int × Int)} {pn : PN} (h : readAll zs = .ok (rs, pn)) : massP pn ≤ zs.length + 8 ∧ rs.length ≤ 64 := by
  unfold readAll at h
  split at h
  · cases h
  · rename_i rs' hr
    split at h
    · cases h
    · rename_i n hn
      have e := Except.ok.inj h
      simp only [Prod.mk.injEq] at e
      obtain ⟨rfl, rfl⟩ := e
      have h1 := mass_root _ _ _ (show start.pos % 4 = 0 from rfl) hn
      have h2 : massS start = 8 := by decide
      have h3 : start.pos = 0 := rfl
      have h4 : (partL zs (hcell zs 2).toNat (hcell zs 9).toNat).length ≤ zs.length := by
        rw [partL, List.length_take, List.length_drop]; omega
      have h5 : ∀ (f a : Nat) (l r : List (Int × Int)), resF zs f a l = .ok r → r.length ≤ 64 := by
        intro f
        induction f with
        | zero => intro a l r h; cases h
        | succ f ih =>
          intro a l r h
          unfold resF at h
          split at h
          · split at h
            · split at h
              · cases h
              · have := Except.ok.inj h
                subst this
                omega
            · exact ih _ _ r h
          · cases h
      exact ⟨by omega, h5 _ _ _ _ hr⟩
theorem prop_size {s : ByteArray} (h : propB s = true) : s.size ≤ 31 := by
  unfold propB madeB at h
  simp only [Bool.and_eq_true, decide_eq_true_eq] at h
  have : s.data.toList.length = s.size := rfl
  omega
/-- Of a formed node: how heavy it is, and its names, by how many bytes its tokens are. -/
theorem heft_mass : ∀ (n : Nd) (d : Int), wrongN n d = 0 → heftN n ≤ 4 * massP (pureN n) ∧ ∀ l, textSize (textsN n l) ≤ textSize l + 3 * massP (pureN n) := by
  refine Nd.ind (p := fun n => ∀ (d : Int), wrongN n d = 0 → heftN n ≤ 4 * massP (pureN n) ∧ ∀ l, textSize (textsN n l) ≤ textSize l + 3 * massP (pureN n)) ?_
  intro n ih d hw
  have F := formed_of hw
  have hp : ∀ ps : List PV, (∀ p ∈ ps, propB p.name = true) → (ps.map heftP).sum ≤ 4 * ((ps.map PV.pure).map massQ).sum ∧ ∀ l, textSize ((ps.map PV.name).foldl addT l) ≤ textSize l + 3 * ((ps.map PV.pure).map massQ).sum := by
    intro ps
    induction ps with
    | nil => intro _; exact ⟨by simp, fun l => by simp⟩
    | cons p r ihp =>
      intro hq
      obtain ⟨i1, i2⟩ := ihp (fun q h => hq q (by simp [h]))
      have hs := prop_size (hq p (by simp))
      have e : massQ p.pure = 12 + (p.zs.length + padN p.zs.length) := rfl
      have e2 : heftP p = 16 + p.name.size + p.zs.length := rfl
      simp only [List.map_cons, List.sum_cons, List.foldl_cons]
      refine ⟨by omega, fun l => ?_⟩
      have h1 := addT_size l p.name
      have h2 := i2 (addT l p.name)
      omega
  have hl : ∀ (r : List Nd), (∀ k ∈ r, k ∈ n.kids) → heftL r ≤ 4 * massK (r.map pureN) ∧ ∀ l, textSize (textsL r l) ≤ textSize l + 3 * massK (r.map pureN) := by
    intro r
    induction r with
    | nil => intro _; exact ⟨by simp [heftL], fun l => by simp [textsL]⟩
    | cons k r ihr =>
      intro hr
      obtain ⟨a1, a2⟩ := ih k (hr k (by simp)) _ (F.kids k (hr k (by simp)))
      obtain ⟨b1, b2⟩ := ihr (fun x hx => hr x (by simp [hx]))
      rw [List.map_cons, massK, heftL]
      refine ⟨by omega, fun l => ?_⟩
      rw [textsL]
      have h1 := a2 l
      have h2 := b2 (textsN k l)
      omega
  obtain ⟨p1, p2⟩ := hp n.props F.props
  obtain ⟨l1, l2⟩ := hl n.kids (fun _ h => h)
  rw [pureN_mk, massP, heftN_mk]
  have hn : n.name.size + 1 ≤ nameM n.name := by unfold nameM; omega
  refine ⟨by omega, fun l => ?_⟩
  rw [textsN_mk]
  have h1 := p2 l
  have h2 := l2 ((n.props.map PV.name).foldl addT l)
  omega
/-- What is read of few bytes has few. -/
theorem read_small {zs : List Int} {tr : Tr} (h : readAll zs = .ok (tr.rs, pureN tr.root)) (hc : checkE tr = 0) : heftN tr.root ≤ 4 * zs.length + 32 ∧ (blobT tr).length ≤ 4 * zs.length + 1200 := by
  obtain ⟨h1, h2⟩ := mass_all h
  obtain ⟨c1, _, _⟩ := check_zero hc
  obtain ⟨m1, m2⟩ := heft_mass _ _ c1
  have e := blob_length tr
  simp only [headT, List.getD_cons_zero, List.getD_cons_succ] at e
  have e1 : (reserveT tr).length = 16 * tr.rs.length + 16 := by simp [reserveT, resL_length]
  have e2 : (structT tr).length = massP (pureN tr.root) + 4 := by simp [structT, mass_toks]
  have e3 : (textB (textsT tr)).length ≤ 3 * massP (pureN tr.root) := by
    rw [textB_length]
    have := m2 []
    simp only [textSize] at this
    simpa [textsT] using this
  omega
end Go.Proofs.Ytfekjihjifimcaa

/-! Layer 3: the document's answer whether two nodes, and all below them, are the same. -/
namespace Go.Proofs.Ytfekjihjifimcaa
open Go.RowKit
set_option linter.unusedVariables false
set_option linter.unusedSimpArgs false
attribute [local go_sem ↓] Go.wp_at_zero Go.wp_at_succ

theorem below_drewN {B : Nat} {a w : World} (h : Below B a w) (n : Nat) : Below B a (w.drewN n) := ⟨h.os, h.tape, h.output, h.size, h.block⟩

set_option maxHeartbeats 4000000 in
theorem refsame_any : ∀ (n m : Nd) (w : World), n.In w w.heap.size → m.In w w.heap.size → ∀ r : Bool, sameB n m = r → Calls Try.prog 8 #[n.val, m.val] w fun e w' => e = .returned (.bool r) ∧ Below w.heap.size w w' := by
  refine Nd.ind ?_
  intro n ih m w hn hm r hr
  have HI := Lib.hid hn
  have HJ := Lib.hid hm
  have HR := Lib.hid ((sameB_mk n m).symm.trans hr)
  have IH := Lib.hid ih
  obtain ⟨hl1, hm1⟩ := hn.plen
  obtain ⟨hl2, hm2⟩ := hn.klen
  clear hn hm hr ih
  obtain ⟨nm, pa, pc, ps, ka, kc, ks⟩ := n
  obtain ⟨nm', pa', pc', ps', ka', kc', ks'⟩ := m
  replace hl1 : ps.length ≤ pc := hl1
  replace hm1 : pc ≤ 9223372036854775807 := hm1
  replace hl2 : ks.length ≤ kc := hl2
  replace hm2 : kc ≤ 9223372036854775807 := hm2
  replace HR : Hid ((decide (nm = nm') && all2 sameP ps ps' && all2 sameB ks ks') = r) := HR
  show Calls _ _ #[.agg #[.string nm, .slice pa ps.length pc, .slice ka ks.length kc], .agg #[.string nm', .slice pa' ps'.length pc', .slice ka' ks'.length kc']] _ _
  have HW := Lib.hid (((Below.refl w.heap.size w).alloc (Nat.le_refl _) (.cells #[Value.string nm, .slice pa ps.length pc, .slice ka ks.length kc] 25)).alloc (by simp) (.cells #[Value.string nm', .slice pa' ps'.length pc', .slice ka' ks'.length kc'] 25))
  by_cases hnm : nm = nm'
  · have hn1 : (nm.toList == nm'.toList) = true := by rw [str_eqb, decide_eq_true hnm]
    by_cases hlp : ps.length = ps'.length
    · have p1 : ((ps.length : Int) == (ps'.length : Int)) = true := by rw [hlp]; simp
      have p2 : ((ps.length : Int) != (ps'.length : Int)) = false := by rw [hlp]; simp
      have HLP := Lib.hid hlp
      clear hlp
      by_cases hlk : ks.length = ks'.length
      · have k1 : ((ks.length : Int) == (ks'.length : Int)) = true := by rw [hlk]; simp
        have k2 : ((ks.length : Int) != (ks'.length : Int)) = false := by rw [hlk]; simp
        have HR' : Hid ((all2 sameP ps ps' && all2 sameB ks ks') = r) := by
          have := HR.out
          rwa [decide_eq_true hnm, Bool.true_and] at this
        have HLK := Lib.hid hlk
        clear hnm hlk HR
        go_enter Try.func8, Try.ntmps8
        go_wp2_with fail
        go_loopw [33] (fun i wr => ∃ k : Nat, k ≤ ps.length ∧ i = .int .i64 k ∧ Even sameP ps ps' k ∧ Below (w.heap.size + 2) ((w.alloc (.cells #[Value.string nm, .slice pa ps.length pc, .slice ka ks.length kc] 25)).alloc (.cells #[Value.string nm', .slice pa' ps'.length pc', .slice ka' ks'.length kc'] 25)) wr) (fun i _ => ps.length - (intOf i).toNat)
        case atStart => exact ⟨0, Nat.zero_le _, rfl, Even.zero _ _ _, Below.refl _ _⟩
        case round =>
          obtain ⟨k, hk, rfl, hev, hb⟩ := hrel
          have HE := Lib.hid hev
          have HB0 := Lib.hid hb
          have HB := Lib.hid (HW.out.trans (hb.mono (by omega)))
          clear hev hb
          by_cases hlt : k < ps.length
          · have hlt' : k < ps'.length := by rw [← HLP.out]; exact hlt
            have HV := Lib.hid (((HI.out.prop (List.getElem_mem hlt)).keep (fun _ hp => HB.out.cell hp)).2.1)
            have HV' := Lib.hid (((HJ.out.prop (List.getElem_mem hlt')).keep (fun _ hp => HB.out.cell hp)).2.1)
            obtain ⟨b, o, e, hb, c0, c1⟩ := (HI.out.under HB.out).pcell (i := k) hlt
            obtain rfl : pa = _ := e
            replace c0 : _ = some (Value.string ps[k].name) := c0
            replace c1 : _ = some (Value.slice ps[k].addr ps[k].zs.length ps[k].cap) := c1
            obtain ⟨b', o', e', hb', d0, d1⟩ := (HJ.out.under HB.out).pcell (i := k) hlt'
            obtain rfl : pa' = _ := e'
            replace d0 : _ = some (Value.string ps'[k].name) := d0
            replace d1 : _ = some (Value.slice ps'[k].addr ps'[k].zs.length ps'[k].cap) := d1
            have x1 : wr.cell? ⟨w.heap.size, 1, none⟩ = some (.slice (some ⟨b, o, none⟩) ps.length pc) := (HB0.out.cell (by simp)).trans (World.cell?_alloc2_first _ _ _ _)
            have y1 : wr.cell? ⟨w.heap.size + 1, 1, none⟩ = some (.slice (some ⟨b', o', none⟩) ps'.length pc') := (HB0.out.cell (by simp)).trans (World.cell?_alloc2_new _ _ _ _)
            by_cases hpn : ps[k].name = ps'[k].name
            · have hpn1 : (ps[k].name.toList == ps'[k].name.toList) = true := by rw [str_eqb, decide_eq_true hpn]
              have f1 : ∀ j, (convert 30 9 (.slice ps[k].addr ps[k].zs.length ps[k].cap)).run Try.prog (wr.drewN j) = .ok (.string (strOfNums ps[k].zs)) (wr.drewN j) := fun j => run_string (HV.out.drewN j) _
              have f2 : ∀ j, (convert 30 9 (.slice ps'[k].addr ps'[k].zs.length ps'[k].cap)).run Try.prog (wr.drewN j) = .ok (.string (strOfNums ps'[k].zs)) (wr.drewN j) := fun j => run_string (HV'.out.drewN j) _
              obtain ⟨q, hq⟩ : ∃ q, ((strOfNums ps[k].zs).toList == (strOfNums ps'[k].zs).toList) = q := ⟨_, rfl⟩
              have HQ : Hid (sameP ps[k] ps'[k] = q) := by
                show sameP _ _ = _
                rw [← hq, sameP, decide_eq_true hpn, Bool.true_and, str_eqz HV.out.2.1 HV'.out.2.1]
              clear hpn
              cases q
              · obtain rfl : r = false := by rw [← HR'.out, all2_bad k hlt hlt' HQ.out]; rfl
                go_wp2_with fail
                go_quiet (fail)
                go_wp2
                go_ret
                exact ⟨rfl, below_drewN HB.out _⟩
              · go_wp2_with fail
                go_quiet (fail)
                go_wp2
                go_roundw
                case rel => exact ⟨k + 1, by omega, by go_num, HE.out.succ hlt hlt' HQ.out, below_drewN HB0.out _⟩
                case measure => simp [intOf]; omega
            · have hpn1 : (ps[k].name.toList == ps'[k].name.toList) = false := by rw [str_eqb, decide_eq_false hpn]
              obtain rfl : r = false := by rw [← HR'.out, all2_bad k hlt hlt' (by rw [sameP, decide_eq_false hpn]; rfl)]; rfl
              clear hpn
              go_wp2_with fail
              go_quiet (fail)
              go_wp2
              go_ret
              exact ⟨rfl, below_drewN HB.out _⟩
          · have HT : Hid (all2 sameB ks ks' = r) := by
              have := HR'.out
              rw [HE.out.all HLP.out hlt, Bool.true_and] at this
              exact this
            have x2 : wr.cell? ⟨w.heap.size, 2, none⟩ = some (.slice ka ks.length kc) := (HB0.out.cell (by simp)).trans (World.cell?_alloc2_first _ _ _ _)
            go_wp2_with fail
            clear x2
            go_loopw [70] (fun i wr => ∃ k : Nat, k ≤ ks.length ∧ i = .int .i64 k ∧ Even sameB ks ks' k ∧ Below (w.heap.size + 2) ((w.alloc (.cells #[Value.string nm, .slice pa ps.length pc, .slice ka ks.length kc] 25)).alloc (.cells #[Value.string nm', .slice pa' ps'.length pc', .slice ka' ks'.length kc'] 25)) wr) (fun i _ => ks.length - (intOf i).toNat)
            case atStart => exact ⟨0, Nat.zero_le _, rfl, Even.zero _ _ _, HB0.out⟩
            case round =>
              clear HE HB0 HB
              obtain ⟨k, hk, rfl, hev, hb⟩ := hrel
              have HE := Lib.hid hev
              have HB0 := Lib.hid hb
              have HB := Lib.hid (HW.out.trans (hb.mono (by omega)))
              clear hev hb
              by_cases hlt : k < ks.length
              · have hlt' : k < ks'.length := by rw [← HLK.out]; exact hlt
                obtain ⟨b, o, e, hb, c0, c1, c2⟩ := (HI.out.under HB.out).kcell (i := k) hlt
                obtain rfl : ka = _ := e
                replace c0 : _ = some (Value.string ks[k].name) := c0
                replace c1 : _ = some (Value.slice ks[k].pa ks[k].props.length ks[k].pc) := c1
                replace c2 : _ = some (Value.slice ks[k].ka ks[k].kids.length ks[k].kc) := c2
                obtain ⟨b', o', e', hb', d0, d1, d2⟩ := (HJ.out.under HB.out).kcell (i := k) hlt'
                obtain rfl : ka' = _ := e'
                replace d0 : _ = some (Value.string ks'[k].name) := d0
                replace d1 : _ = some (Value.slice ks'[k].pa ks'[k].props.length ks'[k].pc) := d1
                replace d2 : _ = some (Value.slice ks'[k].ka ks'[k].kids.length ks'[k].kc) := d2
                have x2 : wr.cell? ⟨w.heap.size, 2, none⟩ = some (.slice (some ⟨b, o, none⟩) ks.length kc) := (HB0.out.cell (by simp)).trans (World.cell?_alloc2_first _ _ _ _)
                have y2 : wr.cell? ⟨w.heap.size + 1, 2, none⟩ = some (.slice (some ⟨b', o', none⟩) ks'.length kc') := (HB0.out.cell (by simp)).trans (World.cell?_alloc2_new _ _ _ _)
                obtain ⟨q, hq⟩ : ∃ q, sameB ks[k] ks'[k] = q := ⟨_, rfl⟩
                have C := Lib.hid (IH.out ks[k] (List.getElem_mem hlt) ks'[k] wr.drew (((HI.out.kid (List.getElem_mem hlt)).under HB.out.drew).more HB.out.size) (((HJ.out.kid (List.getElem_mem hlt')).under HB.out.drew).more HB.out.size) q hq)
                have HQ := Lib.hid hq
                clear hq
                go_wp2_with fail
                refine wp_region_held_drew (S := fun W => W.cell? ⟨w.heap.size, 2, none⟩ = some (.slice (some ⟨b, o, none⟩) ks.length kc) ∧ W.cell? ⟨w.heap.size + 1, 2, none⟩ = some (.slice (some ⟨b', o', none⟩) ks'.length kc') ∧ W.cell? ⟨b, o + k * 3, none⟩ = some (.string ks[k].name) ∧ W.cell? ⟨b, o + k * 3 + 1, none⟩ = some (.slice ks[k].pa ks[k].props.length ks[k].pc) ∧ W.cell? ⟨b, o + k * 3 + 2, none⟩ = some (.slice ks[k].ka ks[k].kids.length ks[k].kc) ∧ W.cell? ⟨b', o' + k * 3, none⟩ = some (.string ks'[k].name) ∧ W.cell? ⟨b', o' + k * 3 + 1, none⟩ = some (.slice ks'[k].pa ks'[k].props.length ks'[k].pc) ∧ W.cell? ⟨b', o' + k * 3 + 2, none⟩ = some (.slice ks'[k].ka ks'[k].kids.length ks'[k].kc)) (by kernel_rfl) ⟨x2, y2, c0, c1, c2, d0, d1, d2⟩ (fun hHeld => ?_)
                refine held_take 0 rfl (by kernel_rfl) (by kernel_rfl) (by kernel_rfl) (fun _ _ _ h => h) (by rfl) hHeld (v := ?_) (fun w hSw => ?_) (fun _ => ?_)
                rotate_left
                · ((try dsimp only at hSw); go_simp; (try with_reducible rfl))
                simp only [Act.put, List.setIfInBounds_toArray, List.set_cons_zero, List.set_cons_succ]
                refine held_take 1 rfl (by kernel_rfl) (by kernel_rfl) (by kernel_rfl) (fun _ _ _ h => h) (by rfl) hHeld (v := ?_) (fun w hSw => ?_) (fun _ => ?_)
                rotate_left
                · ((try dsimp only at hSw); go_simp; (try with_reducible rfl))
                simp only [Act.put, List.setIfInBounds_toArray, List.set_cons_zero, List.set_cons_succ]
                refine held_take 2 rfl (by kernel_rfl) (by kernel_rfl) (by kernel_rfl) (fun _ _ _ h => h) (by rfl) hHeld (v := ?_) (fun w hSw => ?_) (fun _ => ?_)
                rotate_left
                · ((try dsimp only at hSw); go_simp; (try with_reducible rfl))
                simp only [Act.put, List.setIfInBounds_toArray, List.set_cons_zero, List.set_cons_succ]
                refine held_take 3 rfl (by kernel_rfl) (by kernel_rfl) (by kernel_rfl) (fun _ _ _ h => h) (by rfl) hHeld (v := ?_) (fun w hSw => ?_) (fun _ => ?_)
                rotate_left
                · ((try dsimp only at hSw); go_simp; (try with_reducible rfl))
                simp only [Act.put, List.setIfInBounds_toArray, List.set_cons_zero, List.set_cons_succ]
                refine held_take 4 rfl (by kernel_rfl) (by kernel_rfl) (by kernel_rfl) (fun _ _ _ h => h) (by rfl) hHeld (v := ?_) (fun w hSw => ?_) (fun _ => ?_)
                rotate_left
                · ((try dsimp only at hSw); go_simp; (try with_reducible rfl))
                simp only [Act.put, List.setIfInBounds_toArray, List.set_cons_zero, List.set_cons_succ]
                refine held_take 5 rfl (by kernel_rfl) (by kernel_rfl) (by kernel_rfl) (fun _ _ _ h => h) (by rfl) hHeld (v := ?_) (fun w hSw => ?_) (fun _ => ?_)
                rotate_left
                · ((try dsimp only at hSw); go_simp; (try with_reducible rfl))
                simp only [Act.put, List.setIfInBounds_toArray, List.set_cons_zero, List.set_cons_succ]
                refine held_take 6 rfl (by kernel_rfl) (by kernel_rfl) (by kernel_rfl) (fun _ _ _ h => h) (by rfl) hHeld (v := ?_) (fun w hSw => ?_) (fun _ => ?_)
                rotate_left
                · ((try dsimp only at hSw); go_simp; (try with_reducible rfl))
                simp only [Act.put, List.setIfInBounds_toArray, List.set_cons_zero, List.set_cons_succ]
                refine held_take 7 rfl (by kernel_rfl) (by kernel_rfl) (by kernel_rfl) (fun _ _ _ h => h) (by rfl) hHeld (v := ?_) (fun w hSw => ?_) (fun _ => ?_)
                rotate_left
                · ((try dsimp only at hSw); go_simp; (try with_reducible rfl))
                simp only [Act.put, List.setIfInBounds_toArray, List.set_cons_zero, List.set_cons_succ]
                refine held_take 8 rfl (by kernel_rfl) (by kernel_rfl) (by kernel_rfl) (fun _ _ _ h => h) (by rfl) hHeld (v := ?_) (fun w hSw => ?_) (fun _ => ?_)
                rotate_left
                · ((try dsimp only at hSw); go_simp; (try with_reducible rfl))
                simp only [Act.put, List.setIfInBounds_toArray, List.set_cons_zero, List.set_cons_succ]
                refine held_take 9 rfl (by kernel_rfl) (by kernel_rfl) (by kernel_rfl) (fun _ _ _ h => h) (by rfl) hHeld (v := ?_) (fun w hSw => ?_) (fun _ => ?_)
                rotate_left
                · ((try dsimp only at hSw); go_simp; (try with_reducible rfl))
                simp only [Act.put, List.setIfInBounds_toArray, List.set_cons_zero, List.set_cons_succ]
                refine held_call 10 (by kernel_rfl) rfl (by rfl) (fun K hK => ?_)
                go_simp
                refine C.out.mono ?_
                rintro e w4 ⟨rfl, hb4⟩
                have ko : ∀ {a : Addr} {v : Value}, wr.cell? a = some v → w4.cell? a = some v := fun {a v} h => (hb4.cell (p := a) (World.block_lt_of_cell? wr _ h)).trans h
                dsimp only
                refine hK.out _ _ ⟨ko x2, ko y2, ko c0, ko c1, ko c2, ko d0, ko d1, ko d2⟩ (fun hHeld => ?_)
                clear hK K
                refine held_take 11 rfl (by kernel_rfl) (by kernel_rfl) (by kernel_rfl) (fun _ _ _ h => h) (by rfl) hHeld (v := ?_) (fun w hSw => ?_) (fun _ => ?_)
                rotate_left
                · ((try dsimp only at hSw); go_simp; (try with_reducible rfl))
                simp only [Act.put, List.setIfInBounds_toArray, List.set_cons_zero, List.set_cons_succ]
                refine wpAnyH_done (by kernel_rfl) ?_ _
                clear hHeld x2 y2 c0 c1 c2 d0 d1 d2 ko
                have HB3 := Lib.hid (HB0.out.trans (Below.trans (Below.drew (Below.refl _ wr)) (hb4.mono (by have := HB0.out.size; simpa using this))))
                clear hb4
                cases q
                · obtain rfl : r = false := by rw [← HT.out]; exact all2_bad k hlt hlt' HQ.out
                  go_wp2
                  go_ret
                  exact ⟨rfl, HW.out.trans (HB3.out.mono (by omega))⟩
                · go_wp2
                  go_roundw
                  case rel => exact ⟨k + 1, by omega, by go_num, HE.out.succ hlt hlt' HQ.out, HB3.out⟩
                  case measure => simp [intOf]; omega
              · obtain rfl : r = true := by rw [← HT.out]; exact HE.out.all HLK.out hlt
                go_wp2
                go_ret
                exact ⟨rfl, HB.out⟩
      · obtain rfl : r = false := by rw [← HR.out, all2_lens hlk, Bool.and_false]
        have k1 : ((ks.length : Int) == (ks'.length : Int)) = false := by rw [beq_eq_false_iff_ne]; omega
        have k2 : ((ks.length : Int) != (ks'.length : Int)) = true := by rw [bne, k1]; rfl
        clear hnm
        go_enter Try.func8, Try.ntmps8
        go_wp2
        go_ret
        exact ⟨rfl, HW.out⟩
    · obtain rfl : r = false := by rw [← HR.out, all2_lens hlp, Bool.and_false]; rfl
      have k1 : ((ps.length : Int) == (ps'.length : Int)) = false := by rw [beq_eq_false_iff_ne]; omega
      have k2 : ((ps.length : Int) != (ps'.length : Int)) = true := by rw [bne, k1]; rfl
      clear hnm
      go_enter Try.func8, Try.ntmps8
      go_wp2
      go_ret
      exact ⟨rfl, HW.out⟩
  · have hn1 : (nm.toList == nm'.toList) = false := by rw [str_eqb, decide_eq_false hnm]
    obtain rfl : r = false := by rw [← HR.out, decide_eq_false hnm]; rfl
    clear hnm
    go_enter Try.func8, Try.ntmps8
    go_wp2
    go_ret
    exact ⟨rfl, HW.out⟩
end Go.Proofs.Ytfekjihjifimcaa
