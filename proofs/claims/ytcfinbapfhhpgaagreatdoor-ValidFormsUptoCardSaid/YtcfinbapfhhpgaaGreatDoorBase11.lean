/-
  Base, part 11.
-/
import Derived.Test.YtcfinbapfhhpgaaGreatDoorBase1
import Derived.LaidEql
import Derived.Stop.Asserts
import Derived.RowKitTokens
import Derived.WalkKit
import Derived.Test.YtcfinbapfhhpgaaGreatDoorRows
import Derived.Test.YtcfinbapfhhpgaaGreatDoorBase4
namespace Go.Proofs.YtcfinbapfhhpgaaGreatDoor
open Go.RowKit
set_option linter.unusedVariables false
set_option linter.unusedSimpArgs false
set_option maxRecDepth 20000
set_option maxHeartbeats 16000000
section
open Go.RowKit Go.Extern.Stop Go.Stop Go.Extern
theorem qmc_ (t : Addr) (w : World) : (ReflectliteValue.unpack (.iface 62 (.pointer (some t)))).run Tryz.prog w = .ok (.agg #[.pointer (some ⟨2, 62, none⟩), .pointer (some ⟨w.heap.size, 0, none⟩), .int .u64 150]) (w.alloc (.cells #[.pointer (some t)] 62)) := by kernel_rfl
theorem as_typeE (a : Addr) (w : World) : (ReflectliteValue.methodAny (ReflectliteValue.valueError "reflectlite.Value.Type" 0) (fun t _ _ _ => ReflectliteType.toType t) #[.agg #[.pointer (some ⟨2, 62, none⟩), .pointer (some a), .int .u64 150]]).run Tryz.prog w = .ok (.iface 136 (.agg #[.pointer (some ⟨2, 62, none⟩)])) w := by kernel_rfl
theorem as_kindPE (w : World) : ((ReflectliteType.abiMethod fun t => (fun a : Nat => Value.int IntKind.u8 (a : Int)) <$> Rtype.kind t) #[.pointer (some ⟨2, 62, none⟩)]).run Tryz.prog w = .ok (.int .u8 22) w := by kernel_rfl
theorem as_kindE (w : World) : ((ReflectliteType.abiMethod fun t => (fun a : Nat => Value.int IntKind.u8 (a : Int)) <$> Rtype.kind t) #[.pointer (some ⟨2, 32, none⟩)]).run Tryz.prog w = .ok (.int .u8 2) w := by kernel_rfl
theorem as_elemE (w : World) : (ReflectliteType.method ReflectliteType.elem #[.agg #[.pointer (some ⟨2, 62, none⟩)]]).run Tryz.prog w = .ok (.iface 136 (.agg #[.pointer (some ⟨2, 32, none⟩)])) w := by kernel_rfl
theorem as_implE (w : World) : (ReflectliteType.relation "Implements" ReflectliteType.implements_ #[.agg #[.pointer (some ⟨2, 32, none⟩)], .iface 136 (.agg #[.pointer (some ⟨2, 41, none⟩)])]).run Tryz.prog w = .ok (.bool true) w := by kernel_rfl
theorem qlc_ (a : Addr) (w : World) : (ReflectliteValue.parts (.agg #[.pointer (some ⟨2, 62, none⟩), .pointer (some a), .int .u64 150])).run Tryz.prog w = .ok (some (62, a, 150)) w := by kernel_rfl
theorem qmu_ (w : World) : (Rtype.elem? 62).run Tryz.prog w = .ok (some 32) w := by kernel_rfl
theorem qly_ (t : Addr) (w : World) : (ReflectliteValue.unpack (.iface 103 (.pointer (some t)))).run Tryz.prog w = .ok (.agg #[.pointer (some ⟨2, 103, none⟩), .pointer (some ⟨w.heap.size, 0, none⟩), .int .u64 150]) (w.alloc (.cells #[.pointer (some t)] 103)) := by kernel_rfl
theorem as_typeJ (a : Addr) (w : World) : (ReflectliteValue.methodAny (ReflectliteValue.valueError "reflectlite.Value.Type" 0) (fun t _ _ _ => ReflectliteType.toType t) #[.agg #[.pointer (some ⟨2, 103, none⟩), .pointer (some a), .int .u64 150]]).run Tryz.prog w = .ok (.iface 136 (.agg #[.pointer (some ⟨2, 103, none⟩)])) w := by kernel_rfl
theorem as_kindPJ (w : World) : ((ReflectliteType.abiMethod fun t => (fun a : Nat => Value.int IntKind.u8 (a : Int)) <$> Rtype.kind t) #[.pointer (some ⟨2, 103, none⟩)]).run Tryz.prog w = .ok (.int .u8 22) w := by kernel_rfl
theorem as_kindJ (w : World) : ((ReflectliteType.abiMethod fun t => (fun a : Nat => Value.int IntKind.u8 (a : Int)) <$> Rtype.kind t) #[.pointer (some ⟨2, 102, none⟩)]).run Tryz.prog w = .ok (.int .u8 20) w := by kernel_rfl
theorem as_elemJ (w : World) : (ReflectliteType.method ReflectliteType.elem #[.agg #[.pointer (some ⟨2, 103, none⟩)]]).run Tryz.prog w = .ok (.iface 136 (.agg #[.pointer (some ⟨2, 102, none⟩)])) w := by kernel_rfl
theorem as_partsJ (a : Addr) (w : World) : (ReflectliteValue.parts (.agg #[.pointer (some ⟨2, 103, none⟩), .pointer (some a), .int .u64 150])).run Tryz.prog w = .ok (some (103, a, 150)) w := by kernel_rfl
theorem qmg_ (t : Addr) (w : World) : (ReflectliteValue.unpack (.iface 66 (.pointer (some t)))).run Tryz.prog w = .ok (.agg #[.pointer (some ⟨2, 66, none⟩), .pointer (some ⟨w.heap.size, 0, none⟩), .int .u64 150]) (w.alloc (.cells #[.pointer (some t)] 66)) := by kernel_rfl
theorem as_typeF (a : Addr) (w : World) : (ReflectliteValue.methodAny (ReflectliteValue.valueError "reflectlite.Value.Type" 0) (fun t _ _ _ => ReflectliteType.toType t) #[.agg #[.pointer (some ⟨2, 66, none⟩), .pointer (some a), .int .u64 150]]).run Tryz.prog w = .ok (.iface 136 (.agg #[.pointer (some ⟨2, 66, none⟩)])) w := by kernel_rfl
theorem as_kindPF (w : World) : ((ReflectliteType.abiMethod fun t => (fun a : Nat => Value.int IntKind.u8 (a : Int)) <$> Rtype.kind t) #[.pointer (some ⟨2, 66, none⟩)]).run Tryz.prog w = .ok (.int .u8 22) w := by kernel_rfl
theorem as_kindF (w : World) : ((ReflectliteType.abiMethod fun t => (fun a : Nat => Value.int IntKind.u8 (a : Int)) <$> Rtype.kind t) #[.pointer (some ⟨2, 64, none⟩)]).run Tryz.prog w = .ok (.int .u8 25) w := by kernel_rfl
theorem as_elemF (w : World) : (ReflectliteType.method ReflectliteType.elem #[.agg #[.pointer (some ⟨2, 66, none⟩)]]).run Tryz.prog w = .ok (.iface 136 (.agg #[.pointer (some ⟨2, 64, none⟩)])) w := by kernel_rfl
theorem as_implF (w : World) : (ReflectliteType.relation "Implements" ReflectliteType.implements_ #[.agg #[.pointer (some ⟨2, 64, none⟩)], .iface 136 (.agg #[.pointer (some ⟨2, 41, none⟩)])]).run Tryz.prog w = .ok (.bool true) w := by kernel_rfl
theorem qk1_ (a : Addr) (w : World) : (ReflectliteValue.parts (.agg #[.pointer (some ⟨2, 66, none⟩), .pointer (some a), .int .u64 150])).run Tryz.prog w = .ok (some (66, a, 150)) w := by kernel_rfl
theorem qm1_ (w : World) : (Rtype.elem? 66).run Tryz.prog w = .ok (some 64) w := by kernel_rfl
theorem qda_ (v : Value) (w : World) : (ReflectliteType.typeOf #[.iface 32 v]).run Tryz.prog w = .ok (.iface 136 (.agg #[.pointer (some ⟨2, 32, none⟩)])) w := by kernel_rfl
theorem qgv_ (w : World) : (ReflectliteType.relation "AssignableTo" ReflectliteType.assignableTo #[.agg #[.pointer (some ⟨2, 32, none⟩)], .iface 136 (.agg #[.pointer (some ⟨2, 32, none⟩)])]).run Tryz.prog w = .ok (.bool true) w := by kernel_rfl
theorem ql1_ (w : World) : (ReflectliteType.relation "AssignableTo" ReflectliteType.assignableTo #[.agg #[.pointer (some ⟨2, 32, none⟩)], .iface 136 (.agg #[.pointer (some ⟨2, 64, none⟩)])]).run Tryz.prog w = .ok (.bool false) w := by kernel_rfl
theorem qkh_ (v : Value) (xT : TypeId) (w : World) : (Instr.typeAssert (.iface 32 v) xT 141 true).run Tryz.prog w = .ok (.tuple #[.nilIface, .bool false]) w := run_typeAssert_lacksB Tryz.underlying141 (by kernel_rfl) (by kernel_rfl) v xT w
theorem qfr_ (v : Value) (w : World) : (ReflectliteType.typeOf #[.iface 64 v]).run Tryz.prog w = .ok (.iface 136 (.agg #[.pointer (some ⟨2, 64, none⟩)])) w := by kernel_rfl
theorem qlw_ (w : World) : (ReflectliteType.relation "AssignableTo" ReflectliteType.assignableTo #[.agg #[.pointer (some ⟨2, 64, none⟩)], .iface 136 (.agg #[.pointer (some ⟨2, 32, none⟩)])]).run Tryz.prog w = .ok (.bool false) w := by kernel_rfl
theorem qma_ (w : World) : (ReflectliteType.relation "AssignableTo" ReflectliteType.assignableTo #[.agg #[.pointer (some ⟨2, 64, none⟩)], .iface 136 (.agg #[.pointer (some ⟨2, 64, none⟩)])]).run Tryz.prog w = .ok (.bool true) w := by kernel_rfl
theorem qpp_ (v : Value) (xT : TypeId) (w : World) : (Instr.typeAssert (.iface 64 v) xT 141 true).run Tryz.prog w = .ok (.tuple #[.nilIface, .bool false]) w := run_typeAssert_lacksB Tryz.underlying141 (by kernel_rfl) (by kernel_rfl) v xT w
theorem qj5_ (v : Value) (xT : TypeId) (w : World) : (Instr.typeAssert (.iface 32 v) xT 144 true).run Tryz.prog w = .ok (.tuple #[.nilIface, .bool false]) w := run_typeAssert_lacksB Tryz.underlying144 (by kernel_rfl) (by kernel_rfl) v xT w
theorem qht_ (v : Value) (xT : TypeId) (w : World) : (Instr.typeAssert (.iface 32 v) xT 102 true).run Tryz.prog w = .ok (.tuple #[.nilIface, .bool false]) w := run_typeAssert_lacksB Tryz.underlying102 (by kernel_rfl) (by kernel_rfl) v xT w
theorem as_unF (v : Value) (xT : TypeId) (w : World) : (Instr.typeAssert (.iface 64 v) xT 144 true).run Tryz.prog w = .ok (.tuple #[.iface 64 v, .bool true]) w := run_typeAssert_hasB Tryz.underlying144 (by kernel_rfl) v xT w
theorem as_valE (e : Int) (w : World) : (ReflectliteValue.unpack (.iface 32 (.int .i64 e))).run Tryz.prog w = .ok (.agg #[.pointer (some ⟨2, 32, none⟩), .pointer (some ⟨w.heap.size, 0, none⟩), .int .u64 130]) (w.alloc (.cells #[.int .i64 e] 32)) := by kernel_rfl
theorem as_valF (s : ByteArray) (v : Value) (w : World) : (ReflectliteValue.unpack (.iface 64 (.agg #[.string s, v]))).run Tryz.prog w = .ok (.agg #[.pointer (some ⟨2, 64, none⟩), .pointer (some ⟨w.heap.size, 0, none⟩), .int .u64 153]) (w.alloc (.cells #[.string s, v] 64)) := by kernel_rfl
end
section
open Go.RowKit Go.Extern.Stop Go.Stop Go.Extern
set_option maxRecDepth 20000
theorem rl_rel (f : TypeId -> TypeId -> Sem Bool) (r u : Value) (T : TypeId) : ReflectliteType.relation "AssignableTo" f #[r, .iface T u] = (do pure (.bool (<- f (<- ReflectliteType.ofRtype u) (<- ReflectliteType.ofRtype r)))) := rfl
theorem nm_of {d : TypeDesc} {u : TypeId} (h : (match d with | .named _ u => some u | _ => none) = some u) : ∃ n, d = .named n u := by
 cases d <;> simp at h
 exact ⟨_, by rw [h]⟩
theorem qd0_ {i j : TypeInfo} {T u : TypeId} {w : World} (h : Tryz.prog.info? T = some i) (hd : (match i.desc with | .named _ u => some u | _ => none) = some u) (hu : Tryz.prog.info? u = some j) : (Rtype.under T).run Tryz.prog w = .ok (u, j) w := by
 obtain ⟨n, hn⟩ := nm_of hd
 unfold Rtype.under
 simp only [Sem.run_bind, run_typeInfo _ h, Result.andThen, hn, run_typeInfo _ hu]
 rfl
theorem qdx_ {i : TypeInfo} {T : TypeId} {w : World} {want : Array (String × TypeId)} (h : Tryz.prog.info? T = some i) (hd : i.desc = .interface want) : (Rtype.under T).run Tryz.prog w = .ok (T, i) w := by
 unfold Rtype.under
 simp only [Sem.run_bind, run_typeInfo _ h, Result.andThen, hd]
 rfl
noncomputable def wantJ : Array (String × TypeId) := ((Tryz.prog.info? 102).bind fun i => match i.desc with | .interface w => some w | _ => none).getD #[]
theorem rl_implE (w : World) : (Rtype.implements 102 32).run Tryz.prog w = .ok false w := by
 have h1 : (Rtype.noPackMethods "a method set held against an interface's list" 32).run Tryz.prog w = .ok () w := by kernel_rfl
 have h2 : (Rtype.noPackMethods "a method set held against an interface's list" 102).run Tryz.prog w = .ok () w := by kernel_rfl
 obtain ⟨i, hi, hd⟩ := Option.map_eq_some_iff.1 (show (Tryz.prog.info? 102).map (·.desc) = some (.interface wantJ) by kernel_rfl)
 obtain ⟨j, hj, he⟩ := Option.map_eq_some_iff.1 (show (Tryz.prog.info? 32).map (fun i => ((match i.desc with | .named _ u => some u | _ => none), (lacking wantJ i.methods).isEmpty)) = some (some 3, false) by kernel_rfl)
 obtain ⟨k, hk, hf⟩ := Option.map_eq_some_iff.1 (show (Tryz.prog.info? 3).map (fun i => match i.desc with | .interface _ => true | _ => false) = some false by kernel_rfl)
 simp only [Prod.mk.injEq] at he
 have hl : lacking wantJ j.methods ≠ [] := fun e => by
  have h5 := he.2
  rw [e] at h5
  cases h5
 obtain ⟨m, hm⟩ := missingMethod_some hl
 unfold Rtype.implements
 simp only [Sem.run_bind, h1, h2, Result.andThen, qdx_ hi hd, qd0_ hj he.1 hk]
 have hx : ∀ want, k.desc ≠ .interface want := fun want e => by
  rw [e] at hf
  cases hf
 simp only [hd]
 simp only [Sem.run_bind, run_typeInfo _ hj, Result.andThen, hm]
 rfl
theorem qhe_ (w : World) : (ReflectliteType.relation "AssignableTo" ReflectliteType.assignableTo #[.agg #[.pointer (some ⟨2, 32, none⟩)], .iface 136 (.agg #[.pointer (some ⟨2, 102, none⟩)])]).run Tryz.prog w = .ok (.bool false) w := by
 have h1 : (ReflectliteType.ofRtype (.agg #[.pointer (some ⟨2, 102, none⟩)])).run Tryz.prog w = .ok 102 w := by kernel_rfl
 have h2 : (ReflectliteType.ofRtype (.agg #[.pointer (some ⟨2, 32, none⟩)])).run Tryz.prog w = .ok 32 w := by kernel_rfl
 have h3 : (Rtype.noPackMethods "AssignableTo" 32).run Tryz.prog w = .ok () w := by kernel_rfl
 have h4 : (Rtype.noPackMethods "AssignableTo" 102).run Tryz.prog w = .ok () w := by kernel_rfl
 have h5 : (Rtype.directlyAssignable 102 32).run Tryz.prog w = .ok false w := by kernel_rfl
 have h6 := rl_implE w
 rw [rl_rel]
 simp only [Sem.run_bind, h1, h2, Result.andThen]
 unfold ReflectliteType.assignableTo
 rw [if_pos (by kernel_rfl)]
 simp only [Sem.run_bind, h3, h4, h5, h6, Result.andThen]
 rfl
theorem rl_implF (w : World) : (Rtype.implements 102 64).run Tryz.prog w = .ok false w := by
 have h1 : (Rtype.noPackMethods "a method set held against an interface's list" 64).run Tryz.prog w = .ok () w := by kernel_rfl
 have h2 : (Rtype.noPackMethods "a method set held against an interface's list" 102).run Tryz.prog w = .ok () w := by kernel_rfl
 obtain ⟨i, hi, hd⟩ := Option.map_eq_some_iff.1 (show (Tryz.prog.info? 102).map (·.desc) = some (.interface wantJ) by kernel_rfl)
 obtain ⟨j, hj, he⟩ := Option.map_eq_some_iff.1 (show (Tryz.prog.info? 64).map (fun i => ((match i.desc with | .named _ u => some u | _ => none), (lacking wantJ i.methods).isEmpty)) = some (some 63, false) by kernel_rfl)
 obtain ⟨k, hk, hf⟩ := Option.map_eq_some_iff.1 (show (Tryz.prog.info? 63).map (fun i => match i.desc with | .interface _ => true | _ => false) = some false by kernel_rfl)
 simp only [Prod.mk.injEq] at he
 have hl : lacking wantJ j.methods ≠ [] := fun e => by
  have h5 := he.2
  rw [e] at h5
  cases h5
 obtain ⟨m, hm⟩ := missingMethod_some hl
 unfold Rtype.implements
 simp only [Sem.run_bind, h1, h2, Result.andThen, qdx_ hi hd, qd0_ hj he.1 hk]
 have hx : ∀ want, k.desc ≠ .interface want := fun want e => by
  rw [e] at hf
  cases hf
 simp only [hd]
 simp only [Sem.run_bind, run_typeInfo _ hj, Result.andThen, hm]
 rfl
theorem ql6_ (w : World) : (ReflectliteType.relation "AssignableTo" ReflectliteType.assignableTo #[.agg #[.pointer (some ⟨2, 64, none⟩)], .iface 136 (.agg #[.pointer (some ⟨2, 102, none⟩)])]).run Tryz.prog w = .ok (.bool false) w := by
 have h1 : (ReflectliteType.ofRtype (.agg #[.pointer (some ⟨2, 102, none⟩)])).run Tryz.prog w = .ok 102 w := by kernel_rfl
 have h2 : (ReflectliteType.ofRtype (.agg #[.pointer (some ⟨2, 64, none⟩)])).run Tryz.prog w = .ok 64 w := by kernel_rfl
 have h3 : (Rtype.noPackMethods "AssignableTo" 64).run Tryz.prog w = .ok () w := by kernel_rfl
 have h4 : (Rtype.noPackMethods "AssignableTo" 102).run Tryz.prog w = .ok () w := by kernel_rfl
 have h5 : (Rtype.directlyAssignable 102 64).run Tryz.prog w = .ok false w := by kernel_rfl
 have h6 := rl_implF w
 rw [rl_rel]
 simp only [Sem.run_bind, h1, h2, Result.andThen]
 unfold ReflectliteType.assignableTo
 rw [if_pos (by kernel_rfl)]
 simp only [Sem.run_bind, h3, h4, h5, h6, Result.andThen]
 rfl
end
section
open Go.RowKit Go.Extern.Stop Go.Stop Go.Extern
def EL (w : World) : Prop := w.cell? ⟨0, 0, none⟩ = some (.iface 136 (.agg #[.pointer (some ⟨2, 41, none⟩)]))
theorem rlm (z : Sem Value) (f : TypeId -> Addr -> Nat -> Nat -> Sem Value) (v : Value) :
  ReflectliteValue.method z f #[v] = (do match <- ReflectliteValue.parts v with | none => z | some (t, a, fl) => f t a fl (fl % 32)) := rfl
theorem as_isNilE (a p : Addr) (W : World) (ha : W.cell? a = some (.pointer (some p))) :
  (ReflectliteValue.method (ReflectliteValue.valueError "reflectlite.Value.IsNil" 0) ReflectliteValue.isNil #[.agg #[.pointer (some ⟨2, 62, none⟩), .pointer (some a), .int .u64 150]]).run Tryz.prog W = .ok (.bool false) W := by
 rw [rlm]
 simp only [Sem.run_bind, qlc_, Result.andThen]
 simp [ReflectliteValue.isNil, loadVar, isAgg, underlying, Tryz.underlying62, ha, Result.andThen]
theorem as_mkE (p : Addr) (w : World) : (ReflectliteValue.mk 32 p ReflectliteValue.flagAddr).run Tryz.prog w = .ok (.agg #[.pointer (some ⟨2, 32, none⟩), .pointer (some p), .int .u64 386]) w := by kernel_rfl
theorem qla_ (a p : Addr) (W : World) (ha : W.cell? a = some (.pointer (some p))) :
  (ReflectliteValue.method (ReflectliteValue.valueError "reflectlite.Value.Elem" 0) ReflectliteValue.elem #[.agg #[.pointer (some ⟨2, 62, none⟩), .pointer (some a), .int .u64 150]]).run Tryz.prog W = .ok (.agg #[.pointer (some ⟨2, 32, none⟩), .pointer (some p), .int .u64 386]) W := by
 rw [rlm]
 simp only [Sem.run_bind, qlc_, Result.andThen]
 simp [ReflectliteValue.elem, loadVar, isAgg, underlying, Tryz.underlying62, ha, Result.andThen, qmu_, as_mkE]
theorem as_isNilF (a p : Addr) (W : World) (ha : W.cell? a = some (.pointer (some p))) :
  (ReflectliteValue.method (ReflectliteValue.valueError "reflectlite.Value.IsNil" 0) ReflectliteValue.isNil #[.agg #[.pointer (some ⟨2, 66, none⟩), .pointer (some a), .int .u64 150]]).run Tryz.prog W = .ok (.bool false) W := by
 rw [rlm]
 simp only [Sem.run_bind, qk1_, Result.andThen]
 simp [ReflectliteValue.isNil, loadVar, isAgg, underlying, Tryz.underlying66, ha, Result.andThen]
theorem as_mkF (p : Addr) (w : World) : (ReflectliteValue.mk 64 p ReflectliteValue.flagAddr).run Tryz.prog w = .ok (.agg #[.pointer (some ⟨2, 64, none⟩), .pointer (some p), .int .u64 409]) w := by kernel_rfl
theorem as_elemVF (a p : Addr) (W : World) (ha : W.cell? a = some (.pointer (some p))) :
  (ReflectliteValue.method (ReflectliteValue.valueError "reflectlite.Value.Elem" 0) ReflectliteValue.elem #[.agg #[.pointer (some ⟨2, 66, none⟩), .pointer (some a), .int .u64 150]]).run Tryz.prog W = .ok (.agg #[.pointer (some ⟨2, 64, none⟩), .pointer (some p), .int .u64 409]) W := by
 rw [rlm]
 simp only [Sem.run_bind, qk1_, Result.andThen]
 simp [ReflectliteValue.elem, loadVar, isAgg, underlying, Tryz.underlying66, ha, Result.andThen, qm1_, as_mkF]
theorem as_isNilJ (a p : Addr) (W : World) (ha : W.cell? a = some (.pointer (some p))) :
  (ReflectliteValue.method (ReflectliteValue.valueError "reflectlite.Value.IsNil" 0) ReflectliteValue.isNil #[.agg #[.pointer (some ⟨2, 103, none⟩), .pointer (some a), .int .u64 150]]).run Tryz.prog W = .ok (.bool false) W := by
 rw [rlm]
 simp only [Sem.run_bind, as_partsJ, Result.andThen]
 simp [ReflectliteValue.isNil, loadVar, isAgg, underlying, Tryz.underlying103, ha, Result.andThen]
theorem rls (v x : Value) : ReflectliteValue.set #[v, x] = (do
  let (some (dst, a, fl), some (src, b, _)) := (<- ReflectliteValue.parts v, <- ReflectliteValue.parts x)
   | unsupported (.noEntry "extern/(internal/reflectlite.Value).Set.zeroValue")
  if fl / ReflectliteValue.flagAddr % 2 == 0 then unsupported (.noEntry "extern/(internal/reflectlite.Value).Set.unaddressable")
  let val <- loadVar src b
  if <- Rtype.directlyAssignable dst src then storeVar dst a val
  else if <- Rtype.implements dst src then
   if (<- Rtype.kind src) == 20 then
    match val with
    | .nilIface => unsupported (.noEntry "extern/reflectlite: a nil value of one interface type handed on as a value of another")
    | _ => storeVar dst a val
   else storeVar dst a (.iface src val)
  else panicString ("reflectlite.Set: value of type " ++ (<- Rtype.spelt src) ++ " is not assignable to type " ++ (<- Rtype.spelt dst))
  pure (.tuple #[])) := rfl
theorem qnt_ (a : Addr) (w : World) : (ReflectliteValue.parts (.agg #[.pointer (some ⟨2, 32, none⟩), .pointer (some a), .int .u64 386])).run Tryz.prog w = .ok (some (32, a, 386)) w := by kernel_rfl
theorem qog_ (a : Addr) (w : World) : (ReflectliteValue.parts (.agg #[.pointer (some ⟨2, 32, none⟩), .pointer (some a), .int .u64 130])).run Tryz.prog w = .ok (some (32, a, 130)) w := by kernel_rfl
theorem qnr_ (a : Addr) (w : World) : (ReflectliteValue.parts (.agg #[.pointer (some ⟨2, 64, none⟩), .pointer (some a), .int .u64 409])).run Tryz.prog w = .ok (some (64, a, 409)) w := by kernel_rfl
theorem qpa_ (a : Addr) (w : World) : (ReflectliteValue.parts (.agg #[.pointer (some ⟨2, 64, none⟩), .pointer (some a), .int .u64 153])).run Tryz.prog w = .ok (some (64, a, 153)) w := by kernel_rfl
theorem qm2_ (w : World) : (Rtype.directlyAssignable 32 32).run Tryz.prog w = .ok true w := by kernel_rfl
theorem qng_ (w : World) : (Rtype.directlyAssignable 64 64).run Tryz.prog w = .ok true w := by kernel_rfl
theorem as_setE (ta b : Addr) (e : Int) (old : Value) (W : World) (hb : W.cell? b = some (.int .i64 e)) (ht : W.cell? ta = some old) (hf : W.frozen? ta = false) :
  (ReflectliteValue.set #[.agg #[.pointer (some ⟨2, 32, none⟩), .pointer (some ta), .int .u64 386], .agg #[.pointer (some ⟨2, 32, none⟩), .pointer (some b), .int .u64 130]]).run Tryz.prog W = .ok (.tuple #[]) (W.setCell ta (.int .i64 e)) := by
 rw [rls]
 simp only [Sem.run_bind, qnt_, qog_, Result.andThen]
 simp [ReflectliteValue.flagAddr, loadVar, isAgg, underlying, Tryz.underlying32, hb, Result.andThen, qm2_, storeVar, Value.cells, storeCells, Addr.add]
 rw [run_store Tryz.prog W ta _ _ (by rfl)]
 simp [ht, hf]
theorem qa1_ (h : Value) (w : World) : (Go.method 445 136 (.agg #[h]) "Kind").run Tryz.prog w = .ok (214, h) w := by kernel_rfl
theorem qaz_ (h : Value) (w : World) : (Go.method 445 136 (.agg #[h]) "Elem").run Tryz.prog w = .ok (226, .agg #[h]) w := by kernel_rfl
theorem qbt_ (h : Value) (w : World) : (Go.method 445 136 (.agg #[h]) "Implements").run Tryz.prog w = .ok (227, .agg #[h]) w := by kernel_rfl
theorem qam_ (h : Value) (w : World) : (Go.method 445 136 (.agg #[h]) "AssignableTo").run Tryz.prog w = .ok (224, .agg #[h]) w := by kernel_rfl
theorem as_x0 (args : Array Value) (w : World) : (callFunc 30 args).run Tryz.prog w = (((fun args => ReflectliteValue.unpack (args.getD 0 (.tuple #[]))) args).run Tryz.prog w).andThen fun v w1 => .ok (.value v) w1 := @run_callFunc_extern Tryz.prog 30 _ (fun args => ReflectliteValue.unpack (args.getD 0 (.tuple #[]))) Tryz.func30 (by kernel_rfl) (by kernel_rfl) (by kernel_rfl) (by kernel_rfl) args w
theorem as_x1 (args : Array Value) (w : World) : (callFunc 31 args).run Tryz.prog w = (((ReflectliteValue.methodAny (ReflectliteValue.valueError "reflectlite.Value.Type" 0) (fun t _ _ _ => ReflectliteType.toType t)) args).run Tryz.prog w).andThen fun v w1 => .ok (.value v) w1 := @run_callFunc_extern Tryz.prog 31 _ (ReflectliteValue.methodAny (ReflectliteValue.valueError "reflectlite.Value.Type" 0) (fun t _ _ _ => ReflectliteType.toType t)) Tryz.func31 (by kernel_rfl) (by kernel_rfl) (by kernel_rfl) (by kernel_rfl) args w
theorem as_x2 (args : Array Value) (w : World) : (callFunc 32 args).run Tryz.prog w = (((ReflectliteValue.method (ReflectliteValue.valueError "reflectlite.Value.IsNil" 0) ReflectliteValue.isNil) args).run Tryz.prog w).andThen fun v w1 => .ok (.value v) w1 := @run_callFunc_extern Tryz.prog 32 _ (ReflectliteValue.method (ReflectliteValue.valueError "reflectlite.Value.IsNil" 0) ReflectliteValue.isNil) Tryz.func32 (by kernel_rfl) (by kernel_rfl) (by kernel_rfl) (by kernel_rfl) args w
theorem as_x3 (args : Array Value) (w : World) : (callFunc 214 args).run Tryz.prog w = (((ReflectliteType.abiMethod fun t => do pure (.int .u8 (<- Rtype.kind t))) args).run Tryz.prog w).andThen fun v w1 => .ok (.value v) w1 := @run_callFunc_extern Tryz.prog 214 _ (ReflectliteType.abiMethod fun t => do pure (.int .u8 (<- Rtype.kind t))) Tryz.func214 (by kernel_rfl) (by kernel_rfl) (by kernel_rfl) (by kernel_rfl) args w
theorem as_x4 (args : Array Value) (w : World) : (callFunc 226 args).run Tryz.prog w = (((ReflectliteType.method ReflectliteType.elem) args).run Tryz.prog w).andThen fun v w1 => .ok (.value v) w1 := @run_callFunc_extern Tryz.prog 226 _ (ReflectliteType.method ReflectliteType.elem) Tryz.func226 (by kernel_rfl) (by kernel_rfl) (by kernel_rfl) (by kernel_rfl) args w
theorem as_x5 (args : Array Value) (w : World) : (callFunc 227 args).run Tryz.prog w = (((ReflectliteType.relation "Implements" ReflectliteType.implements_) args).run Tryz.prog w).andThen fun v w1 => .ok (.value v) w1 := @run_callFunc_extern Tryz.prog 227 _ (ReflectliteType.relation "Implements" ReflectliteType.implements_) Tryz.func227 (by kernel_rfl) (by kernel_rfl) (by kernel_rfl) (by kernel_rfl) args w
theorem as_x6 (args : Array Value) (w : World) : (callFunc 57 args).run Tryz.prog w = ((ReflectliteType.typeOf args).run Tryz.prog w).andThen fun v w1 => .ok (.value v) w1 := @run_callFunc_extern Tryz.prog 57 _ ReflectliteType.typeOf Tryz.func57 (by kernel_rfl) (by kernel_rfl) (by kernel_rfl) (by kernel_rfl) args w
theorem as_x7 (args : Array Value) (w : World) : (callFunc 224 args).run Tryz.prog w = (((ReflectliteType.relation "AssignableTo" ReflectliteType.assignableTo) args).run Tryz.prog w).andThen fun v w1 => .ok (.value v) w1 := @run_callFunc_extern Tryz.prog 224 _ (ReflectliteType.relation "AssignableTo" ReflectliteType.assignableTo) Tryz.func224 (by kernel_rfl) (by kernel_rfl) (by kernel_rfl) (by kernel_rfl) args w
theorem as_x8 (args : Array Value) (w : World) : (callFunc 58 args).run Tryz.prog w = (((ReflectliteValue.method (ReflectliteValue.valueError "reflectlite.Value.Elem" 0) ReflectliteValue.elem) args).run Tryz.prog w).andThen fun v w1 => .ok (.value v) w1 := @run_callFunc_extern Tryz.prog 58 _ (ReflectliteValue.method (ReflectliteValue.valueError "reflectlite.Value.Elem" 0) ReflectliteValue.elem) Tryz.func58 (by kernel_rfl) (by kernel_rfl) (by kernel_rfl) (by kernel_rfl) args w
theorem as_x9 (args : Array Value) (w : World) : (callFunc 59 args).run Tryz.prog w = ((ReflectliteValue.set args).run Tryz.prog w).andThen fun v w1 => .ok (.value v) w1 := @run_callFunc_extern Tryz.prog 59 _ ReflectliteValue.set Tryz.func59 (by kernel_rfl) (by kernel_rfl) (by kernel_rfl) (by kernel_rfl) args w
end
section
open Go.RowKit Go.Extern.Stop Go.Stop Go.Extern
theorem in_EE (e : Int) (t a : Addr) (w : World) (ha : w.cell? a = some (.pointer (some t))) (old : Value) (ht0 : w.cell? t = some old) (hf0 : w.frozen? t = false) :
  Calls Tryz.prog 33 #[.iface 32 (.int .i64 e), .iface 62 (.pointer (some t)), .agg #[.pointer (some ⟨2, 62, none⟩), .pointer (some a), .int .u64 150], .iface 136 (.agg #[.pointer (some ⟨2, 32, none⟩)])] w fun ev w' => ev = .returned (.bool true) /\ ∃ W, Below w.heap.size w W /\ w' = W.setCell t (.int .i64 e) := by
 have x0 := as_x0
 have x1 := as_x1
 have x2 := as_x2
 have x3 := as_x3
 have x4 := as_x4
 have x5 := as_x5
 have x6 := as_x6
 have x7 := as_x7
 have x8 := as_x8
 have x9 := as_x9
 have mK := qa1_
 have mE := qaz_
 have mA := qam_
 have hlt : a.block < w.heap.size := by
  rcases Nat.lt_or_ge a.block w.heap.size with h | h
  ·exact h
  ·simp [World.cell?, Array.getElem?_eq_none h] at ha
 have htl : t.block < w.heap.size := by
  rcases Nat.lt_or_ge t.block w.heap.size with h | h
  ·exact h
  ·simp [World.cell?, Array.getElem?_eq_none h] at ht0
 have tO := qda_
 have aE := qgv_
 have vE := as_valE
 have el := qla_ a t (((w).alloc (.cells #[.pointer (some ⟨2, 62, none⟩), .pointer (some a), .int .u64 150] 93))) (by rw [World.cell?_alloc_lt _ _ a hlt]; exact ha)
 have st := as_setE t ⟨w.heap.size + 1, 0, none⟩ e old ((((w).alloc (.cells #[.pointer (some ⟨2, 62, none⟩), .pointer (some a), .int .u64 150] 93))).alloc (.cells #[.int .i64 e] 32))
  (by rw [World.cell?_alloc_at _ _ _ _ (by simp)]; rfl)
  (by rw [World.cell?_alloc_lt _ _ t (by simp; omega), World.cell?_alloc_lt _ _ t htl]; exact ht0)
  (by rw [World.frozen?_alloc_old _ _ t (by simp; omega), World.frozen?_alloc_old _ _ t (Nat.ne_of_lt htl)]; exact hf0)
 go_enter Tryz.func33, Tryz.ntmps33
 go_wp2
 refine wp_loop_rounds 1 ?_
 rw [rounds_succ]
 go_wp2
 go_ret
 exact ⟨rfl, _, ((Below.refl w.heap.size w).alloc (Nat.le_refl _) _).alloc (by simp) _, rfl⟩
theorem in_EJ (e : Int) (t a : Addr) (w : World) (ha : w.cell? a = some (.pointer (some t))) :
  Calls Tryz.prog 33 #[.iface 32 (.int .i64 e), .iface 103 (.pointer (some t)), .agg #[.pointer (some ⟨2, 103, none⟩), .pointer (some a), .int .u64 150], .iface 136 (.agg #[.pointer (some ⟨2, 102, none⟩)])] w fun ev w' => ev = .returned (.bool false) /\ Below w.heap.size w w' := by
 have x0 := as_x0
 have x1 := as_x1
 have x2 := as_x2
 have x3 := as_x3
 have x4 := as_x4
 have x5 := as_x5
 have x6 := as_x6
 have x7 := as_x7
 have x8 := as_x8
 have x9 := as_x9
 have mK := qa1_
 have mE := qaz_
 have mA := qam_
 have hlt : a.block < w.heap.size := by
  rcases Nat.lt_or_ge a.block w.heap.size with h | h
  ·exact h
  ·simp [World.cell?, Array.getElem?_eq_none h] at ha
 have tO := qda_
 have aE := qhe_
 have n1 := qkh_
 have n2 := qj5_
 have n3 := qht_
 go_enter Tryz.func33, Tryz.ntmps33
 go_wp2
 refine wp_loop_rounds 1 ?_
 rw [rounds_succ]
 go_wp2
 go_ret
 exact ⟨rfl, (Below.refl w.heap.size w).alloc (Nat.le_refl _) _⟩
theorem in_EF (e : Int) (t a : Addr) (w : World) (ha : w.cell? a = some (.pointer (some t))) :
  Calls Tryz.prog 33 #[.iface 32 (.int .i64 e), .iface 66 (.pointer (some t)), .agg #[.pointer (some ⟨2, 66, none⟩), .pointer (some a), .int .u64 150], .iface 136 (.agg #[.pointer (some ⟨2, 64, none⟩)])] w fun ev w' => ev = .returned (.bool false) /\ Below w.heap.size w w' := by
 have x0 := as_x0
 have x1 := as_x1
 have x2 := as_x2
 have x3 := as_x3
 have x4 := as_x4
 have x5 := as_x5
 have x6 := as_x6
 have x7 := as_x7
 have x8 := as_x8
 have x9 := as_x9
 have mK := qa1_
 have mE := qaz_
 have mA := qam_
 have hlt : a.block < w.heap.size := by
  rcases Nat.lt_or_ge a.block w.heap.size with h | h
  ·exact h
  ·simp [World.cell?, Array.getElem?_eq_none h] at ha
 have tO := qda_
 have aE := ql1_
 have n1 := qkh_
 have n2 := qj5_
 have n3 := qht_
 go_enter Tryz.func33, Tryz.ntmps33
 go_wp2
 refine wp_loop_rounds 1 ?_
 rw [rounds_succ]
 go_wp2
 go_ret
 exact ⟨rfl, (Below.refl w.heap.size w).alloc (Nat.le_refl _) _⟩
theorem qdt_ (v : Value) (w : World) : (Go.method 445 64 v "Unwrap").run Tryz.prog w = .ok (219, v) w := by kernel_rfl
theorem qi5_ (s : ByteArray) (e : Int) (w : World) : Calls Tryz.prog 219 #[.agg #[.string s, .iface 32 (.int .i64 e)]] w fun ev w' => ev = .returned (.iface 32 (.int .i64 e)) /\ w' = w.alloc (.cells #[.string s, .iface 32 (.int .i64 e)] 64) := by
 go_enter Tryz.func219, Tryz.ntmps219
 go_wp2
 go_ret
 exact ⟨rfl, rfl⟩
theorem in_FJ (s : ByteArray) (e : Int) (t a : Addr) (w : World) (ha : w.cell? a = some (.pointer (some t))) :
  Calls Tryz.prog 33 #[.iface 64 (.agg #[.string s, .iface 32 (.int .i64 e)]), .iface 103 (.pointer (some t)), .agg #[.pointer (some ⟨2, 103, none⟩), .pointer (some a), .int .u64 150], .iface 136 (.agg #[.pointer (some ⟨2, 102, none⟩)])] w fun ev w' => ev = .returned (.bool false) /\ Below w.heap.size w w' := by
 have x0 := as_x0
 have x1 := as_x1
 have x2 := as_x2
 have x3 := as_x3
 have x4 := as_x4
 have x5 := as_x5
 have x6 := as_x6
 have x7 := as_x7
 have x8 := as_x8
 have x9 := as_x9
 have mK := qa1_
 have mE := qaz_
 have mA := qam_
 have hlt : a.block < w.heap.size := by
  rcases Nat.lt_or_ge a.block w.heap.size with h | h
  ·exact h
  ·simp [World.cell?, Array.getElem?_eq_none h] at ha
 have tF := qfr_
 have bF := ql6_
 have n4 := qpp_
 have n5 := as_unF
 have mU := qdt_
 have CU := Lib.hid (fun W => qi5_ s e W)
 have tO := qda_
 have aE := qhe_
 have n1 := qkh_
 have n2 := qj5_
 have n3 := qht_
 go_enter Tryz.func33, Tryz.ntmps33
 go_wp2
 refine wp_loop_rounds 2 ?_
 rw [rounds_succ]
 go_wp2_with fail
 refine (CU.out _).mono ?_
 rintro e1 w1 ⟨rfl, rfl⟩
 go_wp2
 rw [rounds_succ]
 go_wp2
 go_ret
 exact ⟨rfl, ((Below.refl w.heap.size w).alloc (Nat.le_refl _) _).alloc (by simp) _⟩
theorem in_FE (s : ByteArray) (e : Int) (t a : Addr) (w : World) (ha : w.cell? a = some (.pointer (some t))) (old : Value) (ht0 : w.cell? t = some old) (hf0 : w.frozen? t = false) :
  Calls Tryz.prog 33 #[.iface 64 (.agg #[.string s, .iface 32 (.int .i64 e)]), .iface 62 (.pointer (some t)), .agg #[.pointer (some ⟨2, 62, none⟩), .pointer (some a), .int .u64 150], .iface 136 (.agg #[.pointer (some ⟨2, 32, none⟩)])] w fun ev w' => ev = .returned (.bool true) /\ ∃ W, Below w.heap.size w W /\ w' = W.setCell t (.int .i64 e) := by
 have x0 := as_x0
 have x1 := as_x1
 have x2 := as_x2
 have x3 := as_x3
 have x4 := as_x4
 have x5 := as_x5
 have x6 := as_x6
 have x7 := as_x7
 have x8 := as_x8
 have x9 := as_x9
 have mK := qa1_
 have mE := qaz_
 have mA := qam_
 have hlt : a.block < w.heap.size := by
  rcases Nat.lt_or_ge a.block w.heap.size with h | h
  ·exact h
  ·simp [World.cell?, Array.getElem?_eq_none h] at ha
 have tF := qfr_
 have bF := qlw_
 have n4 := qpp_
 have n5 := as_unF
 have mU := qdt_
 have CU := Lib.hid (fun W => qi5_ s e W)
 have htl : t.block < w.heap.size := by
  rcases Nat.lt_or_ge t.block w.heap.size with h | h
  ·exact h
  ·simp [World.cell?, Array.getElem?_eq_none h] at ht0
 have tO := qda_
 have aE := qgv_
 have vE := as_valE
 have el := qla_ a t ((((w).alloc (.cells #[.pointer (some ⟨2, 62, none⟩), .pointer (some a), .int .u64 150] 93))).alloc (.cells #[.string s, .iface 32 (.int .i64 e)] 64)) (by rw [World.cell?_alloc_lt _ _ a (by simp; omega), World.cell?_alloc_lt _ _ a hlt]; exact ha)
 have st := as_setE t ⟨w.heap.size + 1 + 1, 0, none⟩ e old (((((w).alloc (.cells #[.pointer (some ⟨2, 62, none⟩), .pointer (some a), .int .u64 150] 93))).alloc (.cells #[.string s, .iface 32 (.int .i64 e)] 64)).alloc (.cells #[.int .i64 e] 32))
  (by rw [World.cell?_alloc_at _ _ _ _ (by simp)]; rfl)
  (by rw [World.cell?_alloc_lt _ _ t (by simp; omega), World.cell?_alloc_lt _ _ t (by simp; omega), World.cell?_alloc_lt _ _ t htl]; exact ht0)
  (by rw [World.frozen?_alloc_old _ _ t (by simp; omega), World.frozen?_alloc_old _ _ t (by simp; omega), World.frozen?_alloc_old _ _ t (Nat.ne_of_lt htl)]; exact hf0)
 go_enter Tryz.func33, Tryz.ntmps33
 go_wp2
 refine wp_loop_rounds 2 ?_
 rw [rounds_succ]
 go_wp2_with fail
 refine (CU.out _).mono ?_
 rintro e1 w1 ⟨rfl, rfl⟩
 go_wp2
 rw [rounds_succ]
 go_wp2
 go_ret
 exact ⟨rfl, _, (((Below.refl w.heap.size w).alloc (Nat.le_refl _) _).alloc (by simp) _).alloc (by simp; omega) _, rfl⟩
end
section
open Go.RowKit Go.ChangeShapes Go.WideShapes Go.Deep
theorem qks_ {H : Type} (d : DataW H) : 1 <= Rows.uptoBulk d := by
 cases d with
 | lit l => cases l <;> simp [Rows.uptoBulk]
 | nil => simp [Rows.uptoBulk]
 | ptr d => simp [Rows.uptoBulk]
 | slice elems spare => simp [Rows.uptoBulk]
 | agg parts => simp [Rows.uptoBulk]
 | iface t d => simp [Rows.uptoBulk]
 | map entries => simp [Rows.uptoBulk]
 | held h => simp [Rows.uptoBulk]
theorem qmi_ {H : Type} (l : List (DataW H)) : l.length <= Rows.uptoBulkAll l := by
 induction l with
 | nil => simp [Rows.uptoBulkAll]
 | cons x r ih => have := qks_ x; simp only [Rows.uptoBulkAll, List.length_cons]; omega
theorem sixteen {α : Type} : ∀ l : List α, (l.map (fun _ => 16)).sum = 16 * l.length
 | [] => rfl
 | x :: l => by rw [List.map_cons, List.sum_cons, sixteen l, List.length_cons]; omega
theorem qo1_ {H : Type} {α : Type} (g : α -> Nat) (F : Nat -> α) (D : Nat -> DataW H) : ∀ l : List Nat, (∀ i ∈ l, g (F i) <= 16 * Rows.uptoBulk (D i)) -> ((l.map F).map g).sum <= 16 * Rows.uptoBulkAll (l.map D)
 | [], _ => by simp
 | i :: l, h => by
  have h1 := h i (by simp)
  have h2 := qo1_ g F D l (fun j hj => h j (by simp [hj]))
  simp only [List.map_cons, List.sum_cons, Rows.uptoBulkAll]
  omega
section
variable {H : Type} {enc : TypeId × Value -> H} {w : World} {base : Nat} {spare : Nat -> Bool} {held : Bool}
theorem bulk_pv {fuel : Nat} {cs : List Value} {x : DataW H × List MemPlace} (h : DataW.trod enc Tryz.prog w base spare held fuel 84 cs = some x) (hw : ∀ z ∈ DataW.weights Tryz.prog 84 x.1, z <= 140737488351232) :
  ∃ p : PV, cs = [.string p.name, p.val] /\ p.In w w.heap.size /\ heftP p <= 16 * Rows.uptoBulk x.1 := by
 obtain ⟨y0, y1, n, rfl, hl, h0, h1⟩ := trod_struct2 Tryz.underlying84 h
 rw [Tryz.cellsProp] at hl
 obtain ⟨c0, c1, rfl⟩ : ∃ c0 c1, cs = [c0, c1] := by
  exact two_of hl
 rw [Tryz.cellsStr] at h0
 rw [Tryz.cellsBytes] at h1
 obtain ⟨s, e0, rfl, hs⟩ := DataW.trod_string Tryz.underlying9 h0
 simp only [List.drop_zero, List.take_succ_cons, List.take_zero, List.cons.injEq, and_true] at e0
 subst e0
 have hs' : s.size <= 140737488351232 := hw s.size (by
  simp only [DataW.weights, DataW.weightsEach, Tryz.underlying84, List.map_cons, List.map_nil]
  exact List.mem_append_left _ (by simp))
 rcases open_ints Tryz.underlying82 Tryz.underlying5 Tryz.cellsByte h1 with ⟨e1, _⟩ | ⟨a, len, cap, zs, e1, hb, hlc, hm, hz, rfl, hcell, hwf⟩
 ·simp only [List.drop_succ_cons, List.drop_zero, List.take_succ_cons, List.take_zero, List.cons.injEq, and_true] at e1
  subst e1
  exact ⟨⟨s, none, 0, []⟩, rfl, ⟨⟨hs', by simp⟩, Shows.nil _ _, Nat.le_refl _, by simp⟩, by (have e : s.data.size = s.size := rfl; simp only [heftP, Rows.uptoBulk, Rows.uptoBulkAll, List.length_nil, Array.length_toList]; omega)⟩
 ·simp only [List.drop_succ_cons, List.drop_zero, List.take_succ_cons, List.take_zero, List.cons.injEq, and_true] at e1
  subst e1
  have hle : len <= zs.length := by rw [hz]; split <;> omega
  have hl' : (zs.take len).length = len := by rw [List.length_take]; omega
  have hb' : zs.length * Tryz.prog.bytesOf 5 <= 140737488351232 := hw _ (by
   simp only [DataW.weights, DataW.weightsEach, Tryz.underlying84, Tryz.underlying82, List.map_cons, List.map_nil]
   refine List.mem_append_right _ (List.mem_append_left _ (List.mem_cons.2 (.inl ?_)))
   simp only [lits, List.length_map, List.length_take, List.length_drop]
   congr 1
   omega)
  have e1 : Tryz.prog.bytesOf 5 = 1 := by kernel_rfl
  rw [e1] at hb'
  refine ⟨⟨s, some a, cap, zs.take len⟩, by rw [PV.val, hl'], ⟨⟨hs', by simp only [hl']; omega⟩, ?_, by rw [hl']; exact hlc, hm⟩, by (have h9 := qmi_ (lits (H := H) .u8 (zs.take len)); have h8 : (lits (H := H) .u8 (zs.take len)).length = len := (by simp only [lits, List.length_map]; exact hl'); have e : s.data.size = s.size := rfl; simp only [heftP, Rows.uptoBulk, Rows.uptoBulkAll, Array.length_toList, hl']; omega)⟩
  refine ⟨rfl, fun z hz' => ?_, fun hn => ?_⟩
  ·have h2 := bounds_u8 (hwf z (List.mem_of_mem_take hz'))
   omega
  ·rw [hl'] at hn
   obtain ⟨b, o, spot⟩ := a
   have hc := hcell 0 (by omega)
   have hspot : spot = none := by simpa [Addr.add] using World.cell?_spot hc
   subst hspot
   refine ⟨b, o, rfl, ?_, fun i hi => ?_⟩
   ·rw [qbc_] at hc
    exact World.block_lt_of_cell? w _ hc
   ·rw [hl'] at hi
    have hci := hcell i (by omega)
    rw [qbc_] at hci
    rw [hci]
    refine congrArg (fun z => some (Value.int .u8 z)) ?_
    simp [List.getD, List.getElem?_take_of_lt hi]
theorem qke_ {α : Type} [Inhabited α] {t e : TypeId} {c : Nat} (f : α -> List Value) (good : α -> Prop) (g : α -> Nat) {fuel : Nat} {cs : List Value} {x : DataW H × List MemPlace} (ht : Tryz.prog.underlying t = some (.slice e)) (hc : Tryz.prog.cellsOf e = c) (hc0 : 0 < c)
  (hlen : ∀ p, (f p).length = c) (each : ∀ (n : Nat) (cs : List Value) (y : DataW H × List MemPlace), SizeOf.sizeOf y.1 < SizeOf.sizeOf x.1 -> DataW.trod enc Tryz.prog w base spare held n e cs = some y -> (∀ z ∈ DataW.weights Tryz.prog e y.1, z <= 140737488351232) -> ∃ p : α, cs = f p /\ good p /\ g p <= 16 * Rows.uptoBulk y.1)
  (h : DataW.trod enc Tryz.prog w base spare held fuel t cs = some x) (hw : ∀ z ∈ DataW.weights Tryz.prog t x.1, z <= 140737488351232) :
  ∃ (a : Option Addr) (cap : Nat) (l : List α), cs = [.slice a l.length cap] /\ (l.map g).sum + 16 <= 16 * Rows.uptoBulk x.1 /\ l.length <= cap /\ cap <= 9223372036854775807 /\ l.length * Tryz.prog.bytesOf e <= 140737488351232 /\ (∀ p ∈ l, good p) /\
   (0 < l.length -> ∃ b o, a = some ⟨b, o, none⟩ /\ b < w.heap.size /\ ∀ i (h : i < l.length), ∀ j, j < c -> w.cell? ⟨b, o + i * c + j, none⟩ = (f l[i])[j]?) := by
 rcases open_slice ht h with ⟨rfl, _⟩ | ⟨a, len, cap, m, n, D, Pl, rfl, hb, hl, hm, hmm, rfl, hi⟩
 ·exact ⟨none, 0, [], rfl, by (have := qks_ x.1; simp only [List.map_nil, List.sum_nil]; omega), Nat.le_refl _, by simp, by simp, by simp, fun h => absurd h (by simp)⟩
 ·have hlm : len <= m := by rw [hmm]; split <;> omega
  have sz : ∀ i, i < len -> SizeOf.sizeOf (D i) < SizeOf.sizeOf (DataW.slice ((List.range len).map D) ((List.range (m - len)).map fun j => D (len + j))) := fun i hi' => by
   have hmem : D i ∈ (List.range len).map D := List.mem_map.2 ⟨i, List.mem_range.2 hi', rfl⟩
   have := List.sizeOf_lt_of_mem hmem
   simp only [DataW.slice.sizeOf_spec]
   omega
  have hw1 : (len + (m - len)) * Tryz.prog.bytesOf e <= 140737488351232 := hw _ (by
   simp only [DataW.weights, ht]
   refine List.mem_cons.2 (.inl ?_)
   simp)
  have hw2 : len * Tryz.prog.bytesOf e <= 140737488351232 := Nat.le_trans (Nat.mul_le_mul_right _ (by omega)) hw1
  have hwi : ∀ i, i < len -> ∀ z ∈ DataW.weights Tryz.prog e (D i), z <= 140737488351232 := fun i hi' z hz => hw z (by
   simp only [DataW.weights, ht]
   exact List.mem_cons.2 (.inr (List.mem_append_left _ (qg2_ (List.mem_map.2 ⟨i, List.mem_range.2 hi', rfl⟩) hz))))
  obtain ⟨F, hF⟩ := choose_lt (α := α) (n := len) (p := fun i p => w.cells? base (a.add (i * Tryz.prog.cellsOf e)) (Tryz.prog.cellsOf e) = some (f p) /\ good p /\ g p <= 16 * Rows.uptoBulk (D i)) (fun i hi' => by
   obtain ⟨cs', h1, h2⟩ := hi i (by omega)
   obtain ⟨p, rfl, hg, hg2⟩ := each n cs' _ (sz i hi') h2 (hwi i hi')
   exact ⟨p, h1, hg, hg2⟩)
  refine ⟨some a, cap, (List.range len).map F, by simp, by have h7 := qo1_ g F D (List.range len) (fun i hi' => (hF i (List.mem_range.1 hi')).2.2); simp only [Rows.uptoBulk]; omega, by simpa using hl, hm, by simpa using hw2, ?_, fun h0 => ?_⟩
  ·intro p hp
   obtain ⟨i, hi', rfl⟩ := List.mem_map.1 hp
   exact (hF i (List.mem_range.1 hi')).2.1
  ·simp only [List.length_map, List.length_range] at h0 ⊢
   obtain ⟨b, o, spot⟩ := a
   have cell : ∀ i, i < len -> ∀ j, j < c -> w.cell? ((⟨b, o, spot⟩ : Addr).add (i * c + j)) = (f (F i))[j]? := fun i hi' j hj => by
    obtain ⟨_, _, h3⟩ := World.cells?_some (hF i hi').1
    rw [hc] at h3
    rw [<- Go.Deep.add_add]
    exact h3 j hj
   have c0 := cell 0 h0 0 hc0
   rw [List.getElem?_eq_getElem (by rw [hlen]; exact hc0)] at c0
   have hspot : spot = none := by simpa [Addr.add] using World.cell?_spot c0
   subst hspot
   refine ⟨b, o, rfl, World.block_lt_of_cell? w _ (by rw [qbc_] at c0; exact c0), fun i hi' j hj => ?_⟩
   have := cell i hi' j hj
   rw [qbc_, <- Nat.add_assoc] at this
   simpa using this
theorem qky_ : ∀ ks : List Nd, heftL ks = (ks.map heftN).sum
 | [] => rfl
 | k :: r => by simp only [heftL, List.map_cons, List.sum_cons, qky_ r]
theorem bulk_nd : ∀ (m fuel : Nat) (cs : List Value) (x : DataW H × List MemPlace), SizeOf.sizeOf x.1 <= m -> DataW.trod enc Tryz.prog w base spare held fuel 27 cs = some x ->
  (∀ z ∈ DataW.weights Tryz.prog 27 x.1, z <= 140737488351232) -> ∃ n : Nd, cs = [.string n.name, n.pv, n.kv] /\ n.In w w.heap.size /\ heftN n <= 16 * Rows.uptoBulk x.1 := by
 intro m
 induction m with
 | zero => intro fuel cs x hx; exfalso; obtain ⟨d, pl⟩ := x; cases d <;> simp at hx
 | succ m ih =>
  intro fuel cs x hx h hw
  obtain ⟨y0, y1, y2, n, rfl, hl, h0, h1, h2⟩ := trod_struct3 Tryz.underlying27 h
  rw [Tryz.cellsNode] at hl
  obtain ⟨c0, c1, c2, rfl⟩ : ∃ c0 c1 c2, cs = [c0, c1, c2] := by
   exact three_of hl
  rw [Tryz.cellsStr] at h0
  rw [Tryz.cellsProps] at h1
  rw [Tryz.cellsNodes] at h2
  simp only [List.drop_zero, List.drop_succ_cons, List.take_succ_cons, List.take_zero] at h0 h1 h2
  simp only [DataW.weights, DataW.weightsEach, Tryz.underlying27, List.map_cons, List.map_nil] at hw
  have hw0 := fun z hz => hw z (List.mem_append_left _ hz)
  have hw1 := fun z hz => hw z (List.mem_append_right _ (List.mem_append_left _ hz))
  have hw2 := fun z hz => hw z (List.mem_append_right _ (List.mem_append_right _ (List.mem_append_left _ hz)))
  obtain ⟨s, e0, rfl, hs⟩ := DataW.trod_string Tryz.underlying9 h0
  simp only [List.cons.injEq, and_true] at e0
  subst e0
  have hs' : s.size <= 140737488351232 := hw0 s.size (by simp [DataW.weights])
  obtain ⟨pa, pc, props, e1, hph, hp1, hp2, hp3, hpg, hprow⟩ := qke_ (c := 2) (fun p : PV => [.string p.name, p.val]) (fun p => p.In w w.heap.size) heftP Tryz.underlying24 Tryz.cellsProp (by omega) (fun _ => rfl) (fun n cs y _ hy hwy => bulk_pv hy hwy) h1 hw1
  obtain ⟨ka, kc, kids, e2, hkh, hk1, hk2, hk3, hkg, hkrow⟩ := qke_ (c := 3) (fun k : Nd => [.string k.name, k.pv, k.kv]) (fun k => k.In w w.heap.size) heftN Tryz.underlying25 Tryz.cellsNode (by omega) (fun _ => rfl)
   (fun n cs y hy hy' hwy => ih n cs y (by simp only [DataW.agg.sizeOf_spec, List.cons.sizeOf_spec] at hx; omega) hy' hwy) h2 hw2
  simp only [List.cons.injEq, and_true] at e1 e2
  subst e1 e2
  rw [Tryz.bytesProp] at hp3
  rw [Tryz.bytesNode] at hk3
  refine ⟨.mk s pa pc props ka kc kids, rfl, .mk _ ⟨hs', hp3, hk3⟩ hp1 hp2 hk1 hk2 (fun h0 => ?_) hpg (fun h0 => ?_) hkg, by have e : s.data.size = s.size := rfl; simp only [heftN, qky_, Rows.uptoBulk, Rows.uptoBulkAll, Array.length_toList]; omega⟩
  ·obtain ⟨b, o, e, hb, hc⟩ := hprow h0
   exact ⟨b, o, e, hb, fun i hi => ⟨hc i hi 0 (by omega), hc i hi 1 (by omega)⟩⟩
  ·obtain ⟨b, o, e, hb, hc⟩ := hkrow h0
   exact ⟨b, o, e, hb, fun i hi => ⟨hc i hi 0 (by omega), hc i hi 1 (by omega), hc i hi 2 (by omega)⟩⟩
theorem bulk_tr {fuel : Nat} {cs : List Value} {x : DataW H × List MemPlace} (h : DataW.trod enc Tryz.prog w base spare held fuel 29 cs = some x) (hw : ∀ z ∈ DataW.weights Tryz.prog 29 x.1, z <= 140737488351232) :
  ∃ t : Tr, cs = [.int .u32 t.boot, t.rv, .string t.root.name, t.root.pv, t.root.kv] /\ t.In w w.heap.size /\ heftN t.root <= 16 * Rows.uptoBulk x.1 /\ t.rs.length <= Rows.uptoBulk x.1 := by
 obtain ⟨y0, y1, y2, n, rfl, hl, h0, h1, h2⟩ := trod_struct3 Tryz.underlying29 h
 rw [Tryz.cellsTree] at hl
 obtain ⟨c0, c1, c2, c3, c4, rfl⟩ : ∃ c0 c1 c2 c3 c4, cs = [c0, c1, c2, c3, c4] := by
  exact five_of hl
 rw [Tryz.cellsU32] at h0
 rw [Tryz.cellsRess] at h1
 rw [Tryz.cellsNode] at h2
 simp only [List.drop_zero, List.drop_succ_cons, List.take_succ_cons, List.take_zero] at h0 h1 h2
 simp only [DataW.weights, DataW.weightsEach, Tryz.underlying29, List.map_cons, List.map_nil] at hw
 have hw1 := fun z hz => hw z (List.mem_append_right _ (List.mem_append_left _ hz))
 have hw2 := fun z hz => hw z (List.mem_append_right _ (List.mem_append_right _ (List.mem_append_left _ hz)))
 obtain ⟨boot, e0, _, wb⟩ := DataW.trod_int Tryz.underlying22 h0
 obtain ⟨ra, rc, rs, e1, hrh, hr1, hr2, hr3, hrg, hrow⟩ := qke_ (c := 2) (fun r : Int × Int => [.int .u64 r.1, .int .u64 r.2]) (fun r => (0 <= r.1 /\ r.1 <= 18446744073709551615) /\ (0 <= r.2 /\ r.2 <= 18446744073709551615)) (fun _ => 16) Tryz.underlying23 Tryz.cellsRes (by omega) (fun _ => rfl) (fun n cs y _ hy _ => by obtain ⟨r, h1, h2⟩ := open_res hy; exact ⟨r, h1, h2, by have := qks_ y.1; omega⟩) h1 hw1
 obtain ⟨root, e2, hin, hroot⟩ := bulk_nd _ n _ _ (Nat.le_refl _) h2 hw2
 simp only [List.cons.injEq, and_true] at e0 e1 e2
 obtain ⟨rfl, rfl, rfl⟩ := e2
 subst e0 e1
 rw [Tryz.bytesRes] at hr3
 refine ⟨⟨boot, ra, rc, rs, root⟩, rfl, ⟨bounds_u32 wb, ⟨hr1, hr2, hr3⟩, fun h0 => by
  obtain ⟨b, o, e, hb, hc⟩ := hrow h0
  exact ⟨b, o, e, hb, fun i hi => ⟨hc i hi 0 (by omega), hc i hi 1 (by omega)⟩⟩, hrg, hin⟩, ?_, ?_⟩
 ·simp only [Rows.uptoBulk, Rows.uptoBulkAll]; omega
 ·have e : (rs.map (fun _ => 16)).sum = 16 * rs.length := sixteen rs
  simp only [Rows.uptoBulk, Rows.uptoBulkAll]; omega
end
end
end Go.Proofs.YtcfinbapfhhpgaaGreatDoor
