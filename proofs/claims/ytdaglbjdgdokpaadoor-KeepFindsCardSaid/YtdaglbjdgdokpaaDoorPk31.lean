/-
  errors.As at what package crc hands it: no error, or a fault that wraps a cause; the target a pointer to a cause.
-/
import Derived.Test.YtdaglbjdgdokpaaDoorPk28
import Derived.LaidEql
import Derived.Stop.Asserts
import Derived.RowKitTokens
namespace Go.Proofs.YtdaglbjdgdokpaaDoor
open Go.RowKit Go.Extern.Stop Go.Stop Go.Extern
set_option linter.unusedVariables false
set_option linter.unusedSimpArgs false

theorem pas_nil (t : Value) (w : World) : Calls Tryd.prog 34 #[.nilIface, t] w fun e w' => e = .returned (.bool false) ∧ w = w' := by
  go_enter Tryd.func34, Tryd.ntmps34
  go_wp2
  go_ret
  exact ⟨rfl, rfl⟩
/-- reflectlite's handle on a type. -/
abbrev hnd (t : TypeId) : Value := .agg #[.pointer (some ⟨5, t, none⟩)]
/-- reflectlite's value of type t, held in a variable. -/
abbrev rvl (t : TypeId) (a : Addr) (fl : Int) : Value := .agg #[.pointer (some ⟨5, t, none⟩), .pointer (some a), .int .u64 fl]
theorem xValueOf (t : Addr) (w : World) : (ReflectliteValue.unpack (.iface 77 (.pointer (some t)))).run Tryd.prog w = .ok (rvl 77 ⟨w.heap.size, 0, none⟩ 150) (w.alloc (.cells #[.pointer (some t)] 77)) := by kernel_rfl
theorem xValueOfC (n : Int) (w : World) : (ReflectliteValue.unpack (.iface 75 (.int .i64 n))).run Tryd.prog w = .ok (rvl 75 ⟨w.heap.size, 0, none⟩ 130) (w.alloc (.cells #[.int .i64 n] 75)) := by kernel_rfl
theorem xType (a : Addr) (w : World) : (ReflectliteValue.methodAny (ReflectliteValue.valueError "reflectlite.Value.Type" 0) (fun t _ _ _ => ReflectliteType.toType t) #[rvl 77 a 150]).run Tryd.prog w = .ok (.iface 119 (hnd 77)) w := by kernel_rfl
theorem xKind (w : World) : ((ReflectliteType.abiMethod fun t => (fun a : Nat => Value.int IntKind.u8 (a : Int)) <$> Rtype.kind t) #[.pointer (some ⟨5, 77, none⟩)]).run Tryd.prog w = .ok (.int .u8 22) w := by kernel_rfl
theorem xKindC (w : World) : ((ReflectliteType.abiMethod fun t => (fun a : Nat => Value.int IntKind.u8 (a : Int)) <$> Rtype.kind t) #[.pointer (some ⟨5, 75, none⟩)]).run Tryd.prog w = .ok (.int .u8 2) w := by kernel_rfl
theorem xElem (w : World) : (ReflectliteType.method ReflectliteType.elem #[hnd 77]).run Tryd.prog w = .ok (.iface 119 (hnd 75)) w := by kernel_rfl
theorem xImpl (w : World) : (ReflectliteType.relation "Implements" ReflectliteType.implements_ #[hnd 75, .iface 119 (hnd 72)]).run Tryd.prog w = .ok (.bool true) w := by kernel_rfl
theorem xTypeOfF (v : Value) (w : World) : (ReflectliteType.typeOf #[.iface 93 v]).run Tryd.prog w = .ok (.iface 119 (hnd 93)) w := by kernel_rfl
theorem xTypeOfC (v : Value) (w : World) : (ReflectliteType.typeOf #[.iface 75 v]).run Tryd.prog w = .ok (.iface 119 (hnd 75)) w := by kernel_rfl
theorem xAssF (w : World) : (ReflectliteType.relation "AssignableTo" ReflectliteType.assignableTo #[hnd 93, .iface 119 (hnd 75)]).run Tryd.prog w = .ok (.bool false) w := by kernel_rfl
theorem xAssC (w : World) : (ReflectliteType.relation "AssignableTo" ReflectliteType.assignableTo #[hnd 75, .iface 119 (hnd 75)]).run Tryd.prog w = .ok (.bool true) w := by kernel_rfl
theorem xParts (a : Addr) (w : World) : (ReflectliteValue.parts (rvl 77 a 150)).run Tryd.prog w = .ok (some (77, a, 150)) w := by kernel_rfl
theorem xPartsA (a : Addr) (w : World) : (ReflectliteValue.parts (rvl 75 a 386)).run Tryd.prog w = .ok (some (75, a, 386)) w := by kernel_rfl
theorem xPartsC (a : Addr) (w : World) : (ReflectliteValue.parts (rvl 75 a 130)).run Tryd.prog w = .ok (some (75, a, 130)) w := by kernel_rfl
theorem xElemOf (w : World) : (Rtype.elem? 77).run Tryd.prog w = .ok (some 75) w := by kernel_rfl
theorem xMk (p : Addr) (w : World) : (ReflectliteValue.mk 75 p ReflectliteValue.flagAddr).run Tryd.prog w = .ok (rvl 75 p 386) w := by kernel_rfl
theorem xDirect (w : World) : (Rtype.directlyAssignable 75 75).run Tryd.prog w = .ok true w := by kernel_rfl
theorem mKind (h : Value) (w : World) : (Go.method 278 119 (.agg #[h]) "Kind").run Tryd.prog w = .ok (98, h) w := by kernel_rfl
theorem mElem (h : Value) (w : World) : (Go.method 278 119 (.agg #[h]) "Elem").run Tryd.prog w = .ok (111, .agg #[h]) w := by kernel_rfl
theorem mImpl (h : Value) (w : World) : (Go.method 278 119 (.agg #[h]) "Implements").run Tryd.prog w = .ok (112, .agg #[h]) w := by kernel_rfl
theorem mAss (h : Value) (w : World) : (Go.method 278 119 (.agg #[h]) "AssignableTo").run Tryd.prog w = .ok (109, .agg #[h]) w := by kernel_rfl
theorem mUnwrap (v : Value) (w : World) : (Go.method 278 93 v "Unwrap").run Tryd.prog w = .ok (104, v) w := by kernel_rfl
theorem noAs (v : Value) (xT : TypeId) (w : World) : (Instr.typeAssert (.iface 93 v) xT 124 true).run Tryd.prog w = .ok (.tuple #[.nilIface, .bool false]) w := run_typeAssert_lacksB Tryd.underlying124 (by kernel_rfl) (by kernel_rfl) v xT w
theorem hasUn (v : Value) (xT : TypeId) (w : World) : (Instr.typeAssert (.iface 93 v) xT 127 true).run Tryd.prog w = .ok (.tuple #[.iface 93 v, .bool true]) w := run_typeAssert_hasB Tryd.underlying127 (by kernel_rfl) v xT w
/-- (Value).IsNil of a pointer that isn't nil. -/
theorem xIsNil (a p : Addr) (W : World) (ha : W.cell? a = some (.pointer (some p))) :
    (ReflectliteValue.method (ReflectliteValue.valueError "reflectlite.Value.IsNil" 0) ReflectliteValue.isNil #[rvl 77 a 150]).run Tryd.prog W = .ok (.bool false) W := by
  refine Eq.trans (congrArg (fun z => Sem.run Tryd.prog z W) (show ReflectliteValue.method (ReflectliteValue.valueError "reflectlite.Value.IsNil" 0) ReflectliteValue.isNil #[rvl 77 a 150] = (ReflectliteValue.parts (rvl 77 a 150) >>= _) from rfl)) ?_
  simp only [Sem.run_bind, xParts, Result.andThen]
  simp [ReflectliteValue.isNil, loadVar, isAgg, underlying, Tryd.underlying77, ha, Result.andThen]
/-- (Value).Elem of such a pointer: the variable that it points to. -/
theorem xElemV (a p : Addr) (W : World) (ha : W.cell? a = some (.pointer (some p))) :
    (ReflectliteValue.method (ReflectliteValue.valueError "reflectlite.Value.Elem" 0) ReflectliteValue.elem #[rvl 77 a 150]).run Tryd.prog W = .ok (rvl 75 p 386) W := by
  refine Eq.trans (congrArg (fun z => Sem.run Tryd.prog z W) (show ReflectliteValue.method (ReflectliteValue.valueError "reflectlite.Value.Elem" 0) ReflectliteValue.elem #[rvl 77 a 150] = (ReflectliteValue.parts (rvl 77 a 150) >>= _) from rfl)) ?_
  simp only [Sem.run_bind, xParts, Result.andThen]
  simp [ReflectliteValue.elem, loadVar, isAgg, underlying, Tryd.underlying77, ha, Result.andThen, xElemOf, xMk]
/-- (Value).Set: the variable gets what the other value's holds. -/
theorem xSet (t b : Addr) (n : Int) (old : Value) (W : World) (hb : W.cell? b = some (.int .i64 n)) (ht : W.cell? t = some old) (hf : W.frozen? t = false) :
    (ReflectliteValue.set #[rvl 75 t 386, rvl 75 b 130]).run Tryd.prog W = .ok (.tuple #[]) (W.setCell t (.int .i64 n)) := by
  refine Eq.trans (congrArg (fun z => Sem.run Tryd.prog z W) (show ReflectliteValue.set #[rvl 75 t 386, rvl 75 b 130] = (ReflectliteValue.parts (rvl 75 t 386) >>= fun p => ReflectliteValue.parts (rvl 75 b 130) >>= fun q => _) from rfl)) ?_
  simp only [Sem.run_bind, xPartsA, xPartsC, Result.andThen]
  simp [ReflectliteValue.flagAddr, loadVar, isAgg, underlying, Tryd.underlying75, hb, Result.andThen, xDirect, storeVar, Value.cells, storeCells, Addr.add]
  rw [run_store Tryd.prog W t _ _ (by rfl)]
  simp [ht, hf]
set_option maxRecDepth 100000 in
set_option maxHeartbeats 4000000 in
theorem pas_hit (f : ByteArray) (n : Int) (b : Nat) (w : World) (hg : w.cell? ⟨0, 0, none⟩ = some (.iface 119 (hnd 72))) (hT : Bq w b 75 [.int .i64 0]) :
    Calls Tryd.prog 34 #[.iface 93 (.agg #[.string f, .iface 75 (.int .i64 n)]), .iface 77 (.pointer (some ⟨b, 0, none⟩))] w fun ev w' => ev = .returned (.bool true) ∧ Ex b b w w' ∧ Bq w' b 75 [.int .i64 n] := by
  obtain ⟨t, et⟩ : ∃ t : Addr, ⟨b, 0, none⟩ = t := ⟨_, rfl⟩
  have ht0 : w.cell? t = some (.int .i64 0) := by rw [← et]; exact hT.cell 0 rfl
  have hf0 : w.frozen? t = false := by rw [← et]; exact hT.free 0
  have G5 : Hid (Bl w (((((w.alloc (.cells #[.pointer (some t)] 77)).alloc (.cells #[.pointer (some ⟨5, 77, none⟩), .pointer (some ⟨w.heap.size, 0, none⟩), .int .u64 150] 100)).alloc (.cells #[.pointer (some ⟨5, 77, none⟩), .pointer (some ⟨w.heap.size, 0, none⟩), .int .u64 150] 100)).alloc (.cells #[.string f, .iface 75 (.int .i64 n)] 93)).alloc (.cells #[.int .i64 n] 75))) :=
    (((((Bl.refl w).alloc _).alloc _).alloc _).alloc _).alloc _
  have HT := Lib.hid hT
  have HET := Lib.hid et
  rw [et]
  clear hT
  have hlt : 0 < w.heap.size := World.block_lt_of_cell? w _ hg
  have htl : t.block < w.heap.size := World.block_lt_of_cell? w _ ht0
  have b0 : ((w.alloc (.cells #[.pointer (some t)] 77)).alloc (.cells #[.pointer (some ⟨5, 77, none⟩), .pointer (some ⟨w.heap.size, 0, none⟩), .int .u64 150] 100)).cell? ⟨w.heap.size, 0, none⟩ = some (.pointer (some t)) :=
    ((Bq.new w 77 [.pointer (some t)]).alloc _).cell 0 rfl
  have n1 := xIsNil ⟨w.heap.size, 0, none⟩ t _ b0
  have el := xElemV ⟨w.heap.size, 0, none⟩ t ((((w.alloc (.cells #[.pointer (some t)] 77)).alloc (.cells #[.pointer (some ⟨5, 77, none⟩), .pointer (some ⟨w.heap.size, 0, none⟩), .int .u64 150] 100)).alloc (.cells #[.pointer (some ⟨5, 77, none⟩), .pointer (some ⟨w.heap.size, 0, none⟩), .int .u64 150] 100)).alloc (.cells #[.string f, .iface 75 (.int .i64 n)] 93))
    (((((Bq.new w 77 [.pointer (some t)]).alloc _).alloc _).alloc _).cell 0 rfl)
  have sz4 : ((((w.alloc (.cells #[.pointer (some t)] 77)).alloc (.cells #[.pointer (some ⟨5, 77, none⟩), .pointer (some ⟨w.heap.size, 0, none⟩), .int .u64 150] 100)).alloc (.cells #[.pointer (some ⟨5, 77, none⟩), .pointer (some ⟨w.heap.size, 0, none⟩), .int .u64 150] 100)).alloc (.cells #[.string f, .iface 75 (.int .i64 n)] 93)).heap.size = w.heap.size + 1 + 1 + 1 + 1 := by simp
  have bn := (Bq.new ((((w.alloc (.cells #[.pointer (some t)] 77)).alloc (.cells #[.pointer (some ⟨5, 77, none⟩), .pointer (some ⟨w.heap.size, 0, none⟩), .int .u64 150] 100)).alloc (.cells #[.pointer (some ⟨5, 77, none⟩), .pointer (some ⟨w.heap.size, 0, none⟩), .int .u64 150] 100)).alloc (.cells #[.string f, .iface 75 (.int .i64 n)] 93)) 75 [.int .i64 n]).cell 0 rfl
  rw [sz4] at bn
  have st := xSet t ⟨w.heap.size + 1 + 1 + 1 + 1, 0, none⟩ n (.int .i64 0) _ bn ((G5.out.cell htl).trans ht0) ((Below.frozen G5.out htl).trans hf0)
  have hw5 : Hid (Ex b b w ((((((w.alloc (.cells #[.pointer (some t)] 77)).alloc (.cells #[.pointer (some ⟨5, 77, none⟩), .pointer (some ⟨w.heap.size, 0, none⟩), .int .u64 150] 100)).alloc (.cells #[.pointer (some ⟨5, 77, none⟩), .pointer (some ⟨w.heap.size, 0, none⟩), .int .u64 150] 100)).alloc (.cells #[.string f, .iface 75 (.int .i64 n)] 93)).alloc (.cells #[.int .i64 n] 75)).setCell t (.int .i64 n)) ∧ Bq ((((((w.alloc (.cells #[.pointer (some t)] 77)).alloc (.cells #[.pointer (some ⟨5, 77, none⟩), .pointer (some ⟨w.heap.size, 0, none⟩), .int .u64 150] 100)).alloc (.cells #[.pointer (some ⟨5, 77, none⟩), .pointer (some ⟨w.heap.size, 0, none⟩), .int .u64 150] 100)).alloc (.cells #[.string f, .iface 75 (.int .i64 n)] 93)).alloc (.cells #[.int .i64 n] 75)).setCell t (.int .i64 n)) b 75 [.int .i64 n]) := by
    refine ⟨(Ex.of_bl G5.out).trans ?_, ?_⟩
    · rw [← et]; exact Ex.set _ _ _ _ (Or.inl rfl)
    · rw [← et]; rw [← et] at G5; exact (HT.out.bl G5.out).set 0 (.int .i64 n)
  have e1 := @run_callFunc_extern Tryd.prog 46 _ (fun args => ReflectliteValue.unpack (args.getD 0 (.tuple #[]))) Tryd.func46 (by kernel_rfl) (by kernel_rfl) (by kernel_rfl) (by kernel_rfl)
  have e2 := @run_callFunc_extern Tryd.prog 47 _ (ReflectliteValue.methodAny (ReflectliteValue.valueError "reflectlite.Value.Type" 0) (fun t _ _ _ => ReflectliteType.toType t)) Tryd.func47 (by kernel_rfl) (by kernel_rfl) (by kernel_rfl) (by kernel_rfl)
  have e3 := @run_callFunc_extern Tryd.prog 48 _ (ReflectliteValue.method (ReflectliteValue.valueError "reflectlite.Value.IsNil" 0) ReflectliteValue.isNil) Tryd.func48 (by kernel_rfl) (by kernel_rfl) (by kernel_rfl) (by kernel_rfl)
  have e4 := @run_callFunc_extern Tryd.prog 98 _ (ReflectliteType.abiMethod fun t => do pure (.int .u8 (← Rtype.kind t))) Tryd.func98 (by kernel_rfl) (by kernel_rfl) (by kernel_rfl) (by kernel_rfl)
  have e5 := @run_callFunc_extern Tryd.prog 111 _ (ReflectliteType.method ReflectliteType.elem) Tryd.func111 (by kernel_rfl) (by kernel_rfl) (by kernel_rfl) (by kernel_rfl)
  have e6 := @run_callFunc_extern Tryd.prog 112 _ (ReflectliteType.relation "Implements" ReflectliteType.implements_) Tryd.func112 (by kernel_rfl) (by kernel_rfl) (by kernel_rfl) (by kernel_rfl)
  have e7 := @run_callFunc_extern Tryd.prog 63 _ ReflectliteType.typeOf Tryd.func63 (by kernel_rfl) (by kernel_rfl) (by kernel_rfl) (by kernel_rfl)
  have e8 := @run_callFunc_extern Tryd.prog 109 _ (ReflectliteType.relation "AssignableTo" ReflectliteType.assignableTo) Tryd.func109 (by kernel_rfl) (by kernel_rfl) (by kernel_rfl) (by kernel_rfl)
  have e9 := @run_callFunc_extern Tryd.prog 64 _ (ReflectliteValue.method (ReflectliteValue.valueError "reflectlite.Value.Elem" 0) ReflectliteValue.elem) Tryd.func64 (by kernel_rfl) (by kernel_rfl) (by kernel_rfl) (by kernel_rfl)
  have e10 := @run_callFunc_extern Tryd.prog 65 _ ReflectliteValue.set Tryd.func65 (by kernel_rfl) (by kernel_rfl) (by kernel_rfl) (by kernel_rfl)
  have m1 := mKind
  have m2 := mElem
  have m3 := mImpl
  have m4 := mAss
  have m5 := mUnwrap
  have a1 := noAs
  have a2 := hasUn
  have f1 := xValueOf
  have f1c := xValueOfC
  have f2 := xType
  have f4 := xKind
  have f4c := xKindC
  have f5 := xElem
  have f6 := xImpl
  have f7 := xTypeOfF
  have f7c := xTypeOfC
  have f8 := xAssF
  have f8c := xAssC
  go_enter Tryd.func34, Tryd.ntmps34
  go_wp2
  refine wp_loop_rounds 2 ?_
  rw [rounds_succ]
  go_wp2
  rw [rounds_succ]
  (try dsimp only [Array.getD_eq_getD_getElem?])
  go_wp2
  go_ret
  exact ⟨rfl, hw5.out⟩
end Go.Proofs.YtdaglbjdgdokpaaDoor
