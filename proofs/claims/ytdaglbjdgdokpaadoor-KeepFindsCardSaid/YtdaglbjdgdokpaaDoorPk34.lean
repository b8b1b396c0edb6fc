/-
  Package disk: torn. · Package disk: torn, walked. · Package disk: torn, walked. · Package disk: torn. · Package disk: Crash.
-/
import Derived.Test.YtdaglbjdgdokpaaDoorPk12
import Derived.Laws.CopyOwn
import Derived.Laws.IdiomStrings
import Derived.Laws.Strings2
import Derived.Laws.MakeOwn
import Derived.Test.YtdaglbjdgdokpaaDoorPk10
import Derived.Laws.BitsAllLaws
import Derived.Lib.AppendStr
import Derived.Test.YtdaglbjdgdokpaaDoorPk33
import Derived.Test.YtdaglbjdgdokpaaDoorPk21
import Derived.Deep.RegionHeld3
namespace Go.Proofs.YtdaglbjdgdokpaaDoor
open Go.RowKit
set_option linter.unusedVariables false
set_option linter.unusedSimpArgs false

/-- A block of bytes. -/
def bcs (R : List UInt8) : List Value := R.map fun b => Value.int .u8 (b.toNat : Int)
theorem bcs_len (R : List UInt8) : (bcs R).length = R.length := by simp [bcs]
def Bb (w : World) (g : Nat) (R : List UInt8) : Prop := w.heap[g]? = some (.cells (bcs R).toArray 5 (0, 0))
theorem Bb.lt {w : World} {g : Nat} {R : List UInt8} (h : Bb w g R) : g < w.heap.size := (Array.getElem?_eq_some_iff.1 h).1
theorem Bb.drew {w : World} {g : Nat} {R : List UInt8} (h : Bb w g R) : Bb w.drew g R := h
theorem Bb.cell {w : World} {g : Nat} {R : List UInt8} (h : Bb w g R) (i : Nat) (hi : i < R.length) : w.cell? ⟨g, i, none⟩ = some (.int .u8 (R[i].toNat : Int)) := by
  unfold Bb at h
  simp [World.cell?, h, bcs, hi]
theorem info8' : (Tryd.prog.info? 5).map (fun i => (i.zero, i.size, i.bytes)) = some (some (.int .u8 0), 1, 1) := by kernel_rfl
theorem made8 (n : Nat) (hn : n ≤ 140737488355328) (w : World) : (Instr.makeSlice 84 (.int .i64 (n : Int)) (.int .i64 (n : Int))).run Tryd.prog w = .ok (.slice (some ⟨w.heap.size, 0, none⟩) n n) (w.alloc (.cells (bcs (List.replicate n 0)).toArray 5)) := by
  cases hi : Tryd.prog.info? 5 with
  | none => have := info8'; rw [hi] at this; cases this
  | some i =>
    have h := info8'
    rw [hi] at h
    simp only [Option.map_some, Option.some.injEq, Prod.mk.injEq] at h
    obtain ⟨hz, hs, hb⟩ := h
    have hr := run_make (P := Tryd.prog) w 84 5 i (.int .u8 0) Tryd.underlying84 hi hz .i64 .i64 (n : Int) (n : Int) (by omega) (by omega) (by rw [hb]; omega) (by omega)
    rw [hr, hs]
    simp only [Int.toNat_natCast, Nat.mul_one]
    have e1 : madeCells (Value.int .u8 0).cells n = (bcs (List.replicate n 0)).toArray := by
      apply Array.toList_inj.1
      have h1 : (Value.int .u8 0).cells = #[.int .u8 0] := rfl
      rw [h1, toList_madeCells_one]
      simp [bcs]
    rw [e1]
theorem run_copy_str {P : Program} (w : World) (dT sT ty elem : TypeId) (g o dLen dCap : Nat) (s : ByteArray) (R : List UInt8) (hu : P.underlying dT = some (.slice elem)) (hs : (P.info? elem).map (·.size) = some 1)
    (hg : w.heap[g]? = some (.cells (bcs R).toArray 5 (0, 0))) (hfit : o + Nat.min s.size dLen ≤ R.length) :
    ∃ w', (Builtin.copy_ #[dT, sT] ty #[.slice (some ⟨g, o, none⟩) dLen dCap, .string s]).run P w = .ok (goInt (Nat.min s.size dLen)) w' ∧ Bb w' g (splice R o (s.data.toList.take (Nat.min s.size dLen))) ∧ Below g w w' := by
  obtain ⟨n, hn⟩ : ∃ n, Nat.min s.size dLen = n := ⟨_, rfl⟩
  have hns : n ≤ s.size := by rw [← hn]; exact Nat.min_le_left _ _
  rw [hn] at hfit ⊢
  have hsz : s.data.toList.length = s.size := by show _ = s.data.size; simp
  have hlen : (bcs (s.data.toList.take n)).length = n := by rw [bcs_len, List.length_take]; omega
  have h1 : ∀ v ∈ bcs (s.data.toList.take n), v.oneCell' = true := by
    intro v hv
    obtain ⟨b, _, rfl⟩ := List.mem_map.1 hv
    rfl
  have hst := run_storeCells_at P g o 5 (bcs (s.data.toList.take n)) 0 (bcs R).toArray w hg (by rw [hlen, List.size_toArray, bcs_len]; omega) h1
  simp only [Nat.add_zero, hlen] at hst
  have hcells : (s.extract 0 n).data.map (fun b => Value.int .u8 (b.toNat : Int)) = (bcs (s.data.toList.take n)).toArray := by
    obtain ⟨⟨s⟩⟩ := s
    rw [ByteArray.extract_mk]
    apply Array.ext'
    simp [bcs]
  refine ⟨w.setRow g ((bcs R).take o ++ bcs (s.data.toList.take n) ++ (bcs R).drop (o + n)).toArray, ?_, ?_, ?_⟩
  rotate_left 1
  · have h2 := setRow_heap w g _ ((bcs R).take o ++ bcs (s.data.toList.take n) ++ (bcs R).drop (o + n)).toArray _ _ hg
    show _ = _
    refine h2.trans ?_
    congr 3
    have : (s.data.toList.take n).length = n := by rw [List.length_take]; omega
    unfold splice bcs
    rw [this]
    simp only [List.map_append, List.map_take, List.map_drop, List.append_assoc]
  · exact below_setRow (Below.refl _ _) (Nat.le_refl _) _
  · cases hq : P.info? elem with
    | none => simp [hq] at hs
    | some i =>
      have hi : i.size = 1 := by simpa [hq] using hs
      have hn' : min s.size dLen = n := hn
      obtain ⟨C, hC⟩ : ∃ C, bcs (s.data.toList.take n) = C := ⟨_, rfl⟩
      rw [hC] at hcells hst ⊢
      have hf : (Builtin.firstCells 1 n (.string s)).run P w = .ok C.toArray w := by
        simp only [Builtin.firstCells, Sem.run_pure, hcells]
      obtain ⟨W', hW'⟩ : ∃ W', w.setRow g ((bcs R).take o ++ C ++ (bcs R).drop (o + n)).toArray = W' := ⟨_, rfl⟩
      rw [hW'] at hst ⊢
      simp [Builtin.copy_, run_underlying hu, Builtin.lenOf, sizeOf, typeInfo, hq, hi, hn', hf, hst]
/-- copy from a string, at a step of a region that draws its order. -/
theorem step_copy_str {P : Program} {ops : Array Oper} {o : Oper} {a : Act} {w : World} {K : Act → World → Prop} {Q : Exit → Act → World → Prop} {E : Prop} (hgd : o.guard = none) (d x : Operand) (dT sT : TypeId)
    (ho : o.op = .call { callee := .builtin .copy, args := #[d, x], argTypes := #[dT, sT] }) (elem : TypeId) (hu : P.underlying dT = some (.slice elem)) (hsz : (P.info? elem).map (·.size) = some 1)
    (g off dLen dCap : Nat) (s : ByteArray) (hd : a.eval d = .slice (some ⟨g, off, none⟩) dLen dCap) (hx : a.eval x = .string s) (R R' : List UInt8) (hg : Bb w g R) (hfit : off + Nat.min s.size dLen ≤ R.length)
    (hR : splice R off (s.data.toList.take (Nat.min s.size dLen)) = R')
    (h : ∀ v w', Hid (Bb w' g R') → Below g w w' → K (a.put o.dst v) w') :
    if Region.wanted o (yielded ops a.tmps) = true then Oper.wp P o a w K Q else E := by
  have hw : Region.wanted o (yielded ops a.tmps) = true := by simp [Region.wanted, hgd]
  rw [if_pos hw]
  obtain ⟨w', hrun, hb, hk⟩ := run_copy_str (P := P) w dT sT o.type elem g off dLen dCap s R hu hsz hg hfit
  rw [hR] at hb
  unfold Oper.wp
  simp only [execOp, ho, resolve, invoke, builtin, Sem.run_bind, Sem.run_pure, Result.andThen_ok, List.map_toArray, List.map_cons, List.map_nil, hd, hx, hrun]
  exact h _ _ hb hk
/-- The row behind k blocks. -/
def tRow (f : Fl) (m k : Nat) : List UInt8 := (List.range (tLen f m)).map fun i => if i < 16 * k then tByte f m i else 0
theorem tRow_len (f : Fl) (m k : Nat) : (tRow f m k).length = tLen f m := by simp [tRow]
theorem tRow_zero (f : Fl) (m : Nat) : tRow f m 0 = List.replicate (tLen f m) 0 := by
  unfold tRow
  refine List.ext_getElem (by simp) fun i h1 h2 => ?_
  simp
theorem tRow_end {f : Fl} {m k : Nat} (h : tLen f m ≤ 16 * k) : (⟨(tRow f m k).toArray⟩ : ByteArray) = torn f m := by
  unfold torn tRow
  congr 2
  refine List.map_congr_left fun i hi => ?_
  have := List.mem_range.1 hi
  rw [if_pos (by omega)]
theorem tRow_step {f : Fl} {m k : Nat} (h : 16 * k < tLen f m) :
    splice (tRow f m k) (16 * k) (((tSrc f m k).extract (Nat.min (16 * k) (tSrc f m k).size) (tSrc f m k).size).data.toList.take (Nat.min ((tSrc f m k).size - Nat.min (16 * k) (tSrc f m k).size) (Nat.min (16 * k + 16) (tLen f m) - 16 * k))) = tRow f m (k + 1) := by
  obtain ⟨S, hS⟩ : ∃ S, tSrc f m k = S := ⟨_, rfl⟩
  rw [hS]
  obtain ⟨⟨sl⟩⟩ := S
  rw [ByteArray.extract_mk]
  have hsz : (ByteArray.mk ⟨sl⟩).size = sl.length := rfl
  rw [hsz]
  obtain ⟨n, hn⟩ : ∃ n, tLen f m = n := ⟨_, rfl⟩
  have hx : Nat.min (16 * k) sl.length = min (16 * k) sl.length := rfl
  rw [hx]
  obtain ⟨q, hq⟩ : ∃ q, Nat.min (sl.length - min (16 * k) sl.length) (Nat.min (16 * k + 16) (tLen f m) - 16 * k) = q := ⟨_, rfl⟩
  have hq' : q = min (sl.length - min (16 * k) sl.length) (min (16 * k + 16) n - 16 * k) := by rw [← hq, hn]
  rw [hq]
  show splice (tRow f m k) (16 * k) (((sl.drop (min (16 * k) sl.length)).take (sl.length - min (16 * k) sl.length)).take q) = _
  have hcl : (((sl.drop (min (16 * k) sl.length)).take (sl.length - min (16 * k) sl.length)).take q).length = q := by simp <;> omega
  have hcg : ∀ j, j < q → (((sl.drop (min (16 * k) sl.length)).take (sl.length - min (16 * k) sl.length)).take q)[j]? = sl[16 * k + j]? := by
    intro j hj
    rw [List.getElem?_take, if_pos hj, List.getElem?_take, if_pos (by omega), List.getElem?_drop]
    congr 1
    omega
  obtain ⟨C, hC⟩ : ∃ C, ((sl.drop (min (16 * k) sl.length)).take (sl.length - min (16 * k) sl.length)).take q = C := ⟨_, rfl⟩
  rw [hC] at hcl hcg ⊢
  refine List.ext_getElem? fun i => ?_
  unfold splice
  rw [hcl]
  have tg : ∀ (k i : Nat), (tRow f m k)[i]? = if i < n then some (if i < 16 * k then tByte f m i else 0) else none := by
    intro k i
    unfold tRow
    rw [hn]
    by_cases hi : i < n
    · rw [if_pos hi]; simp [hi]
    · rw [if_neg hi]; simp; omega
  have hlen := tRow_len f m k
  rw [hn] at hlen h
  rcases Nat.lt_or_ge i (16 * k) with h1 | h1
  · rw [List.getElem?_append_left (by rw [List.length_take]; omega), List.getElem?_take, if_pos h1, tg, tg, if_pos (show i < n by omega), if_pos (show i < n by omega), if_pos h1, if_pos (by omega)]
  · rw [List.getElem?_append_right (by rw [List.length_take]; omega), List.length_take, Nat.min_eq_left (by omega)]
    rcases Nat.lt_or_ge i (16 * k + q) with h2 | h2
    · rw [List.getElem?_append_left (by omega), hcg _ (by omega), tg, if_pos (by omega), if_pos (by omega)]
      have h3 : 16 * k + (i - 16 * k) = i := by omega
      have h4 : i / 16 = k := by omega
      have h5 : i < sl.length := by omega
      rw [h3, List.getElem?_eq_getElem h5]
      unfold tByte
      rw [h4, hS]
      show some sl[i] = some ((sl[i]?).getD 0)
      rw [List.getElem?_eq_getElem h5]
      rfl
    · rw [List.getElem?_append_right (by omega), List.getElem?_drop, hcl, show 16 * k + q + (i - 16 * k - q) = i by omega, tg, tg]
      by_cases hi : i < n
      · rw [if_pos hi, if_pos hi, if_neg (by omega)]
        by_cases h6 : i < 16 * (k + 1)
        · rw [if_pos h6]
          have h4 : i / 16 = k := by omega
          have h5 : ¬ i < sl.length := by omega
          unfold tByte
          rw [h4, hS]
          show some 0 = some ((sl[i]?).getD 0)
          rw [List.getElem?_eq_none (by omega)]
          rfl
        · rw [if_neg h6]
      · rw [if_neg hi, if_neg hi]
theorem tSrc_size {f : Fl} (hd : f.d.size ≤ 140737488355328) (hs : f.s.size ≤ 140737488355328) (m k : Nat) : (tSrc f m k).size ≤ 140737488355328 := by
  unfold tSrc
  split
  · exact hd
  · exact hs
end Go.Proofs.YtdaglbjdgdokpaaDoor
namespace Go.Proofs.YtdaglbjdgdokpaaDoor
open Go.RowKit
set_option linter.unusedVariables false
set_option linter.unusedSimpArgs false

end Go.Proofs.YtdaglbjdgdokpaaDoor
namespace Go.Proofs.YtdaglbjdgdokpaaDoor
open Go.RowKit
set_option linter.unusedVariables false
set_option linter.unusedSimpArgs false

end Go.Proofs.YtdaglbjdgdokpaaDoor
namespace Go.Proofs.YtdaglbjdgdokpaaDoor
open Go.RowKit
end Go.Proofs.YtdaglbjdgdokpaaDoor
namespace Go.Proofs.YtdaglbjdgdokpaaDoor
open Go.RowKit
set_option linter.unusedVariables false
set_option linter.unusedSimpArgs false

theorem two_at' (w : World) (t0 t1 : TypeId) (c0 c1 : List Value) : Bq ((w.alloc (.cells c0.toArray t0)).alloc (.cells c1.toArray t1)) w.heap.size t0 c0 ∧ Bq ((w.alloc (.cells c0.toArray t0)).alloc (.cells c1.toArray t1)) (w.heap.size + 1) t1 c1 := by
  have h1 := Bq.new (w.alloc (.cells c0.toArray t0)) t1 c1
  rw [World.size_alloc] at h1
  exact ⟨(Bq.new w t0 c0).alloc _, h1⟩
/-- The files behind i of them. -/
def crTo (l : List Fl) (ms : List Nat) (i : Nat) : List Fl := (cr l ms).take i ++ l.drop i
theorem crTo_zero (l : List Fl) (ms : List Nat) : crTo l ms 0 = l := by simp [crTo]
theorem crTo_len (l : List Fl) (ms : List Nat) (i : Nat) : (crTo l ms i).length = l.length := by simp [crTo, cr_len]; omega
theorem crTo_end {l : List Fl} {ms : List Nat} {n : Nat} (h : l.length = n) : crTo l ms n = cr l ms := by
  unfold crTo
  rw [List.drop_of_length_le (by omega), List.append_nil, List.take_of_length_le (by rw [cr_len]; omega)]
theorem crTo_at {l : List Fl} {ms : List Nat} {i : Nat} (h : i < l.length) : (crTo l ms i)[i]'(by rw [crTo_len]; exact h) = l[i] := by
  unfold crTo
  rw [List.getElem_append_right (by simp [cr_len]; omega)]
  simp only [List.length_take, cr_len, Nat.min_eq_left (Nat.le_of_lt h), List.getElem_drop]
  congr 1
  omega
theorem crTo_step {l : List Fl} {ms : List Nat} {i : Nat} (h : i < l.length) : (crTo l ms i).set i (crF ms i l[i]) = crTo l ms (i + 1) := by
  refine List.ext_getElem? fun j => ?_
  have hl1 : (cr l ms).length = l.length := cr_len l ms
  rw [List.getElem?_set]
  unfold crTo
  have hlt : ((cr l ms).take i).length = i := by rw [List.length_take]; omega
  have hlt1 : ((cr l ms).take (i + 1)).length = i + 1 := by rw [List.length_take]; omega
  rcases Nat.lt_trichotomy j i with h1 | h1 | h1
  · rw [if_neg (by omega), List.getElem?_append_left (by omega), List.getElem?_append_left (by omega), List.getElem?_take, List.getElem?_take, if_pos h1, if_pos (by omega)]
  · subst h1
    rw [if_pos rfl, if_pos (by rw [List.length_append, hlt, List.length_drop]; omega), List.getElem?_append_left (by omega), List.getElem?_take, if_pos (by omega), List.getElem?_eq_getElem (by omega), cr_get l ms j h]
  · rw [if_neg (by omega), List.getElem?_append_right (by omega), List.getElem?_append_right (by omega), hlt, hlt1, List.getElem?_drop, List.getElem?_drop]
    congr 1
    omega
theorem crF_same {f : Fl} (h : f.d = f.s) (ms : List Nat) (i : Nat) : crF ms i f = f := by
  show (⟨f.n, ktp f (mk ms i), ktp f (mk ms i)⟩ : Fl) = f
  rw [ktp_same h]
  obtain ⟨a, b, c⟩ := f
  dsimp only at h
  rw [h]
theorem crTo_same {l : List Fl} {ms : List Nat} {i : Nat} (h : i < l.length) (hs : sEq l[i].d l[i].s = true) : crTo l ms (i + 1) = crTo l ms i := by
  rw [← crTo_step h, crF_same (sEq_iff.1 hs)]
  have hi : i < (crTo l ms i).length := by rw [crTo_len]; exact h
  have := List.set_getElem_self hi
  rwa [crTo_at h] at this
theorem Of.at_ {base : Nat} {w : World} {l : List Fl} {g n c : Nat} (h : Of base w (.slice (some ⟨g, 0, none⟩) n c) l) (i : Nat) (hi : i < l.length) : w.cell? ⟨g, i * 3, none⟩ = some (.string l[i].n) ∧ w.cell? ⟨g, i * 3 + 1, none⟩ = some (.string l[i].d) ∧ w.cell? ⟨g, i * 3 + 2, none⟩ = some (.string l[i].s) := by
  obtain ⟨A, c', e, h1, h2, h3, h4⟩ := h.fw
  simp only [Value.slice.injEq] at e
  obtain ⟨rfl, rfl, rfl⟩ := e
  obtain ⟨b, o, e, hx⟩ := h4.at_ hi
  simp only [Option.some.injEq, Addr.mk.injEq, and_true] at e
  obtain ⟨rfl, rfl⟩ := e
  rw [Nat.zero_add] at hx
  exact hx
theorem Of.free {base : Nat} {w : World} {l : List Fl} {g n c : Nat} (h : Of base w (.slice (some ⟨g, 0, none⟩) n c) l) (i : Nat) : w.frozen? ⟨g, i, none⟩ = false := by
  rcases h.open_ with ⟨e, _⟩ | ⟨g', c', e, _, _, _, _, hf⟩
  · cases e
  · simp only [Value.slice.injEq, Option.some.injEq, Addr.mk.injEq, and_true] at e
    obtain ⟨rfl, rfl, rfl⟩ := e
    exact hf i
theorem ktp_torn {f : Fl} (h : sEq f.d f.s = false) (m : Nat) : ktp f m = torn f m := by unfold ktp; rw [h]; rfl
theorem mk_none {ms : List Nat} (h : ms.length = 0) (i : Nat) : mk ms i = 0 := by unfold mk; rw [if_pos h]
theorem mk_some {ms : List Nat} {i : Nat} (h : i % ms.length < ms.length) : mk ms i = ms[i % ms.length] := by unfold mk; rw [if_neg (by intro e; rw [e] at h; omega), List.getElem?_eq_getElem h]; rfl
def OneEnd (W : World) (room : Int) (l : List Fl) (e : Ending) (w : World) : Prop := ∃ v, e = .returned (.agg #[.int .i64 room, v]) ∧ Fw w v l ∧ Bl W w
theorem OneEnd.mk {W w : World} {room : Int} {l : List Fl} {v : Value} (h : Fw w v l) (g : Bl W w) : OneEnd W room l (.returned (.agg #[.int .i64 room, v])) w := ⟨v, rfl, h, g⟩
theorem ret_one {W w : World} {fn : Func} {p : Tmp} {b : Nat} {tmps : Array Value} {room r0 : Int} {v : Value} {l : List Fl} {A : Option Addr} {n c : Nat} (h : fn.results = #[.cell p 24]) (hp : tmps.getD p undef = .pointer (some ⟨b, 0, none⟩))
    (hb : Bq w b 24 [.int .i64 r0, .slice A n c]) (hf : Fw w v l) (hg : Bl W w) (hbb : W.heap.size ≤ b) : bodyPost Tryd.prog fn (OneEnd W room l) Exit.ret { tmps := tmps, defers := [] } (set2 w b room v) :=
  bodyPost_ret (ret_disk h hp (set2_at hb room v)) rfl (OneEnd.mk (fw_set2 hf hb room v) (set2_bl hg hbb room v))
end Go.Proofs.YtdaglbjdgdokpaaDoor
