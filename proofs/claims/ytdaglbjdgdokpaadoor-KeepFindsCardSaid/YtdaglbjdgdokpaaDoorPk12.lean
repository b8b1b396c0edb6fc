/-
  Package disk: nameable, holding, New; the closures of find and put; slices.IndexFunc over each; find. · slices.Grow and slices.Concat over files; package disk: replaced. · Package disk: taken, put, Used.
-/
import Derived.Test.YtdaglbjdgdokpaaDoorPk11
import Derived.Test.YtdaglbjdgdokpaaDoorPk6
import Derived.Laws.Cover1
import Derived.Laws.EntriesVeiled
import Derived.Laws.Small
import Derived.Laws.ResultCell
import Derived.BigQuiet
import Derived.Test.YtdaglbjdgdokpaaDoorReg
import Derived.Deep.RegionWith
namespace Go.Proofs.YtdaglbjdgdokpaaDoor
open Go.RowKit
set_option linter.unusedVariables false
set_option linter.unusedSimpArgs false

/-- A result that lies in a cell of its own. -/
theorem results_cell {fn : Func} {p : Tmp} {ty : TypeId} (h : fn.results = #[.cell p ty]) (tmps : Array Value) (P : Program) (w : World) :
    (results fn tmps).run P w = ((asAddr (tmps.getD p undef)).run P w).andThen fun a w₁ => (loadVar ty a).run P w₁ := by
  simp only [results, h]
  simp [Sem.run_bind, Result.andThen]
theorem ret_disk {fn : Func} {p : Tmp} {w : World} {b : Nat} {tmps : Array Value} {room : Int} {v : Value} (h : fn.results = #[.cell p 24]) (hp : tmps.getD p undef = .pointer (some ⟨b, 0, none⟩))
    (hb : Bq w b 24 [.int .i64 room, v]) : (results fn tmps).run Tryd.prog w = .ok (.agg #[.int .i64 room, v]) w := by
  rw [results_cell h, hp]
  have e : (asAddr (.pointer (some ⟨b, 0, none⟩))).run Tryd.prog w = .ok (⟨b, 0, none⟩ : Addr) w := by simp [asAddr, go_sem]
  rw [e]
  simp only [Result.andThen]
  have c0 := hb.cell 0 rfl
  have c1 := hb.cell 1 rfl
  clear hb hp h e
  go_simp
theorem ret_disk2 {fn : Func} {p u : Tmp} {w : World} {b : Nat} {tmps : Array Value} {room : Int} {v x : Value} (h : fn.results = #[.cell p 24, .tmp u]) (hp : tmps.getD p undef = .pointer (some ⟨b, 0, none⟩)) (hu : tmps.getD u undef = x)
    (hb : Bq w b 24 [.int .i64 room, v]) : (results fn tmps).run Tryd.prog w = .ok (.tuple #[.agg #[.int .i64 room, v], x]) w := by
  refine ret_cell9 h hp hu ?_
  have c0 := hb.cell 0 rfl
  have c1 := hb.cell 1 rfl
  clear hb hp hu h
  go_simp
/-- A disk's two cells are written. -/
def set2 (w : World) (b : Nat) (room : Int) (v : Value) : World := (w.setCell ⟨b, 0, none⟩ (.int .i64 room)).setCell ⟨b, 1, none⟩ v
theorem set2_at {w : World} {b : Nat} {x y : Value} (h : Bq w b 24 [x, y]) (room : Int) (v : Value) : Bq (set2 w b room v) b 24 [.int .i64 room, v] := (h.set 0 _).set 1 _
theorem set2_bl {W w : World} {b : Nat} (h : Bl W w) (hb : W.heap.size ≤ b) (room : Int) (v : Value) : Bl W (set2 w b room v) := (h.setCell (p := ⟨b, 0, none⟩) hb _).setCell (p := ⟨b, 1, none⟩) hb _
theorem size_zero {s : ByteArray} : s.size = 0 ↔ s = ⟨#[]⟩ := by
  constructor
  · intro h
    obtain ⟨⟨s⟩⟩ := s
    have : s.length = 0 := h
    rw [List.length_eq_zero_iff] at this
    rw [this]
  · rintro rfl; rfl
set_option maxRecDepth 100000 in
theorem rname_any (s : ByteArray) (hs : s.size ≤ 140737488355328) (w : World) :
    Calls Tryd.prog 11 #[.string s] w fun e w' => e = .returned (.bool (mayN s)) ∧ w = w' := by
  have hnb : (s.size : Int) ≤ 140737488355328 := by omega
  unfold mayN
  obtain ⟨n, hn⟩ : ∃ n, s.size = n := ⟨_, rfl⟩
  rw [hn] at hnb ⊢
  clear hs
  by_cases h : 1 ≤ n
  · rw [decide_eq_true h, Bool.true_and]
    have b1 : (1 : Int) ≤ (n : Int) := by omega
    clear h
    go_enter Tryd.func11, Tryd.ntmps11
    go_wp2
    go_ret
    exact ⟨by simp; omega, rfl⟩
  · obtain rfl : n = 0 := by omega
    go_enter Tryd.func11, Tryd.ntmps11
    go_wp2
    go_ret
    exact ⟨by simp, rfl⟩
set_option maxRecDepth 100000 in
theorem pfind1_any (n d s t : ByteArray) (b : Nat) (w : World) (hb : w.cell? ⟨b, 0, none⟩ = some (.string t)) :
    Calls Tryd.prog 32 #[.agg #[.string n, .string d, .string s], .pointer (some ⟨b, 0, none⟩)] w fun e w' => e = .returned (.bool (sEq n t)) ∧ Bl w w' := by
  have hlt := World.block_lt_of_cell? w _ hb
  go_enter Tryd.func32, Tryd.ntmps32
  go_wp2
  go_ret
  exact ⟨rfl, (Bl.refl w).alloc _⟩
/-- Nothing was found among the first i. -/
def NoTo (l : List Fl) (p : Fl → Bool) (i : Nat) : Prop := ∀ j (h : j < l.length), j < i → p l[j] = false
theorem noTo_step {l : List Fl} {p : Fl → Bool} {i : Nat} (h : NoTo l p i) (hi : i < l.length) (hp : p l[i] = false) : NoTo l p (i + 1) := by
  intro j hj hji
  rcases Nat.lt_succ_iff_lt_or_eq.1 hji with h3 | rfl
  · exact h j hj h3
  · exact hp
theorem ix_at {l : List Fl} {p : Fl → Bool} {i : Nat} (h : NoTo l p i) (hi : i < l.length) (hp : p l[i] = true) : ixv l.length (l.findIdx p) = (i : Int) := by
  rw [idx_at hi hp h]
  unfold ixv
  rw [if_pos hi]
theorem ix_none {l : List Fl} {p : Fl → Bool} {n : Nat} (h : NoTo l p n) (hn : l.length = n) : ixv l.length (l.findIdx p) = -1 := by
  rw [idx_none fun j hj => h j hj (by omega)]
  unfold ixv
  rw [if_neg (by omega)]
set_option maxRecDepth 100000 in
set_option maxHeartbeats 4000000 in
theorem pidxF_any (v : Value) (l : List Fl) (t : ByteArray) (b : Nat) (w : World) (hv : Fw w v l) (hb : w.cell? ⟨b, 0, none⟩ = some (.string t)) :
    Calls Tryd.prog 31 #[v, .func (.func 32) #[] #[.pointer (some ⟨b, 0, none⟩)]] w fun e w' => e = .returned (.int .i64 (ixv l.length (fnd l t))) ∧ Bl w w' := by
  have hnl := fw_len hv
  obtain ⟨n, hn⟩ : ∃ n, l.length = n := ⟨_, rfl⟩
  obtain ⟨A, c, rfl, _, _, _, hx⟩ := fw_open hv hn
  have H1 := Lib.hid hx
  have HL := Lib.hid hn
  have hlt := World.block_lt_of_cell? w _ hb
  have K := Lib.hid (fun W (g : Bl w W) n d s => pfind1_any n d s t b W ((g.cell hlt).trans hb))
  obtain ⟨r, hr⟩ : ∃ r, ixv l.length (fnd l t) = r := ⟨_, rfl⟩
  have HR := Lib.hid hr
  rw [hr]
  have hnb : (n : Int) ≤ 9223372036854775807 := by omega
  clear hx hnl hn hv hr hb hlt
  go_enter Tryd.func31, Tryd.ntmps31
  go_wp2
  go_loopw [8] (fun s wr => ∃ i : Nat, i ≤ n ∧ s = .int .i64 (i : Int) ∧ Hid (NoTo l (fun f => sEq f.n t) i) ∧ Hid (Bl w wr)) (fun s _ => n - (intOf s).toNat)
  case atStart => exact ⟨0, Nat.zero_le _, rfl, fun j _ h => absurd h (Nat.not_lt_zero _), Bl.refl w⟩
  case round =>
    obtain ⟨i, hin, rfl, ht, hb⟩ := hrel
    by_cases hlt : i < n
    · have hil : i < l.length := by rw [HL.out]; exact hlt
      obtain ⟨a1, o1, hA1, hc1, hc2, hc3⟩ := (H1.out.bl hb.out).at_ hil
      have s1 := Lib.hid (fun hp => noTo_step ht.out hil hp)
      have s2 := Lib.hid (fun hp => ix_at ht.out hil hp)
      obtain ⟨f, ef⟩ : ∃ f, l[i] = f := ⟨_, rfl⟩
      rw [ef] at s1 s2 hc1 hc2 hc3
      obtain ⟨fn, fd, fs⟩ := f
      dsimp only at s1 s2 hc1 hc2 hc3
      have b2 : (0 : Int) ≤ (i : Int) ∧ (i : Int) < (n : Int) := by omega
      have HI : Hid (i + 1 ≤ n) := hlt
      subst hA1
      have a24 := Tryd.isAgg39
      have z24 := Tryd.sizeOf39
      obtain ⟨q, eq⟩ : ∃ q, sEq fn t = q := ⟨_, rfl⟩
      rw [eq] at s1 s2
      have EQ := Lib.hid eq
      clear ef eq hlt hil
      cases q
      · have S1 := Lib.hid (s1.out rfl)
        clear s1 s2
        go_wp2_with (go_at_call 32; (with_reducible refine (K.out _ hb.out _ _ _).mono ?_); rintro e w1 ⟨rfl, hb1⟩; have G1 := Lib.hid (hb.out.trans hb1); clear hb1; rw [EQ.out])
        go_roundw
        case rel => exact ⟨i + 1, HI.out, by go_num, S1.out, G1.out⟩
        case measure => have := HI.out; simp [intOf] <;> omega
      · have S2 := Lib.hid (s2.out rfl)
        clear s1 s2
        go_wp2_with (go_at_call 32; (with_reducible refine (K.out _ hb.out _ _ _).mono ?_); rintro e w1 ⟨rfl, hb1⟩; have G1 := Lib.hid (hb.out.trans hb1); clear hb1; rw [EQ.out])
        go_ret
        exact ⟨congrArg (fun z => Ending.returned (Value.int .i64 z)) (S2.out.symm.trans HR.out), G1.out⟩
    · have hin' : i = n := by omega
      have S3 := Lib.hid (ix_none ht.out (HL.out.trans hin'.symm))
      clear hin'
      go_wp2
      go_ret
      exact ⟨congrArg (fun z => Ending.returned (Value.int .i64 z)) (S3.out.symm.trans HR.out), hb.out⟩
set_option maxRecDepth 100000 in
theorem pfind_any (v : Value) (l : List Fl) (t : ByteArray) (w : World) (hv : Fw w v l) :
    Calls Tryd.prog 23 #[v, .string t] w fun e w' => e = .returned (.int .i64 (ixv l.length (fnd l t))) ∧ Bl w w' := by
  have K := Lib.hid (pidxF_any v l t w.heap.size (w.alloc (.cells #[.string t] 9)) (hv.bl ((Bl.refl w).alloc _)) ((Bq.new w 9 [.string t]).cell 0 rfl))
  obtain ⟨A, c, rfl⟩ := fw_shape hv
  clear hv
  go_enter Tryd.func23, Tryd.ntmps23
  go_wp2_with (go_at_call 31; (with_reducible refine K.out.mono ?_); rintro e w1 ⟨rfl, hb1⟩; have G1 := Lib.hid (((Bl.refl w).alloc _).trans hb1); clear hb1)
  go_ret
  exact ⟨rfl, G1.out⟩
end Go.Proofs.YtdaglbjdgdokpaaDoor
namespace Go.Proofs.YtdaglbjdgdokpaaDoor
open Go.RowKit
set_option linter.unusedVariables false
set_option linter.unusedSimpArgs false

/-- What a call answers that makes a row of its own. -/
def OfEnd (W : World) (l : List Fl) (e : Ending) (w : World) : Prop := ∃ v, e = .returned v ∧ Of W.heap.size w v l ∧ Bl W w
theorem OfEnd.mk {W w : World} {l : List Fl} {v : Value} (h : Of W.heap.size w v l) (g : Bl W w) : OfEnd W l (.returned v) w := ⟨v, rfl, h, g⟩
set_option maxRecDepth 100000 in
/-- append of make to nothing. -/
theorem app_made {ops : Array Oper} {rest : List Oper} {o : Oper} {a : Act} {Q : Exit → Act → World → Prop} (W w : World)
    (hgd : o.guard = none) (s x : Operand) (ho : o.op = .call { callee := .builtin .append, args := #[s, x], argTypes := #[22, 3] })
    (n : Nat) (hs : a.eval s = .slice none 0 0) (hx : a.eval x = .int .i64 (n : Int)) (hbl : Bl W w) (h0 : 0 < n) (hn : n ≤ 1048576)
    (h : ∀ c w', ¬ c = 0 → Hid (Of W.heap.size w' (.slice (some ⟨w.heap.size, 0, none⟩) 0 c) []) → Hid (Bl W w') → wpList Tryd.prog ops Q rest (a.put o.dst (.slice (some ⟨w.heap.size, 0, none⟩) n c)) w') : wpList Tryd.prog ops Q (o :: rest) a w := by
  obtain ⟨i, z, hi, hz, hsize, hby, hzs⟩ := infoF
  have hr := Lib.run_append_nil_zeros (P := Tryd.prog) w 22 3 o.type 39 i z .i64 .i64 Tryd.underlying22 Tryd.underlying3 hi hz n h0 (by omega) (by omega) (by rw [hby]; omega)
  have hge := grownCap_ge w n 0 39
  have hle := grownCap_le_maxLen w n 0 39 (by unfold maxLen; omega)
  refine Lib.wpList_append_run w hgd s x _ _ ho _ _ hs hx _ _ hr (h _ _ (by omega) ?_ ?_)
  · refine World.ownsRow_made w.drew _ _ hbl.size hle ?_
    rw [Array.size_append, size_zeroCells, size_zeroCells, hzs, ← Nat.add_mul]
    congr 1
    omega
  · exact (hbl.drew).alloc _
def catTo (F : List (Value × List Fl)) (k : Nat) : List Fl := (F.take k).flatMap fun p => p.2
theorem catTo_step {F : List (Value × List Fl)} {k : Nat} (h : k < F.length) : catTo F (k + 1) = catTo F k ++ F[k].2 := by
  unfold catTo
  rw [List.take_add_one, List.getElem?_eq_getElem h, List.flatMap_append]
  simp
theorem catTo_le {F : List (Value × List Fl)} {k j : Nat} (h : k ≤ j) : (catTo F k).length ≤ (catTo F j).length := by
  unfold catTo
  have : F.take k = (F.take j).take k := by rw [List.take_take, Nat.min_eq_left h]
  rw [this]
  have e := congrArg List.length (congrArg (List.flatMap fun p : Value × List Fl => p.2) (List.take_append_drop k (F.take j)))
  rw [List.flatMap_append, List.length_append] at e
  omega
theorem OfEnd.bl {W w w' : World} {l : List Fl} {e : Ending} (h : OfEnd w l e w') (g : Bl W w) : OfEnd W l e w' := by
  obtain ⟨v, he, ho, hb⟩ := h
  exact ⟨v, he, ho.mono g.size, g.trans hb⟩
end Go.Proofs.YtdaglbjdgdokpaaDoor
namespace Go.Proofs.YtdaglbjdgdokpaaDoor
open Go.RowKit
set_option linter.unusedVariables false
set_option linter.unusedSimpArgs false

/-- What taken answers. -/
def DtkEnd (W : World) (v0 : Value) (l : List Fl) (s : ByteArray) (e : Ending) (w : World) : Prop := ∃ v, e = .returned (.tuple #[v, .agg #[.string (tkF l s).n, .string (tkF l s).d, .string (tkF l s).s], .bool (tkB l s)]) ∧ Fw w v (tkL l s) ∧ Bl W w ∧ (v = v0 ∨ ∀ b, v.ownBlock = some b → W.heap.size ≤ b)
theorem ret_taken {fn : Func} {p x y : Tmp} {w : World} {b : Nat} {tmps : Array Value} {n d s : ByteArray} {v u : Value} (h : fn.results = #[.tmp x, .cell p 39, .tmp y]) (hp : tmps.getD p undef = .pointer (some ⟨b, 0, none⟩)) (hx : tmps.getD x undef = v) (hy : tmps.getD y undef = u)
    (hb : Bq w b 39 [.string n, .string d, .string s]) : (results fn tmps).run Tryd.prog w = .ok (.tuple #[v, .agg #[.string n, .string d, .string s], u]) w := by
  simp only [results, h]
  have c0 := hb.cell 0 rfl
  have c1 := hb.cell 1 rfl
  have c2 := hb.cell 2 rfl
  have e : (asAddr (.pointer (some ⟨b, 0, none⟩))).run Tryd.prog w = .ok (⟨b, 0, none⟩ : Addr) w := by simp [asAddr, go_sem]
  have e2 : (loadVar 39 ⟨b, 0, none⟩).run Tryd.prog w = .ok (.agg #[.string n, .string d, .string s]) w := by
    clear hb hp h e
    go_simp
  rw [Array.getD_eq_getD_getElem?] at hp hx hy
  simp [Sem.run_bind, Result.andThen, hp, hx, hy, e, e2]
theorem set3_at {w : World} {b : Nat} {x y z : Value} (h : Bq w b 39 [x, y, z]) (n d s : Value) : Bq (((w.setCell ⟨b, 0, none⟩ n).setCell ⟨b, 1, none⟩ d).setCell ⟨b, 2, none⟩ s) b 39 [n, d, s] := ((h.set 0 _).set 1 _).set 2 _
theorem set3_bl {W w : World} {b : Nat} (h : Bl W w) (hb : W.heap.size ≤ b) (n d s : Value) : Bl W (((w.setCell ⟨b, 0, none⟩ n).setCell ⟨b, 1, none⟩ d).setCell ⟨b, 2, none⟩ s) := ((h.setCell (p := ⟨b, 0, none⟩) hb _).setCell (p := ⟨b, 1, none⟩) hb _).setCell (p := ⟨b, 2, none⟩) hb _
theorem Of.oth {base : Nat} {w : World} {v : Value} {l : List Fl} (h : Of base w v l) {g : Nat} (i : Nat) (u : Value) (hg : g < base) : Of base (w.setCell ⟨g, i, none⟩ u) v l := by
  have hlt := World.ownsRow.lt h
  refine World.ownsRow.kept h (row := some g) ⟨rfl, rfl, rfl, by show w.heap.size ≤ (w.heap.modify g _).size; rw [Array.size_modify]; exact Nat.le_refl _, fun k hk hne => ?_⟩ ?_
  · have : g ≠ k := fun e => hne (by rw [e])
    show (w.heap.modify g _)[k]? = _
    rw [Array.getElem?_modify, if_neg this]
  · right
    intro e
    have := (hlt g e).1
    omega
theorem fw_lit {w : World} {b : Nat} {n d s : ByteArray} (h : Bq w b 39 [.string n, .string d, .string s]) : Fw w (.slice (some ⟨b, 0, none⟩) 1 1) [⟨n, d, s⟩] := by
  refine ⟨_, 1, rfl, Nat.le_refl _, by decide, (fun h => by cases h), fun _ => ⟨b, 0, rfl, h.lt, fun i hi => ?_⟩⟩
  obtain rfl : i = 0 := by simp at hi; omega
  exact ⟨h.cell 0 rfl, h.cell 1 rfl, h.cell 2 rfl⟩
theorem used_step {l : List Fl} {i : Nat} (h : i < l.length) : used (l.take (i + 1)) = used (l.take i) + l[i].d.size := by
  unfold used
  rw [List.take_add_one, List.getElem?_eq_getElem h, List.map_append, List.sum_append]
  simp
def Szs (l : List Fl) : Prop := ∀ f ∈ l, f.n.size ≤ 140737488355328 ∧ f.d.size ≤ 140737488355328 ∧ f.s.size ≤ 140737488355328
theorem used_lt {l : List Fl} (h : Szs l) : used l ≤ l.length * 140737488355328 := by
  induction l with
  | nil => simp [used]
  | cons f l ih =>
    have h1 := (h f (by simp)).2.1
    have h2 := ih fun g hg => h g (by simp [hg])
    simp only [used, List.map_cons, List.sum_cons, List.length_cons] at h2 ⊢
    omega
end Go.Proofs.YtdaglbjdgdokpaaDoor
