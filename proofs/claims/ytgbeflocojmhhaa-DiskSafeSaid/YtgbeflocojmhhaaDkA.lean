/-
  Package disk: nameable, holding, New; the closures of find and put; slices.IndexFunc over each; find.
-/
import Derived.Test.YtgbeflocojmhhaaDkP
import Derived.Test.YtgbeflocojmhhaaNtE
import Derived.Laws.Cover1
import Derived.Laws.EntriesVeiled
import Derived.Laws.Small
import Derived.Laws.ResultCell
import Derived.BigQuiet
namespace Go.Proofs.Ytgbeflocojmhhaa
open Go.RowKit
set_option linter.unusedVariables false
set_option linter.unusedSimpArgs false

/-- A result that lies in a cell of its own. -/
theorem results_cell {fn : Func} {p : Tmp} {ty : TypeId} (h : fn.results = #[.cell p ty]) (tmps : Array Value) (P : Program) (w : World) :
    (results fn tmps).run P w = ((asAddr (tmps.getD p undef)).run P w).andThen fun a w₁ => (loadVar ty a).run P w₁ := by
  simp only [results, h]
  simp [Sem.run_bind, Result.andThen]
theorem ret_disk {fn : Func} {p : Tmp} {w : World} {b : Nat} {tmps : Array Value} {room : Int} {v : Value} (h : fn.results = #[.cell p 24]) (hp : tmps.getD p undef = .pointer (some ⟨b, 0, none⟩))
    (hb : Bq w b 24 [.int .i64 room, v]) : (results fn tmps).run Try.prog w = .ok (.agg #[.int .i64 room, v]) w := by
  rw [results_cell h, hp]
  have e : (asAddr (.pointer (some ⟨b, 0, none⟩))).run Try.prog w = .ok (⟨b, 0, none⟩ : Addr) w := by simp [asAddr, go_sem]
  rw [e]
  simp only [Result.andThen]
  have c0 := hb.cell 0 rfl
  have c1 := hb.cell 1 rfl
  clear hb hp h e
  go_simp
theorem ret_disk2 {fn : Func} {p u : Tmp} {w : World} {b : Nat} {tmps : Array Value} {room : Int} {v x : Value} (h : fn.results = #[.cell p 24, .tmp u]) (hp : tmps.getD p undef = .pointer (some ⟨b, 0, none⟩)) (hu : tmps.getD u undef = x)
    (hb : Bq w b 24 [.int .i64 room, v]) : (results fn tmps).run Try.prog w = .ok (.tuple #[.agg #[.int .i64 room, v], x]) w := by
  refine ret_cell9 h hp hu ?_
  have c0 := hb.cell 0 rfl
  have c1 := hb.cell 1 rfl
  clear hb hp hu h
  go_simp
/-- A disk's two cells are written. -/
def set2 (w : World) (b : Nat) (room : Int) (v : Value) : World := (w.setCell ⟨b, 0, none⟩ (.int .i64 room)).setCell ⟨b, 1, none⟩ v
theorem set2_at {w : World} {b : Nat} {x y : Value} (h : Bq w b 24 [x, y]) (room : Int) (v : Value) : Bq (set2 w b room v) b 24 [.int .i64 room, v] := (h.set 0 _).set 1 _
theorem set2_bl {W w : World} {b : Nat} (h : Bl W w) (hb : W.heap.size ≤ b) (room : Int) (v : Value) : Bl W (set2 w b room v) := (h.setCell (p := ⟨b, 0, none⟩) hb _).setCell (p := ⟨b, 1, none⟩) hb _
theorem size_zero {s : ByteArray} : s.size = 0 ↔ s = ⟨#[]⟩ := by
  constructor
  · intro h
    obtain ⟨⟨s⟩⟩ := s
    have : s.length = 0 := h
    rw [List.length_eq_zero_iff] at this
    rw [this]
  · rintro rfl; rfl
set_option maxRecDepth 100000 in
theorem pnameable_any (s : ByteArray) (hs : s.size ≤ 140737488355328) (w : World) :
    Calls Try.prog 35 #[.string s] w fun e w' => e = .returned (.bool (mayN s)) ∧ w = w' := by
  obtain ⟨b, hb⟩ : ∃ b, mayN s = b := ⟨_, rfl⟩
  rw [hb]
  have hnb : (s.size : Int) ≤ 140737488355328 := by omega
  by_cases h : s.size = 0
  · obtain rfl := size_zero.1 h
    obtain rfl : b = false := by rw [← hb]; rfl
    clear hb h
    go_enter Try.func35, Try.ntmps35
    go_wp2
    go_ret
    exact ⟨by simp, rfl⟩
  · have t0 : ¬ s.toList = [] := fun e => h (size_zero.2 ((tl_inj (a := s) (b := ⟨#[]⟩)).1 (e.trans (by rw [tl_eq]))))
    have t1 : s.toList.isEmpty = false := by rw [← Bool.not_eq_true, List.isEmpty_iff]; exact t0
    obtain rfl : b = decide (s.size ≤ 16) := by rw [← hb]; unfold mayN; rw [decide_eq_true (show 1 ≤ s.size by omega), Bool.true_and]
    obtain ⟨n, hn⟩ : ∃ n, s.size = n := ⟨_, rfl⟩
    rw [hn] at hnb ⊢
    clear hb h hs
    go_enter Try.func35, Try.ntmps35
    go_wp2
    go_ret
    exact ⟨by simp; omega, rfl⟩
set_option maxRecDepth 100000 in
theorem rname_any (s : ByteArray) (hs : s.size ≤ 140737488355328) (w : World) :
    Calls Try.prog 24 #[.string s] w fun e w' => e = .returned (.bool (mayN s)) ∧ w = w' := by
  have hnb : (s.size : Int) ≤ 140737488355328 := by omega
  unfold mayN
  obtain ⟨n, hn⟩ : ∃ n, s.size = n := ⟨_, rfl⟩
  rw [hn] at hnb ⊢
  clear hs
  by_cases h : 1 ≤ n
  · rw [decide_eq_true h, Bool.true_and]
    have b1 : (1 : Int) ≤ (n : Int) := by omega
    clear h
    go_enter Try.func24, Try.ntmps24
    go_wp2
    go_ret
    exact ⟨by simp; omega, rfl⟩
  · obtain rfl : n = 0 := by omega
    go_enter Try.func24, Try.ntmps24
    go_wp2
    go_ret
    exact ⟨by simp, rfl⟩
set_option maxRecDepth 100000 in
theorem pholding_any (room : Int) (A B : Option Addr) (n c m k : Nat) (w : World) :
    Calls Try.prog 27 #[.agg #[.int .i64 room, .slice A n c], .slice B m k] w fun e w' => e = .returned (.agg #[.int .i64 room, .slice B m k]) ∧ Bl w w' := by
  go_enter Try.func27, Try.ntmps27
  go_wp2
  refine bodyPost_ret (ret_disk rfl rfl ?_) rfl ⟨rfl, ((Bl.refl w).alloc _).alloc _⟩
  have := Bq.new (w.alloc (.cells #[.int .i64 room, .slice A n c] 24)) 24 [.int .i64 room, .slice B m k]
  rwa [World.size_alloc] at this
set_option maxRecDepth 100000 in
theorem pNew_any (room : Int) (h : -9223372036854775808 ≤ room ∧ room ≤ 9223372036854775807) (w : World) :
    Calls Try.prog 11 #[.int .i64 room] w fun e w' => e = .returned (.agg #[.int .i64 (if room < 0 then 0 else room), .slice none 0 0]) ∧ Bl w w' := by
  go_enter Try.func11, Try.ntmps11
  go_wp2
  · exact bodyPost_ret (ret_disk rfl rfl (Bq.new w 24 [.int .i64 0, .slice none 0 0])) rfl ⟨rfl, (Bl.refl w).alloc _⟩
  · exact bodyPost_ret (ret_disk rfl rfl (Bq.new w 24 [.int .i64 room, .slice none 0 0])) rfl ⟨rfl, (Bl.refl w).alloc _⟩
set_option maxRecDepth 100000 in
theorem pfind1_any (n d s t : ByteArray) (b : Nat) (w : World) (hb : w.cell? ⟨b, 0, none⟩ = some (.string t)) :
    Calls Try.prog 40 #[.agg #[.string n, .string d, .string s], .pointer (some ⟨b, 0, none⟩)] w fun e w' => e = .returned (.bool (sEq n t)) ∧ Bl w w' := by
  have hlt := World.block_lt_of_cell? w _ hb
  go_enter Try.func40, Try.ntmps40
  go_wp2
  go_ret
  exact ⟨rfl, (Bl.refl w).alloc _⟩
set_option maxRecDepth 100000 in
theorem pput1_any (n d s t : ByteArray) (b : Nat) (w : World) (hb : w.cell? ⟨b, 0, none⟩ = some (.string t)) :
    Calls Try.prog 39 #[.agg #[.string n, .string d, .string s], .pointer (some ⟨b, 0, none⟩)] w fun e w' => e = .returned (.bool (sLt t n)) ∧ Bl w w' := by
  have hlt := World.block_lt_of_cell? w _ hb
  go_enter Try.func39, Try.ntmps39
  go_wp2
  go_ret
  refine ⟨congrArg (fun b => Ending.returned (Value.bool b)) ?_, (Bl.refl w).alloc _⟩
  rw [← sGt_eq]
  simp [sLt, sEq]
/-- Nothing was found among the first i. -/
def NoTo (l : List Fl) (p : Fl → Bool) (i : Nat) : Prop := ∀ j (h : j < l.length), j < i → p l[j] = false
theorem noTo_step {l : List Fl} {p : Fl → Bool} {i : Nat} (h : NoTo l p i) (hi : i < l.length) (hp : p l[i] = false) : NoTo l p (i + 1) := by
  intro j hj hji
  rcases Nat.lt_succ_iff_lt_or_eq.1 hji with h3 | rfl
  · exact h j hj h3
  · exact hp
theorem ix_at {l : List Fl} {p : Fl → Bool} {i : Nat} (h : NoTo l p i) (hi : i < l.length) (hp : p l[i] = true) : ixv l.length (l.findIdx p) = (i : Int) := by
  rw [idx_at hi hp h]
  unfold ixv
  rw [if_pos hi]
theorem ix_none {l : List Fl} {p : Fl → Bool} {n : Nat} (h : NoTo l p n) (hn : l.length = n) : ixv l.length (l.findIdx p) = -1 := by
  rw [idx_none fun j hj => h j hj (by omega)]
  unfold ixv
  rw [if_neg (by omega)]
set_option maxRecDepth 100000 in
set_option maxHeartbeats 4000000 in
theorem pidxF_any (v : Value) (l : List Fl) (t : ByteArray) (b : Nat) (w : World) (hv : Fw w v l) (hb : w.cell? ⟨b, 0, none⟩ = some (.string t)) :
    Calls Try.prog 38 #[v, .func (.func 40) #[] #[.pointer (some ⟨b, 0, none⟩)]] w fun e w' => e = .returned (.int .i64 (ixv l.length (fnd l t))) ∧ Bl w w' := by
  have hnl := fw_len hv
  obtain ⟨n, hn⟩ : ∃ n, l.length = n := ⟨_, rfl⟩
  obtain ⟨A, c, rfl, _, _, _, hx⟩ := fw_open hv hn
  have H1 := Lib.hid hx
  have HL := Lib.hid hn
  have hlt := World.block_lt_of_cell? w _ hb
  have K := Lib.hid (fun W (g : Bl w W) n d s => pfind1_any n d s t b W ((g.cell hlt).trans hb))
  obtain ⟨r, hr⟩ : ∃ r, ixv l.length (fnd l t) = r := ⟨_, rfl⟩
  have HR := Lib.hid hr
  rw [hr]
  have hnb : (n : Int) ≤ 9223372036854775807 := by omega
  clear hx hnl hn hv hr hb hlt
  go_enter Try.func38, Try.ntmps38
  go_wp2
  go_loopw [8] (fun s wr => ∃ i : Nat, i ≤ n ∧ s = .int .i64 (i : Int) ∧ Hid (NoTo l (fun f => sEq f.n t) i) ∧ Hid (Bl w wr)) (fun s _ => n - (intOf s).toNat)
  case atStart => exact ⟨0, Nat.zero_le _, rfl, fun j _ h => absurd h (Nat.not_lt_zero _), Bl.refl w⟩
  case round =>
    obtain ⟨i, hin, rfl, ht, hb⟩ := hrel
    by_cases hlt : i < n
    · have hil : i < l.length := by rw [HL.out]; exact hlt
      obtain ⟨a1, o1, hA1, hc1, hc2, hc3⟩ := (H1.out.bl hb.out).at_ hil
      have s1 := Lib.hid (fun hp => noTo_step ht.out hil hp)
      have s2 := Lib.hid (fun hp => ix_at ht.out hil hp)
      obtain ⟨f, ef⟩ : ∃ f, l[i] = f := ⟨_, rfl⟩
      rw [ef] at s1 s2 hc1 hc2 hc3
      obtain ⟨fn, fd, fs⟩ := f
      dsimp only at s1 s2 hc1 hc2 hc3
      have b2 : (0 : Int) ≤ (i : Int) ∧ (i : Int) < (n : Int) := by omega
      have HI : Hid (i + 1 ≤ n) := hlt
      subst hA1
      have a24 := Try.isAgg49
      have z24 := Try.sizeOf49
      obtain ⟨q, eq⟩ : ∃ q, sEq fn t = q := ⟨_, rfl⟩
      rw [eq] at s1 s2
      have EQ := Lib.hid eq
      clear ef eq hlt hil
      cases q
      · have S1 := Lib.hid (s1.out rfl)
        clear s1 s2
        go_wp2_with (go_at_call 40; (with_reducible refine (K.out _ hb.out _ _ _).mono ?_); rintro e w1 ⟨rfl, hb1⟩; have G1 := Lib.hid (hb.out.trans hb1); clear hb1; rw [EQ.out])
        go_roundw
        case rel => exact ⟨i + 1, HI.out, by go_num, S1.out, G1.out⟩
        case measure => have := HI.out; simp [intOf] <;> omega
      · have S2 := Lib.hid (s2.out rfl)
        clear s1 s2
        go_wp2_with (go_at_call 40; (with_reducible refine (K.out _ hb.out _ _ _).mono ?_); rintro e w1 ⟨rfl, hb1⟩; have G1 := Lib.hid (hb.out.trans hb1); clear hb1; rw [EQ.out])
        go_ret
        exact ⟨congrArg (fun z => Ending.returned (Value.int .i64 z)) (S2.out.symm.trans HR.out), G1.out⟩
    · have hin' : i = n := by omega
      have S3 := Lib.hid (ix_none ht.out (HL.out.trans hin'.symm))
      clear hin'
      go_wp2
      go_ret
      exact ⟨congrArg (fun z => Ending.returned (Value.int .i64 z)) (S3.out.symm.trans HR.out), hb.out⟩
set_option maxRecDepth 100000 in
set_option maxHeartbeats 4000000 in
theorem pidxP_any (v : Value) (l : List Fl) (t : ByteArray) (b : Nat) (w : World) (hv : Fw w v l) (hb : w.cell? ⟨b, 0, none⟩ = some (.string t)) :
    Calls Try.prog 38 #[v, .func (.func 39) #[] #[.pointer (some ⟨b, 0, none⟩)]] w fun e w' => e = .returned (.int .i64 (ixv l.length (pos l t))) ∧ Bl w w' := by
  have hnl := fw_len hv
  obtain ⟨n, hn⟩ : ∃ n, l.length = n := ⟨_, rfl⟩
  obtain ⟨A, c, rfl, _, _, _, hx⟩ := fw_open hv hn
  have H1 := Lib.hid hx
  have HL := Lib.hid hn
  have hlt := World.block_lt_of_cell? w _ hb
  have K := Lib.hid (fun W (g : Bl w W) n d s => pput1_any n d s t b W ((g.cell hlt).trans hb))
  obtain ⟨r, hr⟩ : ∃ r, ixv l.length (pos l t) = r := ⟨_, rfl⟩
  have HR := Lib.hid hr
  rw [hr]
  have hnb : (n : Int) ≤ 9223372036854775807 := by omega
  clear hx hnl hn hv hr hb hlt
  go_enter Try.func38, Try.ntmps38
  go_wp2
  go_loopw [8] (fun s wr => ∃ i : Nat, i ≤ n ∧ s = .int .i64 (i : Int) ∧ Hid (NoTo l (fun f => sLt t f.n) i) ∧ Hid (Bl w wr)) (fun s _ => n - (intOf s).toNat)
  case atStart => exact ⟨0, Nat.zero_le _, rfl, fun j _ h => absurd h (Nat.not_lt_zero _), Bl.refl w⟩
  case round =>
    obtain ⟨i, hin, rfl, ht, hb⟩ := hrel
    by_cases hlt : i < n
    · have hil : i < l.length := by rw [HL.out]; exact hlt
      obtain ⟨a1, o1, hA1, hc1, hc2, hc3⟩ := (H1.out.bl hb.out).at_ hil
      have s1 := Lib.hid (fun hp => noTo_step ht.out hil hp)
      have s2 := Lib.hid (fun hp => ix_at ht.out hil hp)
      obtain ⟨f, ef⟩ : ∃ f, l[i] = f := ⟨_, rfl⟩
      rw [ef] at s1 s2 hc1 hc2 hc3
      obtain ⟨fn, fd, fs⟩ := f
      dsimp only at s1 s2 hc1 hc2 hc3
      have b2 : (0 : Int) ≤ (i : Int) ∧ (i : Int) < (n : Int) := by omega
      have HI : Hid (i + 1 ≤ n) := hlt
      subst hA1
      have a24 := Try.isAgg49
      have z24 := Try.sizeOf49
      obtain ⟨q, eq⟩ : ∃ q, sLt t fn = q := ⟨_, rfl⟩
      rw [eq] at s1 s2
      have EQ := Lib.hid eq
      clear ef eq hlt hil
      cases q
      · have S1 := Lib.hid (s1.out rfl)
        clear s1 s2
        go_wp2_with (go_at_call 39; (with_reducible refine (K.out _ hb.out _ _ _).mono ?_); rintro e w1 ⟨rfl, hb1⟩; have G1 := Lib.hid (hb.out.trans hb1); clear hb1; rw [EQ.out])
        go_roundw
        case rel => exact ⟨i + 1, HI.out, by go_num, S1.out, G1.out⟩
        case measure => have := HI.out; simp [intOf] <;> omega
      · have S2 := Lib.hid (s2.out rfl)
        clear s1 s2
        go_wp2_with (go_at_call 39; (with_reducible refine (K.out _ hb.out _ _ _).mono ?_); rintro e w1 ⟨rfl, hb1⟩; have G1 := Lib.hid (hb.out.trans hb1); clear hb1; rw [EQ.out])
        go_ret
        exact ⟨congrArg (fun z => Ending.returned (Value.int .i64 z)) (S2.out.symm.trans HR.out), G1.out⟩
    · have hin' : i = n := by omega
      have S3 := Lib.hid (ix_none ht.out (HL.out.trans hin'.symm))
      clear hin'
      go_wp2
      go_ret
      exact ⟨congrArg (fun z => Ending.returned (Value.int .i64 z)) (S3.out.symm.trans HR.out), hb.out⟩
set_option maxRecDepth 100000 in
theorem pfind_any (v : Value) (l : List Fl) (t : ByteArray) (w : World) (hv : Fw w v l) :
    Calls Try.prog 31 #[v, .string t] w fun e w' => e = .returned (.int .i64 (ixv l.length (fnd l t))) ∧ Bl w w' := by
  have K := Lib.hid (pidxF_any v l t w.heap.size (w.alloc (.cells #[.string t] 9)) (hv.bl ((Bl.refl w).alloc _)) ((Bq.new w 9 [.string t]).cell 0 rfl))
  obtain ⟨A, c, rfl⟩ := fw_shape hv
  clear hv
  go_enter Try.func31, Try.ntmps31
  go_wp2_with (go_at_call 38; (with_reducible refine K.out.mono ?_); rintro e w1 ⟨rfl, hb1⟩; have G1 := Lib.hid (((Bl.refl w).alloc _).trans hb1); clear hb1)
  go_ret
  exact ⟨rfl, G1.out⟩
end Go.Proofs.Ytgbeflocojmhhaa
