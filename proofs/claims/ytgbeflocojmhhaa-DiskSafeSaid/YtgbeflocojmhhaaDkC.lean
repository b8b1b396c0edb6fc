/-
  Package disk: taken, put, Used.
-/
import Derived.Test.YtgbeflocojmhhaaDkB
namespace Go.Proofs.Ytgbeflocojmhhaa
open Go.RowKit
set_option linter.unusedVariables false
set_option linter.unusedSimpArgs false

/-- What taken answers. -/
def TkEnd (W : World) (v0 : Value) (l : List Fl) (s : ByteArray) (e : Ending) (w : World) : Prop := ∃ v, e = .returned (.tuple #[v, .agg #[.string (tkF l s).n, .string (tkF l s).d, .string (tkF l s).s], .bool (tkB l s)]) ∧ Fw w v (tkL l s) ∧ Bl W w ∧ (v = v0 ∨ ∀ b, v.ownBlock = some b → W.heap.size ≤ b)
theorem ret_taken {fn : Func} {p x y : Tmp} {w : World} {b : Nat} {tmps : Array Value} {n d s : ByteArray} {v u : Value} (h : fn.results = #[.tmp x, .cell p 49, .tmp y]) (hp : tmps.getD p undef = .pointer (some ⟨b, 0, none⟩)) (hx : tmps.getD x undef = v) (hy : tmps.getD y undef = u)
    (hb : Bq w b 49 [.string n, .string d, .string s]) : (results fn tmps).run Try.prog w = .ok (.tuple #[v, .agg #[.string n, .string d, .string s], u]) w := by
  simp only [results, h]
  have c0 := hb.cell 0 rfl
  have c1 := hb.cell 1 rfl
  have c2 := hb.cell 2 rfl
  have e : (asAddr (.pointer (some ⟨b, 0, none⟩))).run Try.prog w = .ok (⟨b, 0, none⟩ : Addr) w := by simp [asAddr, go_sem]
  have e2 : (loadVar 49 ⟨b, 0, none⟩).run Try.prog w = .ok (.agg #[.string n, .string d, .string s]) w := by
    clear hb hp h e
    go_simp
  rw [Array.getD_eq_getD_getElem?] at hp hx hy
  simp [Sem.run_bind, Result.andThen, hp, hx, hy, e, e2]
theorem set3_at {w : World} {b : Nat} {x y z : Value} (h : Bq w b 49 [x, y, z]) (n d s : Value) : Bq (((w.setCell ⟨b, 0, none⟩ n).setCell ⟨b, 1, none⟩ d).setCell ⟨b, 2, none⟩ s) b 49 [n, d, s] := ((h.set 0 _).set 1 _).set 2 _
theorem set3_bl {W w : World} {b : Nat} (h : Bl W w) (hb : W.heap.size ≤ b) (n d s : Value) : Bl W (((w.setCell ⟨b, 0, none⟩ n).setCell ⟨b, 1, none⟩ d).setCell ⟨b, 2, none⟩ s) := ((h.setCell (p := ⟨b, 0, none⟩) hb _).setCell (p := ⟨b, 1, none⟩) hb _).setCell (p := ⟨b, 2, none⟩) hb _
theorem Of.oth {base : Nat} {w : World} {v : Value} {l : List Fl} (h : Of base w v l) {g : Nat} (i : Nat) (u : Value) (hg : g < base) : Of base (w.setCell ⟨g, i, none⟩ u) v l := by
  have hlt := World.ownsRow.lt h
  refine World.ownsRow.kept h (row := some g) ⟨rfl, rfl, rfl, by show w.heap.size ≤ (w.heap.modify g _).size; rw [Array.size_modify]; exact Nat.le_refl _, fun k hk hne => ?_⟩ ?_
  · have : g ≠ k := fun e => hne (by rw [e])
    show (w.heap.modify g _)[k]? = _
    rw [Array.getElem?_modify, if_neg this]
  · right
    intro e
    have := (hlt g e).1
    omega
set_option maxRecDepth 100000 in
set_option maxHeartbeats 4000000 in
theorem ptaken_any (v : Value) (l : List Fl) (s : ByteArray) (w : World) (hv : Fw w v l) (hl : l.length < 1000000) :
    Calls Try.prog 29 #[v, .string s] w (TkEnd w v l s) := by
  have K1 := Lib.hid (fun W (g : Bl w W) => pfind_any v l s W (hv.bl g))
  have HV := Lib.hid hv
  obtain ⟨n, hn⟩ : ∃ n, l.length = n := ⟨_, rfl⟩
  by_cases h : fnd l s < l.length
  · have K2 := Lib.hid (fun W (g : Bl w W) => preplaced_any v (.slice none 0 0) l [] (fnd l s) (fnd l s + 1) (by omega) (by omega) W (hv.bl g) (Fw.nil _) (by simp; omega))
    obtain ⟨i, hi⟩ : ∃ i, fnd l s = i := ⟨_, rfl⟩
    have e1 : tkL l s = l.take i ++ ([] ++ l.drop (i + 1)) := by unfold tkL; rw [if_pos h, hi]; rfl
    have e2 : ixv l.length (fnd l s) = (i : Int) := by unfold ixv; rw [if_pos h, hi]
    have e3 : tkB l s = true := decide_eq_true h
    have e4 := tkF_at h
    obtain ⟨f, ef⟩ : ∃ f, tkF l s = f := ⟨_, rfl⟩
    have e5 : l[i]'(by omega) = f := by rw [← ef, e4]; simp only [hi]
    have HP := Lib.hid (fun e w' (h : ∃ u, e = Ending.returned (.tuple #[u, .agg #[.string f.n, .string f.d, .string f.s], .bool true]) ∧ Fw w' u (l.take i ++ ([] ++ l.drop (i + 1))) ∧ Bl w w' ∧ (u = v ∨ ∀ b, u.ownBlock = some b → w.heap.size ≤ b)) => (show TkEnd w v l s e w' by unfold TkEnd; rw [e1, e3, ef]; exact h))
    obtain ⟨A, c, rfl, _, _, _, hx⟩ := fw_open hv hn
    obtain ⟨b1, o1, rfl, hc1, hc2, hc3⟩ := hx.at_ (i := i) (by omega)
    have hbb := World.block_lt_of_cell? w _ hc1
    rw [e5] at hc1 hc2 hc3
    obtain ⟨fn, fd, fs⟩ := f
    dsimp only at hc1 hc2 hc3 HP
    rw [e2] at K1
    rw [hi, show ((i + 1 : Nat) : Int) = (i : Int) + 1 from rfl] at K2
    have b2 : (0 : Int) ≤ (i : Int) ∧ (i : Int) < (n : Int) := by omega
    have b3 : (i : Int) ≤ 1000000 := by omega
    have x1 : IntKind.i64.wrap ((i : Int) + 1) = (i : Int) + 1 := by rw [IntKind.wrap_i64]; omega
    have HC : Hid (∀ W, Bl w W → W.cell? ⟨b1, o1 + i * 3, none⟩ = some (.string fn) ∧ W.cell? ⟨b1, o1 + i * 3 + 1, none⟩ = some (.string fd) ∧ W.cell? ⟨b1, o1 + i * 3 + 2, none⟩ = some (.string fs)) := fun W g => ⟨(g.cell (p := ⟨b1, o1 + i * 3, none⟩) hbb).trans hc1, (g.cell (p := ⟨b1, o1 + i * 3 + 1, none⟩) hbb).trans hc2, (g.cell (p := ⟨b1, o1 + i * 3 + 2, none⟩) hbb).trans hc3⟩
    have a24 := Try.isAgg49
    have z24 := Try.sizeOf49
    clear hv hn h e1 e2 e3 e4 ef e5 hi hx hbb hl hc1 hc2 hc3
    go_enter Try.func29, Try.ntmps29
    go_wp2_with (go_at_call 31; (with_reducible refine (K1.out _ ((Bl.refl w).alloc _)).mono ?_); rintro e w1 ⟨rfl, hb1⟩; have Q1 := Lib.hid ((Bq.new w 49 [.string ⟨#[]⟩, .string ⟨#[]⟩, .string ⟨#[]⟩]).bl hb1); have G1 := Lib.hid (((Bl.refl w).alloc _).trans hb1); clear hb1)
    obtain ⟨c1', c2', c3'⟩ := HC.out w1 G1.out
    have f0 := Q1.out.free 0
    have f1 := Q1.out.free 1
    have f2 := Q1.out.free 2
    go_region_with (go_at_call 25; (with_reducible refine (K2.out _ G1.out.drew).mono ?_); rintro e w2 ⟨v2, rfl, ho, hb2⟩; have Q2 := Lib.hid (Q1.out.drew.bl hb2); have G2 := Lib.hid (G1.out.drew.trans hb2); obtain ⟨d1, d2, d3⟩ := HC.out w2 G2.out; have g0 := Q2.out.free 0; have g1 := Q2.out.free 1; have g2 := Q2.out.free 2; have k0 := Q2.out.cell 0 rfl; have k1 := Q2.out.cell 1 rfl; have k2 := Q2.out.cell 2 rfl)
    all_goals
      go_wp2
      exact bodyPost_ret (ret_taken rfl rfl rfl rfl (set3_at Q2.out _ _ _)) rfl (HP.out _ _ ⟨_, rfl, (((ho.oth 0 _ (Bq.lt Q1.out)).oth 1 _ (Bq.lt Q1.out)).oth 2 _ (Bq.lt Q1.out)).fw, set3_bl G2.out (Nat.le_refl _) _ _ _, .inr fun b e => Nat.le_trans G1.out.size ((World.ownsRow.lt ho b e).1)⟩)
  · have e1 : tkL l s = l := by unfold tkL; rw [if_neg h]
    have e2 : ixv l.length (fnd l s) = -1 := by unfold ixv; rw [if_neg h]
    have e3 : tkB l s = false := decide_eq_false h
    have ef := tkF_no h
    have HP := Lib.hid (fun e w' (h : ∃ u, e = Ending.returned (.tuple #[u, .agg #[.string ⟨#[]⟩, .string ⟨#[]⟩, .string ⟨#[]⟩], .bool false]) ∧ Fw w' u l ∧ Bl w w' ∧ (u = v ∨ ∀ b, u.ownBlock = some b → w.heap.size ≤ b)) => (show TkEnd w v l s e w' by unfold TkEnd; rw [e1, e3, ef]; exact h))
    rw [e2] at K1
    obtain ⟨A, c, rfl⟩ := fw_shape hv
    rw [hn] at K1 HV HP ⊢
    clear hv hn h e1 e2 e3 ef hl
    go_enter Try.func29, Try.ntmps29
    go_wp2_with (go_at_call 31; (with_reducible refine (K1.out _ ((Bl.refl w).alloc _)).mono ?_); rintro e w1 ⟨rfl, hb1⟩; have Q1 := Lib.hid ((Bq.new w 49 [.string ⟨#[]⟩, .string ⟨#[]⟩, .string ⟨#[]⟩]).bl hb1); have G1 := Lib.hid (((Bl.refl w).alloc _).trans hb1); have k0 := Q1.out.cell 0 rfl; have k1 := Q1.out.cell 1 rfl; have k2 := Q1.out.cell 2 rfl; have g0 := Q1.out.free 0; have g1 := Q1.out.free 1; have g2 := Q1.out.free 2; clear hb1)
    exact bodyPost_ret (ret_taken rfl rfl rfl rfl (set3_at Q1.out _ _ _)) rfl (HP.out _ _ ⟨_, rfl, HV.out.bl (set3_bl G1.out (Nat.le_refl _) _ _ _), set3_bl G1.out (Nat.le_refl _) _ _ _, .inl rfl⟩)
theorem fw_lit {w : World} {b : Nat} {n d s : ByteArray} (h : Bq w b 49 [.string n, .string d, .string s]) : Fw w (.slice (some ⟨b, 0, none⟩) 1 1) [⟨n, d, s⟩] := by
  refine ⟨_, 1, rfl, Nat.le_refl _, by decide, (fun h => by cases h), fun _ => ⟨b, 0, rfl, h.lt, fun i hi => ?_⟩⟩
  obtain rfl : i = 0 := by simp at hi; omega
  exact ⟨h.cell 0 rfl, h.cell 1 rfl, h.cell 2 rfl⟩
set_option maxRecDepth 100000 in
set_option maxHeartbeats 4000000 in
theorem pput_any (v : Value) (l : List Fl) (n d s : ByteArray) (w : World) (hv : Fw w v l) (hl : l.length < 1000000) :
    Calls Try.prog 30 #[v, .agg #[.string n, .string d, .string s]] w (OfEnd w (ins l ⟨n, d, s⟩)) := by
  have K1 := Lib.hid (pidxP_any v l n w.heap.size (w.alloc (.cells #[.string n, .string d, .string s] 49)) (hv.bl ((Bl.refl w).alloc _)) ((Bq.new w 49 [.string n, .string d, .string s]).cell 0 rfl))
  obtain ⟨i, hi⟩ : ∃ i, pos l n = i := ⟨_, rfl⟩
  have hil : i ≤ l.length := by rw [← hi]; exact pos_le _ _
  have K2 := Lib.hid (fun W (g : Bl w W) b (hb : Bq W b 49 [.string n, .string d, .string s]) => preplaced_any v (.slice (some ⟨b, 0, none⟩) 1 1) l [⟨n, d, s⟩] i i (Nat.le_refl _) hil W (hv.bl g) (fw_lit hb) (by simp; omega))
  have e1 : ins l ⟨n, d, s⟩ = l.take i ++ ([⟨n, d, s⟩] ++ l.drop i) := by unfold ins; rw [hi]; rfl
  rw [e1]
  rw [hi] at K1
  obtain ⟨m, hm⟩ : ∃ m, l.length = m := ⟨_, rfl⟩
  obtain ⟨A, c, rfl⟩ := fw_shape hv
  rw [hm] at K1 K2 hil ⊢
  have b1 : (i : Int) ≤ (m : Int) := by omega
  have b0 : (0 : Int) ≤ (i : Int) := by omega
  have B0 := Lib.hid (Bq.new w 49 [.string n, .string d, .string s])
  by_cases h : i < m
  · have e2 : ixv m i = (i : Int) := by unfold ixv; rw [if_pos h]
    rw [e2] at K1
    clear hv hi hl e1 e2 hm h
    go_enter Try.func30, Try.ntmps30
    go_wp2_with (first
      | (go_at_call 38; (with_reducible refine K1.out.mono ?_); rintro e w1 ⟨rfl, hb1⟩; have G1 := Lib.hid (((Bl.refl w).alloc _).trans hb1); have Q1 := Lib.hid (B0.out.bl hb1); have k0 := Q1.out.cell 0 rfl; have k1 := Q1.out.cell 1 rfl; have k2 := Q1.out.cell 2 rfl; clear hb1)
      | (go_at_call 25; (with_reducible refine (K2.out _ (G1.out.alloc _) _ (Bq.new _ _ _)).mono ?_); rintro e w2 ⟨v2, rfl, ho, hb2⟩; have G2 := Lib.hid ((G1.out.alloc _).trans hb2); have HO := Lib.hid (ho.mono (G1.out.alloc _).size); clear ho hb2))
    go_ret
    exact OfEnd.mk HO.out G2.out
  · have e2 : ixv m i = -1 := by unfold ixv; rw [if_neg h]
    obtain rfl : i = m := by omega
    rw [e2] at K1
    clear hv hi hl e1 e2 hm h
    go_enter Try.func30, Try.ntmps30
    go_wp2_with (first
      | (go_at_call 38; (with_reducible refine K1.out.mono ?_); rintro e w1 ⟨rfl, hb1⟩; have G1 := Lib.hid (((Bl.refl w).alloc _).trans hb1); have Q1 := Lib.hid (B0.out.bl hb1); have k0 := Q1.out.cell 0 rfl; have k1 := Q1.out.cell 1 rfl; have k2 := Q1.out.cell 2 rfl; clear hb1)
      | (go_at_call 25; (with_reducible refine (K2.out _ (G1.out.alloc _) _ (Bq.new _ _ _)).mono ?_); rintro e w2 ⟨v2, rfl, ho, hb2⟩; have G2 := Lib.hid ((G1.out.alloc _).trans hb2); have HO := Lib.hid (ho.mono (G1.out.alloc _).size); clear ho hb2))
    go_ret
    exact OfEnd.mk HO.out G2.out
theorem used_step {l : List Fl} {i : Nat} (h : i < l.length) : used (l.take (i + 1)) = used (l.take i) + l[i].d.size := by
  unfold used
  rw [List.take_add_one, List.getElem?_eq_getElem h, List.map_append, List.sum_append]
  simp
def Szs (l : List Fl) : Prop := ∀ f ∈ l, f.n.size ≤ 140737488355328 ∧ f.d.size ≤ 140737488355328 ∧ f.s.size ≤ 140737488355328
theorem used_lt {l : List Fl} (h : Szs l) : used l ≤ l.length * 140737488355328 := by
  induction l with
  | nil => simp [used]
  | cons f l ih =>
    have h1 := (h f (by simp)).2.1
    have h2 := ih fun g hg => h g (by simp [hg])
    simp only [used, List.map_cons, List.sum_cons, List.length_cons] at h2 ⊢
    omega
set_option maxRecDepth 100000 in
set_option maxHeartbeats 4000000 in
theorem pUsed_any (room : Int) (v : Value) (l : List Fl) (w : World) (hv : Fw w v l) (hl : l.length ≤ 1000) (hz : Szs l) :
    Calls Try.prog 23 #[.agg #[.int .i64 room, v]] w fun e w' => e = .returned (.int .i64 (used l : Int)) ∧ Bl w w' := by
  obtain ⟨n, hn⟩ : ∃ n, l.length = n := ⟨_, rfl⟩
  obtain ⟨A, c, rfl, _, _, _, hx⟩ := fw_open hv hn
  have H1 := Lib.hid hx
  have HL := Lib.hid hn
  have HZ := Lib.hid hz
  have HS := Lib.hid (fun i (h : i < l.length) => used_step (l := l) h)
  have HB : Hid (∀ i, i ≤ l.length → used (l.take i) ≤ 140737488355328 * 1000) := fun i hi => by
    have := used_lt (l := l.take i) fun f hf => hz f (List.mem_of_mem_take hf)
    rw [List.length_take] at this
    omega
  have HU : Hid (used (l.take n) = used l) := by show _ = _; rw [← hn, List.take_length]
  obtain ⟨U, hU⟩ : ∃ U, used l = U := ⟨_, rfl⟩
  rw [hU] at HU ⊢
  have hnb : (n : Int) ≤ 1000 := by omega
  have a24 := Try.isAgg49
  have z24 := Try.sizeOf49
  clear hx hn hv hl hz hU
  go_enter Try.func23, Try.ntmps23
  go_wp2
  go_loopw [3, 9] (fun u s wr => ∃ i : Nat, i ≤ n ∧ s = .int .i64 (i : Int) ∧ u = .int .i64 (used (l.take i) : Int) ∧ Hid (Bl w wr)) (fun _ s _ => n - (intOf s).toNat)
  case atStart => exact ⟨0, Nat.zero_le _, rfl, rfl, (Bl.refl w).alloc _⟩
  case round =>
    obtain ⟨i, hin, rfl, rfl, hb⟩ := hrel
    by_cases hlt : i < n
    · have hil : i < l.length := by rw [HL.out]; exact hlt
      obtain ⟨a1, o1, hA1, hc1, hc2, hc3⟩ := (H1.out.bl hb.out).at_ hil
      have h1 := HS.out i hil
      have h2 := HB.out (i + 1) hil
      have h3 := (HZ.out _ (List.getElem_mem hil)).2.1
      rw [h1] at h2
      obtain ⟨f, ef⟩ : ∃ f, l[i] = f := ⟨_, rfl⟩
      rw [ef] at h1 h2 h3 hc1 hc2 hc3
      obtain ⟨fn, fd, fs⟩ := f
      dsimp only at h1 h2 h3 hc1 hc2 hc3
      obtain ⟨u, eu⟩ : ∃ u, used (l.take i) = u := ⟨_, rfl⟩
      rw [eu] at h1 h2 ⊢
      obtain ⟨z, ez⟩ : ∃ z, fd.size = z := ⟨_, rfl⟩
      rw [ez] at h1 h2 h3
      have S1 := Lib.hid h1
      have b2 : (0 : Int) ≤ (i : Int) ∧ (i : Int) < (n : Int) := by omega
      have b3 : (u : Int) + (z : Int) ≤ 140737488355328000 := by omega
      have b4 : (0 : Int) ≤ (u : Int) := by omega
      have b5 : (0 : Int) ≤ (z : Int) := by omega
      have HI : Hid (i + 1 ≤ n) := hlt
      subst hA1
      clear ef eu hlt hil h1 h2 h3
      go_wp2
      go_roundw
      case rel => exact ⟨i + 1, HI.out, by go_num, by rw [S1.out]; go_num, hb.out.alloc _⟩
      case measure => have := HI.out; simp [intOf] <;> omega
    · have hin' : i = n := by omega
      have EU := Lib.hid ((congrArg (fun k => used (l.take k)) hin').trans HU.out)
      rw [EU.out]
      clear hin'
      go_wp2
      go_ret
      exact ⟨rfl, hb.out⟩
end Go.Proofs.Ytgbeflocojmhhaa
