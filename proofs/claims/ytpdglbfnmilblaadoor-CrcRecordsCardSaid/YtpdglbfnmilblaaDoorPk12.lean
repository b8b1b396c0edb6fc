/-
  The document's rowBytes, May of layer 14.
-/
import Derived.Test.YtpdglbfnmilblaaDoorPk11
namespace Go.Proofs.YtpdglbfnmilblaaDoor
open Go.RowKit
set_option linter.unusedVariables false
set_option linter.unusedSimpArgs false

/-- The row's bytes between two rounds. -/
def rowF (l : List Nat) (k : Nat) : ByteArray := bs (be 4 l.length ++ wordsB (l.take k))
theorem rowF_start (l : List Nat) : bs (be 4 l.length) = rowF l 0 := by unfold rowF; rw [List.take_zero]; show _ = bs (be 4 l.length ++ []); rw [List.append_nil]
theorem rowF_step (l : List Nat) (k : Nat) (h : k < l.length) : rowF l k ++ bs (be 8 l[k]) = rowF l (k + 1) := by
  unfold rowF
  rw [bs_append, List.append_assoc, List.take_succ_eq_append_getElem h, wordsB_append]
  have e : wordsB [l[k]] = be 8 l[k] := List.append_nil _
  rw [e]
theorem rowF_end (l : List Nat) : rowF l l.length = bs (rowB l) := by unfold rowF rowB; rw [List.take_length]
theorem rowF_size (l : List Nat) (k : Nat) (h : l.length ≤ 4096) : (rowF l k).size ≤ 40000 := by
  unfold rowF
  rw [bs_size, List.length_append, be_len, wordsB_len, List.length_take]; omega

set_option maxRecDepth 100000 in
set_option maxHeartbeats 2000000 in
theorem rrowBytes_any (v : Value) (l : List Nat) (hl : l.length ≤ 4096) (ha : All 18446744073709551616 l) (w : World) (hr : Rw .u64 w v l) :
    Calls Tryd.prog 25 #[v] w fun e w' => e = .returned (.string (bs (rowB l))) ∧ Bl w w' := by
  have KB := Lib.hid (fun v m (hv : v < 18446744073709551616) (hm : m ≤ 8) w => rbytes_any v m hv hm w)
  have HA := Lib.hid ha
  obtain ⟨A, c, rfl, h1, h2, _, hx⟩ := hr
  have HX := Lib.hid hx
  have K0 := Lib.hid (fun w => KB.out l.length 4 (by omega) (by decide) w)
  rw [rowF_start] at K0
  have HST := Lib.hid (rowF_step l)
  have HE := rowF_end l
  have HZ := Lib.hid (fun k => rowF_size l k hl)
  rw [← HE]
  obtain ⟨n, hn⟩ : ∃ n, l.length = n := ⟨_, rfl⟩
  have HN := Lib.hid hn
  rw [hn] at hl K0 ⊢
  obtain ⟨F, hF⟩ : ∃ F, rowF l = F := ⟨_, rfl⟩
  rw [hF] at K0 HST HZ ⊢
  have nb : (n : Int) ≤ 4096 := by omega
  have w0 : IntKind.u64.wrap (n : Int) = (n : Int) := wrapN _ (by omega)
  clear hn hl h1 h2 hx ha hF HE
  go_enter Tryd.func25, Tryd.ntmps25
  go_wp2_with (go_at_call 24; refine (K0.out _).mono ?_; rintro e w1 ⟨rfl, hb1⟩; have B1 := Lib.hid hb1; clear hb1)
  go_loopw [3, 4] (fun s i wr => ∃ k : Nat, k ≤ n ∧ i = .int .i64 (k : Int) ∧ s = .string (F k) ∧ Hid (Bl w wr)) (fun _ i _ => n - (intOf i).toNat)
  case atStart => exact ⟨0, Nat.zero_le _, rfl, rfl, B1⟩
  case round =>
    obtain ⟨k, hk, rfl, rfl, hb⟩ := hrel
    by_cases hlt : k < n
    · have hkl : k < l.length := by rw [HN.out]; exact hlt
      obtain ⟨ad, rfl, hc⟩ := (HX.out.bl hb.out).at_ hkl
      have hst := HST.out k hkl
      have hxl := HA.out k hkl
      have h1 := HZ.out k
      have h2 := bs_size (be 8 l[k])
      rw [be_len] at h2
      obtain ⟨x, ex⟩ : ∃ x, l[k] = x := ⟨_, rfl⟩
      rw [ex] at hst hc hxl h2
      have K8 := Lib.hid (fun w => KB.out x 8 hxl (by decide) w)
      obtain ⟨o, eo⟩ : ∃ s, bs (be 8 x) = s := ⟨_, rfl⟩
      rw [eo] at K8 hst h2
      have hadd := fun W => run_string_add_sum (P := Tryd.prog) W (F k) o (by omega)
      rw [hst] at hadd
      have b1 : (0 : Int) ≤ (k : Int) ∧ (k : Int) < (n : Int) := by omega
      have HK1 : Hid (k + 1 ≤ n) := hlt
      clear hst hxl h1 h2 ex eo
      go_wp2_with (go_at_call 24; refine (K8.out _).mono ?_; rintro e w2 ⟨rfl, hb2⟩; have B2 := Lib.hid (hb.out.trans hb2); clear hb2)
      go_roundw
      case rel => exact ⟨k + 1, HK1.out, by go_num, rfl, B2⟩
      case measure => have := HK1.out; simp [intOf] <;> omega
    · obtain rfl : k = n := by omega
      clear hk hlt
      go_wp2
      go_ret
      exact ⟨rfl, hb.out⟩

theorem four_ways : ∀ b1 b2 b3 b4 : Bool, b1 = false ∨ (b1 = true ∧ b2 = false) ∨ (b1 = true ∧ b2 = true ∧ b3 = false) ∨ (b1 = true ∧ b2 = true ∧ b3 = true ∧ b4 = false) ∨ (b1 = true ∧ b2 = true ∧ b3 = true ∧ b4 = true) := by decide
theorem three_ways : ∀ b5 b6 b7 : Bool, b5 = false ∨ (b5 = true ∧ b6 = false) ∨ (b5 = true ∧ b6 = true ∧ b7 = false) ∨ (b5 = true ∧ b6 = true ∧ b7 = true) := by decide
/-- A record as a value. -/
def recV (r : Rc) (vp vq vt : Value) : Value := .agg #[.int .i64 r.con, .int .i64 r.dgs, .int .i64 r.gua, .int .i64 r.frm, .int .i64 r.til, vp, vq, vt, .bool r.minus]
/-- A record's cells. -/
def recC (con dgs gua frm til : Int) (vp vq vt : Value) (minus : Bool) : List Value := [.int .i64 con, .int .i64 dgs, .int .i64 gua, .int .i64 frm, .int .i64 til, vp, vq, vt, .bool minus]
theorem may_bool (r : Rc) : decide r.May = (((decide (Sm r.dgs) && decide (Sm r.gua) && decide (Sm r.frm) && decide (Sm r.til)) && (decide (Okr r.p) && decide (Okr r.q) && decide (Okr r.t))) && decide (0 ≤ r.con) && decide (r.con ≤ 255)) := by
  rw [Bool.eq_iff_iff]
  unfold Rc.May
  simp only [Bool.and_eq_true, decide_eq_true_eq, and_assoc]
set_option maxRecDepth 100000 in
set_option maxHeartbeats 4000000 in
theorem rmay_any (r : Rc) (vp vq vt : Value) (w : World) (hp : Rw .u64 w vp r.p) (hq : Rw .u64 w vq r.q) (ht : Rw .u64 w vt r.t) :
    Calls Tryd.prog 23 #[recV r vp vq vt] w fun e w' => e = .returned (.bool (decide r.May)) ∧ Bl w w' := by
  rw [may_bool]
  unfold recV
  obtain ⟨con, dgs, gua, frm, til, p, q, t, minus⟩ := r
  dsimp only at hp hq ht ⊢
  have K1 := Lib.hid (rsmall_any dgs)
  have K2 := Lib.hid (rsmall_any gua)
  have K3 := Lib.hid (rsmall_any frm)
  have K4 := Lib.hid (rsmall_any til)
  have K5 := Lib.hid (fun w' (g : Bl w w') => rordered_any vp p w' (hp.bl g))
  have K6 := Lib.hid (fun w' (g : Bl w w') => rordered_any vq q w' (hq.bl g))
  have K7 := Lib.hid (fun w' (g : Bl w w') => rordered_any vt t w' (ht.bl g))
  obtain ⟨b1, e1⟩ : ∃ b, decide (Sm dgs) = b := ⟨_, rfl⟩
  obtain ⟨b2, e2⟩ : ∃ b, decide (Sm gua) = b := ⟨_, rfl⟩
  obtain ⟨b3, e3⟩ : ∃ b, decide (Sm frm) = b := ⟨_, rfl⟩
  obtain ⟨b4, e4⟩ : ∃ b, decide (Sm til) = b := ⟨_, rfl⟩
  obtain ⟨b5, e5⟩ : ∃ b, decide (Okr p) = b := ⟨_, rfl⟩
  obtain ⟨b6, e6⟩ : ∃ b, decide (Okr q) = b := ⟨_, rfl⟩
  obtain ⟨b7, e7⟩ : ∃ b, decide (Okr t) = b := ⟨_, rfl⟩
  obtain ⟨b8, e8⟩ : ∃ b, decide (0 ≤ con) = b := ⟨_, rfl⟩
  obtain ⟨b9, e9⟩ : ∃ b, decide (con ≤ 255) = b := ⟨_, rfl⟩
  rw [e1] at K1 ⊢
  rw [e2] at K2 ⊢
  rw [e3] at K3 ⊢
  rw [e4] at K4 ⊢
  rw [e5] at K5 ⊢
  rw [e6] at K6 ⊢
  rw [e7] at K7 ⊢
  rw [e8, e9]
  obtain ⟨B1, c1, rfl, _⟩ := hp
  obtain ⟨B2, c2, rfl, _⟩ := hq
  obtain ⟨B3, c3, rfl, _⟩ := ht
  clear e1 e2 e3 e4 e5 e6 e7
  have HB := Lib.hid (fun (t : TypeId) (cs : Array Value) => ((Bl.refl w).alloc (.cells cs t)))
  have hN := four_ways b1 b2 b3 b4
  have hR := three_ways b5 b6 b7
  rcases hN with rfl | ⟨rfl, rfl⟩ | ⟨rfl, rfl, rfl⟩ | ⟨rfl, rfl, rfl, rfl⟩ | ⟨rfl, rfl, rfl, rfl⟩ <;> rcases hR with rfl | ⟨rfl, rfl⟩ | ⟨rfl, rfl, rfl⟩ | ⟨rfl, rfl, rfl⟩
  all_goals
    go_enter Tryd.func23, Tryd.ntmps23
    go_wp2_with (first
      | (go_at_call 34; (with_reducible refine (K1.out _).mono ?_); rintro e w' ⟨rfl, rfl⟩)
      | (go_at_call 34; (with_reducible refine (K2.out _).mono ?_); rintro e w' ⟨rfl, rfl⟩)
      | (go_at_call 34; (with_reducible refine (K3.out _).mono ?_); rintro e w' ⟨rfl, rfl⟩)
      | (go_at_call 34; (with_reducible refine (K4.out _).mono ?_); rintro e w' ⟨rfl, rfl⟩)
      | (go_at_call 35; (with_reducible refine (K5.out _ (HB.out _ _)).mono ?_); rintro e w' ⟨rfl, rfl⟩)
      | (go_at_call 35; (with_reducible refine (K6.out _ (HB.out _ _)).mono ?_); rintro e w' ⟨rfl, rfl⟩)
      | (go_at_call 35; (with_reducible refine (K7.out _ (HB.out _ _)).mono ?_); rintro e w' ⟨rfl, rfl⟩))
    all_goals go_ret
    all_goals exact ⟨by simp_all, (Bl.refl _).alloc _⟩
end Go.Proofs.YtpdglbfnmilblaaDoor
