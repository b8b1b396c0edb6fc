/-
  The document's rows of digits (layer 4): Mul.
-/
import Derived.Test.YtdoohlehglakfaaPk5
import Derived.Test.YtdoohlehglakfaaPk1
namespace Go.Proofs.Ytdoohlehglakfaa
open Go.RowKit
set_option linter.unusedVariables false

theorem val_set (B : Nat) : ∀ (l : List Nat) (j r : Nat) (h : j < l.length), val B (l.set j r) + B ^ j * l[j] = val B l + B ^ j * r := by
  intro l
  induction l with
  | nil => intro j r h; simp at h
  | cons x l ih =>
    intro j r h
    cases j with
    | zero => show r + B * val B l + B ^ 0 * x = x + B * val B l + B ^ 0 * r; rw [Nat.pow_zero, Nat.one_mul, Nat.one_mul]; omega
    | succ j =>
      have e := ih j r (by simpa using h)
      show x + B * val B (l.set j r) + B ^ (j + 1) * (l[j]'(by simpa using h)) = x + B * val B l + B ^ (j + 1) * r
      have e2 : B * (val B (l.set j r) + B ^ j * l[j]'(by simpa using h)) = B * (val B l + B ^ j * r) := by rw [e]
      rw [Nat.mul_add, Nat.mul_add, ← Nat.mul_assoc, ← Nat.mul_assoc] at e2
      rw [Nat.pow_succ, Nat.mul_comm (B ^ j) B]
      omega
theorem all_set {B : Nat} {l : List Nat} (h : All B l) (j r : Nat) (hr : r < B) : All B (l.set j r) := by
  intro i hi
  rw [List.getElem_set]
  split
  · exact hr
  · exact h i (by simpa using hi)
theorem val_zeros (B L : Nat) : val B (List.replicate L 0) = 0 := by
  induction L with
  | zero => rfl
  | succ L ih => rw [List.replicate_succ]; show 0 + B * val B (List.replicate L 0) = 0; rw [ih]; simp
theorem all_zeros (B L : Nat) (hB : 0 < B) : All B (List.replicate L 0) := fun i hi => by simp [hB]

/-- Behind i digits of the first number. -/
structure Mo (X Y L i : Nat) (out : List Nat) : Prop where
  len : out.length = L
  all : All 65536 out
  num : val 65536 out = X % 65536 ^ i * Y
/-- .. and k digits of the second, with c carried. -/
structure Mi (X Y L i k c : Nat) (out : List Nat) : Prop where
  len : out.length = L
  all : All 65536 out
  num : val 65536 out + 65536 ^ (i + k) * c = X % 65536 ^ i * Y + 65536 ^ i * (X / 65536 ^ i % 65536) * (Y % 65536 ^ k)
  lt : c < 65536
theorem mo_start (X Y L : Nat) : Mo X Y L 0 (List.replicate L 0) := ⟨by simp, all_zeros _ _ (by decide), by rw [val_zeros]; simp [Nat.mod_one]⟩
theorem mi_start {X Y L i : Nat} {out : List Nat} (h : Mo X Y L i out) : Mi X Y L i 0 0 out := ⟨h.len, h.all, by rw [h.num, Nat.pow_zero, Nat.mod_one, Nat.mul_zero, Nat.mul_zero], by decide⟩
theorem mi_step {X Y L i k c : Nat} {out : List Nat} (h : Mi X Y L i k c out) (hj : i + k < out.length) (s : Nat) (hs : s = out[i + k] + X / 65536 ^ i % 65536 * (Y / 65536 ^ k % 65536) + c) :
    Mi X Y L i (k + 1) (s / 65536) (out.set (i + k) (s % 65536)) ∧ s < 4294967296 := by
  have h1 : X / 65536 ^ i % 65536 < 65536 := Nat.mod_lt _ (by decide)
  have h2 : Y / 65536 ^ k % 65536 < 65536 := Nat.mod_lt _ (by decide)
  have h3 := h.all (i + k) hj
  have h4 := h.lt
  have hsl : s < 4294967296 := by
    have : X / 65536 ^ i % 65536 * (Y / 65536 ^ k % 65536) ≤ 65535 * 65535 := Nat.mul_le_mul (by omega) (by omega)
    omega
  refine ⟨⟨by rw [List.length_set]; exact h.len, all_set h.all _ _ (Nat.mod_lt _ (by decide)), ?_, by omega⟩, hsl⟩
  have e1 := val_set 65536 out (i + k) (s % 65536) hj
  have e2 := h.num
  obtain ⟨o, ho⟩ : ∃ o, out[i + k] = o := ⟨_, rfl⟩
  rw [ho] at e1 hs
  obtain ⟨d1, hd1⟩ : ∃ d, X / 65536 ^ i % 65536 = d := ⟨_, rfl⟩
  rw [mod_succ 65536 Y k]
  rw [hd1] at e2 hs ⊢
  obtain ⟨d2, hd2⟩ : ∃ d, Y / 65536 ^ k % 65536 = d := ⟨_, rfl⟩
  rw [hd2] at hs ⊢
  have e3 : 65536 ^ (i + (k + 1)) * (s / 65536) + 65536 ^ (i + k) * (s % 65536) = 65536 ^ (i + k) * s := by
    rw [show i + (k + 1) = i + k + 1 from rfl, Nat.pow_succ, Nat.mul_assoc, ← Nat.mul_add, Nat.div_add_mod]
  have e4 : 65536 ^ (i + k) * s = 65536 ^ (i + k) * o + 65536 ^ (i + k) * (d1 * d2) + 65536 ^ (i + k) * c := by rw [hs, Nat.mul_add, Nat.mul_add]
  have e5 : 65536 ^ i * d1 * (Y % 65536 ^ k + 65536 ^ k * d2) = 65536 ^ i * d1 * (Y % 65536 ^ k) + 65536 ^ (i + k) * (d1 * d2) := by
    rw [Nat.mul_add, Nat.pow_add]
    congr 1
    simp only [Nat.mul_assoc, Nat.mul_left_comm]
  rw [e5]
  omega
theorem mi_far {X Y L i k c m : Nat} {out : List Nat} (hY : (dig 65536 Y).length = m) (h : Mi X Y L i k c out) (hk : m + 1 ≤ k) : c = 0 := by
  have hYl := dig_lt 65536 (by decide) Y
  rw [hY] at hYl
  have e := h.num
  rw [Nat.mod_eq_of_lt (Nat.lt_of_lt_of_le hYl (Nat.pow_le_pow_right (by decide) (by omega))), ← Nat.add_mul, ← mod_succ 65536 X i] at e
  have h1 : X % 65536 ^ (i + 1) * Y < 65536 ^ (i + 1) * 65536 ^ m := Nat.mul_lt_mul'' (Nat.mod_lt _ (Nat.pow_pos (by decide))) hYl
  rw [← Nat.pow_add] at h1
  have h2 : 65536 ^ (i + 1 + m) ≤ 65536 ^ (i + k) := Nat.pow_le_pow_right (by decide) (by omega)
  rcases Nat.eq_zero_or_pos c with h0 | h0
  · exact h0
  · have h3 : 65536 ^ (i + k) * 1 ≤ 65536 ^ (i + k) * c := Nat.mul_le_mul_left _ h0
    rw [Nat.mul_one] at h3
    omega
theorem mi_end {X Y L i k m : Nat} {out : List Nat} (hY : (dig 65536 Y).length = m) (h : Mi X Y L i k 0 out) (hk : m ≤ k) : Mo X Y L (i + 1) out := by
  refine ⟨h.len, h.all, ?_⟩
  have e := h.num
  rw [mod_all 65536 (by decide) Y k (by omega), Nat.mul_zero, Nat.add_zero, ← Nat.add_mul, ← mod_succ 65536 X i] at e
  exact e
theorem mo_end {X Y L i n : Nat} {out : List Nat} (hX : (dig 65536 X).length = n) (h : Mo X Y L i out) (hi : n ≤ i) : val 65536 out = X * Y := by
  rw [h.num, mod_all 65536 (by decide) X i (by omega)]
theorem mi_num (o d1 d2 c s : Nat) (h1 : o < 65536) (h2 : d1 < 65536) (h3 : d2 < 65536) (h4 : c < 65536) (hs : s = o + d1 * d2 + c) : ∃ p u r q : Nat, IntKind.i64.wrap ((d1 : Int) * (d2 : Int)) = (p : Int) ∧ IntKind.i64.wrap ((o : Int) + (p : Int)) = (u : Int) ∧ IntKind.i64.wrap ((u : Int) + (c : Int)) = (s : Int) ∧
    (s : Int) % 65536 = (r : Int) ∧ (s : Int) / 65536 = (q : Int) ∧ s % 65536 = r ∧ s / 65536 = q := by
  have hp : d1 * d2 ≤ 65535 * 65535 := Nat.mul_le_mul (by omega) (by omega)
  refine ⟨d1 * d2, o + d1 * d2, s % 65536, s / 65536, ?_, ?_, ?_, by omega, by omega, rfl, rfl⟩
  · rw [← Int.natCast_mul]; exact IntWalk.i64_in _ (by omega)
  · rw [← Int.natCast_add]; exact IntWalk.i64_in _ (by omega)
  · rw [← Int.natCast_add, ← hs]; exact IntWalk.i64_in _ (by omega)

set_option maxRecDepth 100000 in
set_option maxHeartbeats 4000000 in
theorem rmul4_any (v1 v2 : Value) (X Y : Nat) (hl1 : (dig 65536 X).length < 137438953472) (hl2 : (dig 65536 Y).length < 137438953472) (w : World) (hr1 : Rw .i64 w v1 (dig 65536 X)) (hr2 : Rw .i64 w v2 (dig 65536 Y)) :
    Calls Try.prog 19 #[v1, v2] w (RwEnd .i64 w (dig 65536 (X * Y))) := by
  obtain ⟨i0, hi, hz0, hz1, hz2⟩ := info_parts Try.infoInt
  have R2 := Lib.hid hr2
  obtain ⟨A1, c1, rfl, _, _, _, hx1⟩ := hr1
  have H1 := Lib.hid hx1
  obtain ⟨A2, c2, rfl, _, _, _, _⟩ := hr2
  obtain ⟨n, hn⟩ : ∃ n, (dig 65536 X).length = n := ⟨_, rfl⟩
  obtain ⟨m, hm⟩ : ∃ m, (dig 65536 Y).length = m := ⟨_, rfl⟩
  rw [hn] at hl1
  rw [hm] at hl2 R2
  have HN := Lib.hid hn
  have HM := Lib.hid hm
  have hnb : (n : Int) ≤ 137438953472 := by omega
  have hmb : (m : Int) ≤ 137438953472 := by omega
  obtain ⟨L, hL⟩ : ∃ L, n + m + 1 = L := ⟨_, rfl⟩
  have rL : (n : Int) + (m : Int) + 1 = (L : Int) := by omega
  have hmk := fun W => run_mk (P := Try.prog) .i64 28 3 i0 Try.underlying28 hi hz0 hz1 (by omega) L (by omega) W
  have HLL := Lib.hid hL
  have hLb : Hid (L < 1099511627776) := by show L < _; omega
  rw [hn, hm]
  clear hn hm hl1 hl2 hx1 hL
  go_enter Try.func19, Try.ntmps19
  go_wp2
  clear hmk
  go_loopw [6] (fun s wr => ∃ (i : Nat) (out : List Nat), i ≤ n ∧ s = .int .i64 (i : Int) ∧ Hid (Bk .i64 3 wr w.heap.size out) ∧ Hid (Mo X Y L i out) ∧ Hid (Bl w wr)) (fun s _ => n - (intOf s).toNat)
  case atStart => exact ⟨0, _, Nat.zero_le _, rfl, Bk.made _ _ _ _, mo_start X Y L, (Bl.refl w).alloc _⟩
  case round =>
    obtain ⟨i, out, hil, rfl, hbk, hd, hb⟩ := hrel
    by_cases hlt : i < n
    · have hd0 := Lib.hid (mi_start hd.out)
      clear hd
      go_wp2
      go_loopw [7, 8] (fun cc s wr => ∃ (k c : Nat) (out : List Nat), k ≤ m + 1 ∧ s = .int .i64 (k : Int) ∧ cc = .int .i64 (c : Int) ∧ Hid (Bk .i64 3 wr w.heap.size out) ∧ Hid (Mi X Y L i k c out) ∧ Hid (Bl w wr)) (fun _ s _ => m + 1 - (intOf s).toNat)
      case atStart => exact ⟨0, 0, out, Nat.zero_le _, rfl, rfl, hbk, hd0, hb⟩
      case round =>
        clear hbk hd0 hb
        obtain ⟨k, c, out', hk, rfl, rfl, hbk, hd, hb⟩ := hrel
        by_cases hg : k < m ∨ 0 < c
        · have hkm : k ≤ m := by
            rcases Nat.lt_or_ge m k with h | h
            · have := mi_far HM.out hd.out h; omega
            · exact h
          have hj : i + k < out'.length := by rw [hd.out.len]; have := HLL.out; omega
          obtain ⟨ad, hA, hca⟩ := (H1.out.bl hb.out).at_ (i := i) (by rw [HN.out]; exact hlt)
          rw [dig_get 65536 (by decide)] at hca
          have hco := hbk.out.cell (i + k) hj
          have hfz := hbk.out.free (i + k)
          have hst := fun s hs => mi_step hd.out hj s hs
          have D2 := fun w h => rdigit_any (.slice A2 m c2) (dig 65536 Y) k (by omega) w h
          rw [dig_getD 65536 (by decide)] at D2
          have ho := hd.out.all (i + k) hj
          have hc4 := hd.out.lt
          obtain ⟨o, eo⟩ : ∃ o, out'[i + k] = o := ⟨_, rfl⟩
          have h1 : X / 65536 ^ i % 65536 < 65536 := Nat.mod_lt _ (by decide)
          have h2 : Y / 65536 ^ k % 65536 < 65536 := Nat.mod_lt _ (by decide)
          obtain ⟨d1, e1⟩ : ∃ d, X / 65536 ^ i % 65536 = d := ⟨_, rfl⟩
          obtain ⟨d2, e2⟩ : ∃ d, Y / 65536 ^ k % 65536 = d := ⟨_, rfl⟩
          rw [eo] at hco hst ho
          rw [e1] at hca hst h1
          rw [e2] at D2 hst h2
          obtain ⟨p, u, r, q, r1, r2, r3, r4, r5, e4, e5⟩ := mi_num o d1 d2 c (o + d1 * d2 + c) ho h1 h2 hc4 rfl
          obtain ⟨hS, hsl⟩ := hst _ rfl
          rw [e4, e5] at hS
          obtain ⟨s, es⟩ : ∃ s, o + d1 * d2 + c = s := ⟨_, rfl⟩
          rw [es] at r3 r4 r5 hsl
          obtain ⟨j, ej⟩ : ∃ j, i + k = j := ⟨_, rfl⟩
          have r6 : (i : Int) + (k : Int) = (j : Int) := by omega
          have r7 : IntKind.i64.wrap ((i : Int) + (k : Int)) = (j : Int) := by rw [r6]; exact IntWalk.i64_in _ (by omega)
          have b1 : (0 : Int) ≤ (i : Int) ∧ (i : Int) < (n : Int) := by omega
          have b2 : (0 : Int) ≤ (j : Int) ∧ (j : Int) < (L : Int) := by have := hd.out.len; omega
          have b3 : (s : Int) ≤ 4294967295 := by omega
          have hjl : Hid (j < out'.length) := by rw [← ej]; exact hj
          rw [ej] at hco hfz hS
          have HS := Lib.hid hS
          have HD := Lib.hid D2
          have q2 := Lib.hid (R2.out.bl hb.out)
          have hkb : (k : Int) ≤ 137438953472 := by omega
          have hqb : (q : Int) ≤ 65535 := by omega
          subst hA
          have hkm1 : Hid (k + 1 ≤ m + 1) := by show k + 1 ≤ m + 1; omega
          have hg' : (decide (k < m) = true) ∨ (decide (k < m) = false ∧ 0 < c) := by
            by_cases ha : k < m
            · exact Or.inl (decide_eq_true ha)
            · exact Or.inr ⟨decide_eq_false ha, by omega⟩
          clear hst D2 eo e1 e2 e4 e5 hS es ej h1 h2 ho hd hc4 hj hg hsl b3 hk
          rcases hg' with g1 | ⟨g1, g2⟩
          all_goals
            go_wp2
            go_quiet ((go_at_call 17; exact quiet_left (HD.out _ (q2.out.bl ((Bl.refl wr).drewN _)))))
            have hbk2 := Lib.hid ((hbk.out.drewN nq).set j r hjl.out)
            have hb2 := Lib.hid ((hb.out.drewN nq).setCell (p := ⟨w.heap.size, j, none⟩) (Nat.le_refl _) (.int .i64 (r : Int)))
            clear hca
            go_wp2
            go_roundw
            case rel => exact ⟨k + 1, q, _, hkm1.out, by go_num, by first | rfl | go_num, hbk2.out, HS.out, hb2.out⟩
            case measure => have := hkm1.out; simp [intOf] <;> omega
        · have hc0 : c = 0 := by omega
          subst hc0
          have HE := Lib.hid (mi_end HM.out hd.out (by omega))
          have g1 : decide (k < m) = false := decide_eq_false (by omega)
          clear hd hg
          go_wp2
          go_roundw
          case rel => exact ⟨i + 1, _, by omega, by go_num, hbk, HE, hb⟩
          case measure => simp [intOf] <;> omega
    · have hd' := hd.out
      have hlen : out.length < 1099511627776 := by rw [hd'.len]; exact hLb.out
      have T := Lib.hid (fun W v h => rtrim_any v out hd'.all hlen W h)
      rw [mo_end HN.out hd' (by omega)] at T
      have HR := Lib.hid (hbk.out.rw (n := L) (by rw [hd'.len]) (by have := hLb.out; unfold maxLen; omega))
      clear hlen hd hd'
      go_wp2_with (go_at_call 16; (with_reducible refine (T.out _ _ HR.out).mono ?_); rintro e w' ⟨v', rfl, hr, hb'⟩; have HR' := Lib.hid hr; have HB' := Lib.hid hb'; clear hr hb')
      go_ret
      exact RwEnd.mk HR'.out (hb.out.trans HB'.out)
end Go.Proofs.Ytdoohlehglakfaa
