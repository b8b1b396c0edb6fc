/-
  The calls of package mont that make a form: what they answer. · The parameters of a number, and mont.Make: what they answer.
-/
import Derived.Test.YtiainhbkoehhjaaDoorPk9
namespace Go.Proofs.YtiainhbkoehhjaaDoor
open Go.RowKit
set_option linter.unusedVariables false

/-! ### The inverse -/
def nx (m y : Nat) : Nat := y * ((4294967298 - m * y % 4294967296) % 4294967296) % 4294967296
def itn (m : Nat) : Nat → Nat
  | 0 => m
  | k + 1 => nx m (itn m k)
theorem nx_lt (m y : Nat) : nx m y < 4294967296 := Nat.mod_lt _ (by decide)

/-- The bits that are right. -/
def Rt (k m y : Nat) : Prop := ((2 : Int) ^ k) ∣ 1 - (m : Int) * (y : Int)
theorem nx_int (m y : Nat) : ∃ j : Int, (nx m y : Int) = (y : Int) * (2 - (m : Int) * (y : Int)) + 4294967296 * j := by
  obtain ⟨c, hc⟩ : ∃ c, m * y = c := ⟨_, rfl⟩
  have h1 : ∃ j : Int, (((4294967298 - m * y % 4294967296) % 4294967296 : Nat) : Int) = 2 - (m : Int) * (y : Int) + 4294967296 * j := by
    rw [← Int.natCast_mul, hc]
    exact ⟨(((4294967298 - c % 4294967296) % 4294967296 : Nat) : Int) / 4294967296 - (2 - (c : Int)) / 4294967296 + (((4294967298 - c % 4294967296) % 4294967296 : Nat) : Int) * 0, by omega⟩
  obtain ⟨j, hj⟩ := h1
  obtain ⟨b, hb⟩ : ∃ b, (4294967298 - m * y % 4294967296) % 4294967296 = b := ⟨_, rfl⟩
  have e : nx m y = y * b % 4294967296 := by unfold nx; rw [hb]
  rw [hb] at hj
  have h2 : ((y * b % 4294967296 : Nat) : Int) = (y : Int) * (b : Int) - 4294967296 * (((y : Int) * (b : Int)) / 4294967296) := by
    rw [Int.natCast_emod, Int.natCast_mul]
    have := Int.emod_add_mul_ediv ((y : Int) * (b : Int)) 4294967296
    omega
  refine ⟨(y : Int) * j - ((y : Int) * (b : Int)) / 4294967296, ?_⟩
  rw [e, h2, hj, Int.mul_add, Int.mul_sub, ← Int.mul_assoc (y : Int) 4294967296, Int.mul_comm (y : Int) 4294967296, Int.mul_assoc]
  generalize (y : Int) * (2 - ↑m * ↑y) = g
  generalize (↑y * j : Int) = g2
  omega
theorem rt_step (k m y : Nat) (hk : 2 * k ≤ 32) (h : Rt k m y) : Rt (2 * k) m (nx m y) := by
  obtain ⟨c, hc⟩ := h
  obtain ⟨j, hj⟩ := nx_int m y
  have e : (4294967296 : Int) = 2 ^ (2 * k) * 2 ^ (32 - 2 * k) := by
    rw [← Int.pow_add, show 2 * k + (32 - 2 * k) = 32 from by omega]; decide
  refine ⟨c * c - 2 ^ (32 - 2 * k) * ((m : Int) * j), ?_⟩
  have e2 : (2 : Int) ^ (2 * k) = 2 ^ k * 2 ^ k := by rw [← Int.pow_add]; congr 1; omega
  rw [hj, e]
  generalize hP : (2 : Int) ^ (2 * k) = P at e2 ⊢
  generalize hQ : (2 : Int) ^ (32 - 2 * k) = R
  generalize (2 : Int) ^ k = p at hc e2
  have h2 : (1 - (m : Int) * y) * (1 - (m : Int) * y) = P * (c * c) := by rw [hc, e2]; simp only [Int.mul_assoc, Int.mul_left_comm]
  have h3 : 1 - (m : Int) * ((y : Int) * (2 - m * y) + P * R * j) = (1 - (m : Int) * y) * (1 - (m : Int) * y) - P * (R * ((m : Int) * j)) := by
    simp only [Int.mul_add, Int.mul_sub, Int.sub_mul, Int.mul_one, Int.one_mul]
    have a1 : (m : Int) * (P * R * j) = P * (R * (m * j)) := by simp only [Int.mul_assoc, Int.mul_left_comm]
    have a2 : (m : Int) * (y * (m * y)) = m * y * (m * y) := by simp only [Int.mul_assoc]
    have a3 : (m : Int) * (y * 2) = m * y + m * y := by rw [← Int.mul_assoc]; omega
    rw [a1, a2, a3]
    omega
  rw [h3, h2, Int.mul_sub]
theorem rt_weak {k l m y : Nat} (h : Rt l m y) (hk : k ≤ l) : Rt k m y := by
  obtain ⟨c, hc⟩ := h
  refine ⟨2 ^ (l - k) * c, ?_⟩
  rw [hc, ← Int.mul_assoc, ← Int.pow_add]
  congr 2; omega
theorem rt_first (m : Nat) (h : m % 2 = 1) : Rt 3 m m := by
  obtain ⟨q, hq⟩ : ∃ q, m = 2 * q + 1 := ⟨m / 2, by omega⟩
  subst hq
  obtain ⟨z, hz⟩ : ∃ z, q * (q + 1) = 2 * z := by
    refine ⟨q * (q + 1) / 2, ?_⟩
    have : q * (q + 1) % 2 = 0 := by
      rcases Nat.mod_two_eq_zero_or_one q with h | h
      · rw [Nat.mul_mod, h, Nat.zero_mul]
      · rw [Nat.mul_mod, show (q + 1) % 2 = 0 from by omega, Nat.mul_zero]
    omega
  refine ⟨-(z : Int), ?_⟩
  have e : ((2 * q + 1 : Nat) : Int) * ((2 * q + 1 : Nat) : Int) = 4 * ((q * (q + 1) : Nat) : Int) + 1 := by
    simp only [Int.natCast_add, Int.natCast_mul, Int.mul_add, Int.add_mul]
    generalize hh : ((2 : Nat) : Int) * (q : Int) * (((2 : Nat) : Int) * (q : Int)) = g
    have : g = 4 * ((q : Int) * (q : Int)) := by
      rw [← hh]
      have : ((2 : Nat) : Int) = 2 := rfl
      rw [this, Int.mul_assoc, Int.mul_left_comm (q : Int) 2, ← Int.mul_assoc, ← Int.mul_assoc, Int.mul_assoc]
      rfl
    rw [this]
    simp only [Int.natCast_one, Int.mul_one]
    have : ((2 : Nat) : Int) = 2 := rfl
    rw [this]
    omega
  rw [e, hz]
  show (1 : Int) - _ = 8 * _
  omega
theorem inv_all (m : Nat) (h : m % 2 = 1) : itn m 4 * m % 4294967296 = 1 := by
  have h0 := rt_first m h
  have h1 := rt_step 3 m _ (by omega) h0
  have h2 := rt_step 6 m _ (by omega) h1
  have h3 := rt_step 12 m _ (by omega) h2
  have h4 := rt_step 16 m _ (by omega) (rt_weak (k := 16) h3 (by omega))
  obtain ⟨c, hc⟩ := h4
  have e : itn m 4 = nx m (nx m (nx m (nx m m))) := rfl
  rw [← e] at hc
  have h5 : ((itn m 4 * m : Nat) : Int) = (m : Int) * (itn m 4 : Int) := by rw [Int.natCast_mul, Int.mul_comm]
  have e32 : (2 : Int) ^ (2 * 16) = 4294967296 := by decide
  rw [e32] at hc
  omega
theorem itn_lt (m k : Nat) (h : m < 4294967296) : itn m k < 4294967296 := by
  cases k with
  | zero => exact h
  | succ k => exact nx_lt _ _
/-- What is minus the inverse. -/
def ngn (m : Nat) : Nat := (4294967296 - itn m 4) % 4294967296
theorem ngn_ok (m : Nat) (h : m % 2 = 1) (hm : m < 4294967296) : NegOk m (ngn m) ∧ ngn m < 4294967296 := by
  have hi := inv_all m h
  have hl := itn_lt m 4 hm
  obtain ⟨v, hv⟩ : ∃ v, itn m 4 = v := ⟨_, rfl⟩
  unfold ngn
  rw [hv] at hi hl ⊢
  have hv0 : v ≠ 0 := by intro e; subst e; simp at hi
  have e1 : (4294967296 - v) % 4294967296 = 4294967296 - v := Nat.mod_eq_of_lt (by omega)
  rw [e1]
  refine ⟨?_, by omega⟩
  unfold NegOk
  rw [Nat.sub_mul]
  have hle : v * m ≤ 4294967296 * m := Nat.mul_le_mul_right _ (by omega)
  generalize v * m = c at hi hle
  omega

theorem nx_num (m y : Nat) : ∃ a b z : Nat, ((m : Int) * (y : Int)) % 4294967296 = (a : Int) ∧ (2 - (a : Int)) % 4294967296 = (b : Int) ∧ ((y : Int) * (b : Int)) % 4294967296 = (z : Int) ∧ nx m y = z := by
  refine ⟨m * y % 4294967296, (4294967298 - m * y % 4294967296) % 4294967296, nx m y, ?_, ?_, ?_, rfl⟩
  · rw [← Int.natCast_mul]; rfl
  · omega
  · rw [← Int.natCast_mul]; rfl

set_option maxRecDepth 100000 in
theorem better_any (by' bm m y : Nat) (w : World) (hy : w.cell? ⟨by', 0, none⟩ = some (.int .u32 (y : Int))) (hm : w.cell? ⟨bm, 0, none⟩ = some (.int .u32 (m : Int))) (hf : w.frozen? ⟨by', 0, none⟩ = false) :
    Calls Tryd.prog 81 #[.pointer (some ⟨by', 0, none⟩), .pointer (some ⟨bm, 0, none⟩)] w fun e w' => e = .returned (.tuple #[]) ∧ w' = w.setCell ⟨by', 0, none⟩ (.int .u32 ((nx m y : Nat) : Int)) := by
  obtain ⟨a, b, z, r1, r2, r3, hz⟩ := nx_num m y
  rw [hz]
  clear hz
  go_enter Tryd.func81, Tryd.ntmps81
  go_wp2
  go_end0
  exact ⟨rfl, rfl⟩

theorem captured (w : World) (x : Value) (t : TypeId) : ((w.alloc (.cells #[x] t)).alloc (.cells #[x] t)).cell? ⟨w.heap.size + 1, 0, none⟩ = some x ∧ ((w.alloc (.cells #[x] t)).alloc (.cells #[x] t)).cell? ⟨w.heap.size, 0, none⟩ = some x := by
  constructor <;> simp

/-- What holds of the two captured variables behind k rounds. -/
def InvR (w0 : World) (m k : Nat) (w : World) : Prop :=
  w.cell? ⟨w0.heap.size + 1, 0, none⟩ = some (.int .u32 ((itn m k : Nat) : Int)) ∧ w.cell? ⟨w0.heap.size, 0, none⟩ = some (.int .u32 (m : Int)) ∧ w.frozen? ⟨w0.heap.size + 1, 0, none⟩ = false ∧ Gr w0 w
theorem invR_start (w : World) (m : Nat) (t : TypeId) : InvR w m 0 ((w.alloc (.cells #[.int .u32 (m : Int)] t)).alloc (.cells #[.int .u32 (m : Int)] t)) :=
  ⟨(captured w _ _).1, (captured w _ _).2, by simp, ((Gr.refl w).alloc _ _).alloc _ _⟩
theorem invR_step {w0 w : World} {m k : Nat} (h : InvR w0 m k w) : InvR w0 m (k + 1) (w.setCell ⟨w0.heap.size + 1, 0, none⟩ (.int .u32 ((nx m (itn m k) : Nat) : Int))) := by
  obtain ⟨h1, h2, h3, h4⟩ := h
  refine ⟨World.cell?_setCell_same _ _ _ h1, ?_, (World.frozen?_setCell _ _ _ _).trans h3, h4.setCell (by show w0.heap.size ≤ w0.heap.size + 1; omega) _⟩
  rw [World.cell?_setCell_other _ _ _ _ (fun e => by have := congrArg Addr.block e; simp at this)]
  exact h2

set_option maxRecDepth 100000 in
set_option maxHeartbeats 1000000 in
theorem inverse_any (m : Nat) (w : World) :
    Calls Tryd.prog 78 #[.int .u32 (m : Int)] w fun e w' => e = .returned (.int .u32 ((itn m 4 : Nat) : Int)) ∧ Gr w w' := by
  have hmf : ∀ (fn : Fn) (first cap : Array Value) (w : World), (Instr.makeFunc fn first cap).run Tryd.prog w = .ok (.func fn first cap) w := fun _ _ _ _ => rfl
  go_enter Tryd.func78, Tryd.ntmps78
  go_wp2
  go_loopw [7] (fun i wr => ∃ k : Nat, k ≤ 4 ∧ i = .int .i64 (k : Int) ∧ InvR w m k wr) (fun i _ => 4 - (intOf i).toNat)
  case atStart => exact ⟨0, by omega, rfl, invR_start w m _⟩
  case round =>
    obtain ⟨k, hk, rfl, hi⟩ := hrel
    have HI := Lib.hid hi
    obtain ⟨hy, hmm, hf, _⟩ := hi
    by_cases hlt : k < 4
    · have B := Lib.hid (better_any (w.heap.size + 1) w.heap.size m (itn m k) wr hy hmm hf)
      clear hy hmm hf
      go_wp2_with (go_at_call 81; (with_reducible refine (B.out).mono ?_); rintro e w' ⟨rfl, rfl⟩)
      go_roundw
      case rel => exact ⟨k + 1, by omega, by go_num, invR_step HI.out⟩
      case measure => simp [intOf]; omega
    · have hk4 : k = 4 := by omega
      subst hk4
      go_wp2
      go_ret
      exact ⟨rfl, HI.out.2.2.2⟩

set_option maxRecDepth 100000 in
set_option maxHeartbeats 400000 in
theorem shifted_any (m a : Nat) (hm : m < 2147483648) (ha : a < m) (w : World) :
    Calls Tryd.prog 77 #[.int .u32 (m : Int), .int .u32 (a : Int)] w fun e w' => e = .returned (.int .u32 ((fm m a : Nat) : Int)) ∧ w = w' := by
  have h0 := Lib.hid (sh_zero m a ha)
  have hp : 0 < m := by omega
  have E := Lib.hid (sh_all m a)
  clear ha
  go_enter Tryd.func77, Tryd.ntmps77
  go_wp2
  go_loop [1, 5] (fun s i => ∃ k : Nat, k ≤ 32 ∧ i = .int .i64 (k : Int) ∧ s = .int .u32 ((sh m a k : Nat) : Int)) (fun _ i => 32 - (intOf i).toNat)
  case atStart => exact ⟨0, by omega, rfl, by rw [h0.out]⟩
  case round =>
    obtain ⟨k, hk, rfl, rfl⟩ := hrel
    by_cases hlt : k < 32
    · obtain ⟨x, hx⟩ : ∃ x, sh m a k = x := ⟨_, rfl⟩
      have hxm : x < m := by rw [← hx]; exact sh_lt m a k hp
      have hs := sh_succ m a k hp
      rw [hx] at hs
      have B := Lib.hid (fun w => below_any m (2 * x) (by omega) (by omega) w)
      rw [hs] at B
      have r1 : 2 * (x : Int) % 4294967296 = ((2 * x : Nat) : Int) := by omega
      obtain ⟨y, hy⟩ : ∃ y, 2 * x = y := ⟨_, rfl⟩
      rw [hy] at r1 B
      rw [hx]
      clear hx hxm hs hy hm hp
      go_wp2_with (go_at_call 79; (with_reducible refine (B.out _).mono ?_); rintro e w' ⟨rfl, rfl⟩)
      go_round
      case rel => exact ⟨k + 1, by omega, by go_num, rfl⟩
      case measure => simp [intOf]; omega
    · have hk4 : k = 32 := by omega
      subst hk4
      rw [E.out]
      go_wp2
      go_ret
      exact ⟨rfl, rfl⟩
end Go.Proofs.YtiainhbkoehhjaaDoor
namespace Go.Proofs.YtiainhbkoehhjaaDoor
open Go.RowKit
set_option linter.unusedVariables false

/-- Has a number a form? -/
def May (m : Nat) : Prop := m % 2 = 1 ∧ 3 ≤ m ∧ m < 2147483648
theorem pm_of (m : Nat) (h : May m) : Pm m (ngn m) (fm m 1) (fm m (fm m 1)) := by
  obtain ⟨h1, h2, h3⟩ := h
  obtain ⟨a, b⟩ := ngn_ok m h1 (by omega)
  refine ⟨h1, h2, h3, b, a, rfl, ?_⟩
  unfold fm
  rw [Nat.one_mul, ← Nat.mul_mod, Nat.mod_mul_mod]

theorem params_no (m : Nat) (hm : m < 4294967296) (h : ¬ May m) (w : World) :
    Calls Tryd.prog 65 #[.int .u32 (m : Int)] w fun e w' => e = .returned (frm 0 0 0 0) ∧ Gr w w' := by
  unfold frm
  by_cases h1 : m < 3
  · clear h
    go_enter Tryd.func65, Tryd.ntmps65
    go_wp2
    refine bodyPost_ret (v := .agg #[.int .u32 0, .int .u32 0, .int .u32 0, .int .u32 0]) (by simp [results, Tryd.results65, go_sem]) rfl ⟨rfl, (Gr.refl _).alloc _ _⟩
  · by_cases h2 : m % 2 = 0
    · have hb : ((m : Int) % 2 == 0) = true := by rw [beq_iff_eq]; omega
      clear h h2
      go_enter Tryd.func65, Tryd.ntmps65
      go_wp2
      refine bodyPost_ret (v := .agg #[.int .u32 0, .int .u32 0, .int .u32 0, .int .u32 0]) (by simp [results, Tryd.results65, go_sem]) rfl ⟨rfl, (Gr.refl _).alloc _ _⟩
    · have hb : ((m : Int) % 2 == 0) = false := by rw [beq_eq_false_iff_ne]; omega
      have h3 : ¬ m < 2147483648 := fun h3 => h ⟨by omega, by omega, h3⟩
      have hc : decide ((2147483648 : Int) ≤ (m : Int)) = true := by rw [decide_eq_true_iff]; omega
      clear h h2 h3
      go_enter Tryd.func65, Tryd.ntmps65
      go_wp2
      refine bodyPost_ret (v := .agg #[.int .u32 0, .int .u32 0, .int .u32 0, .int .u32 0]) (by simp [results, Tryd.results65, go_sem]) rfl ⟨rfl, (Gr.refl _).alloc _ _⟩

set_option maxRecDepth 100000 in
set_option maxHeartbeats 1000000 in
theorem params_yes (m : Nat) (h : May m) (w : World) :
    Calls Tryd.prog 65 #[.int .u32 (m : Int)] w fun e w' => e = .returned (frm m (ngn m) (fm m 1) (fm m (fm m 1))) ∧ Gr w w' := by
  unfold frm
  obtain ⟨m1, m2, m3⟩ := h
  have h1 : ¬ m < 3 := by omega
  have hb : ((m : Int) % 2 == 0) = false := by rw [beq_eq_false_iff_ne]; omega
  have hc : decide ((2147483648 : Int) ≤ (m : Int)) = false := by rw [decide_eq_false_iff_not]; omega
  have S1 := Lib.hid (fun w => shifted_any m 1 m3 (by omega) w)
  have S2 := Lib.hid (fun w => shifted_any m (fm m 1) m3 (fm_lt m 1 (by omega)) w)
  have I := Lib.hid (fun w => inverse_any m w)
  have r : -((itn m 4 : Nat) : Int) % 4294967296 = ((ngn m : Nat) : Int) := by
    have := itn_lt m 4 (by omega)
    unfold ngn; omega
  obtain ⟨v, hv⟩ : ∃ v, itn m 4 = v := ⟨_, rfl⟩
  obtain ⟨g, hg⟩ : ∃ g, ngn m = g := ⟨_, rfl⟩
  obtain ⟨o, ho⟩ : ∃ o, fm m 1 = o := ⟨_, rfl⟩
  rw [ho] at S1 S2
  rw [show ((1 : Nat) : Int) = 1 from rfl] at S1
  obtain ⟨q, hq⟩ : ∃ q, fm m o = q := ⟨_, rfl⟩
  rw [hq] at S2
  rw [hv] at I r
  rw [hg] at r
  rw [hg, ho, hq]
  have F0 := Lib.hid (four_box w (.int .u32 0) (.int .u32 0) (.int .u32 0) (.int .u32 0) 77)
  clear hv hg ho hq m1 m2 m3
  go_enter Tryd.func65, Tryd.ntmps65
  go_wp2_with (first
    | (go_at_call 77; (with_reducible refine (S1.out _).mono ?_); rintro e w' ⟨rfl, rfl⟩)
    | (go_at_call 77; (with_reducible refine (S2.out _).mono ?_); rintro e w' ⟨rfl, rfl⟩)
    | (go_at_call 78; (with_reducible refine (I.out _).mono ?_); rintro e w1 ⟨rfl, hg⟩; obtain ⟨k0, k1, k2, k3, kb⟩ := F0.out.kept hg; have hf := hg.2; have HG := Lib.hid hg; clear hg))
  have hG : Gr w (((((w1.setCell ⟨w.heap.size, 0, none⟩ (.int .u32 (m : Int))).setCell ⟨w.heap.size, 1, none⟩ (.int .u32 (g : Int))).setCell ⟨w.heap.size, 2, none⟩ (.int .u32 (o : Int))).setCell ⟨w.heap.size, 3, none⟩ (.int .u32 (q : Int)))) :=
    ((((((Gr.refl w).alloc _ _).trans HG.out).setCell (Nat.le_refl _) _).setCell (Nat.le_refl _) _).setCell (Nat.le_refl _) _).setCell (Nat.le_refl _) _
  refine bodyPost_ret (v := .agg #[.int .u32 (m : Int), .int .u32 (g : Int), .int .u32 (o : Int), .int .u32 (q : Int)]) (by simp [results, Tryd.results65, go_sem, k0, k1, k2, k3]) rfl ⟨rfl, hG⟩

/-- What Make answers. -/
def mk (m n o s : Nat) (e : Int) : Value := .tuple #[frm m n o s, .int .i64 e]

set_option maxRecDepth 100000 in
set_option maxHeartbeats 1000000 in
theorem make_yes (m : Nat) (h : May m) (w : World) :
    Calls Tryd.prog 44 #[.int .u32 (m : Int)] w fun e w' => e = .returned (mk m (ngn m) (fm m 1) (fm m (fm m 1)) 0) ∧ Gr w w' := by
  have P := Lib.hid (fun w => params_yes m h w)
  unfold frm at P
  unfold mk frm
  have m1 := h.2.1
  have hb : ((m : Int) == 0) = false := by rw [beq_eq_false_iff_ne]; omega
  obtain ⟨g, hg⟩ : ∃ g, ngn m = g := ⟨_, rfl⟩
  obtain ⟨o, ho⟩ : ∃ o, fm m 1 = o := ⟨_, rfl⟩
  rw [ho] at P
  obtain ⟨q, hq⟩ : ∃ q, fm m o = q := ⟨_, rfl⟩
  rw [hg, hq] at P
  rw [hg, ho, hq]
  have F0 := Lib.hid (four_box w (.int .u32 0) (.int .u32 0) (.int .u32 0) (.int .u32 0) 77)
  clear hg ho hq m1 h
  go_enter Tryd.func44, Tryd.ntmps44
  go_wp2_with (go_at_call 65; (with_reducible refine (P.out _).mono ?_); rintro e w1 ⟨rfl, hg⟩; obtain ⟨k0, k1, k2, k3, kb⟩ := F0.out.kept hg; have hf := hg.2; have HG := Lib.hid hg; clear hg)
  have hG : Gr w ((((((w1.setCell ⟨w.heap.size, 0, none⟩ (.int .u32 (m : Int))).setCell ⟨w.heap.size, 1, none⟩ (.int .u32 (g : Int))).setCell ⟨w.heap.size, 2, none⟩ (.int .u32 (o : Int))).setCell ⟨w.heap.size, 3, none⟩ (.int .u32 (q : Int)))).alloc (.cells #[.int .u32 (m : Int), .int .u32 (g : Int), .int .u32 (o : Int), .int .u32 (q : Int)] 77)) :=
    (((((((Gr.refl w).alloc _ _).trans HG.out).setCell (Nat.le_refl _) _).setCell (Nat.le_refl _) _).setCell (Nat.le_refl _) _).setCell (Nat.le_refl _) _).alloc _ _
  refine bodyPost_ret (v := .tuple #[.agg #[.int .u32 (m : Int), .int .u32 (g : Int), .int .u32 (o : Int), .int .u32 (q : Int)], .int .i64 0]) (by simp [results, Tryd.results44, go_sem, k0, k1, k2, k3, kb]) rfl ⟨rfl, hG⟩

set_option maxRecDepth 100000 in
set_option maxHeartbeats 1000000 in
theorem make_no (m : Nat) (hm : m < 4294967296) (h : ¬ May m) (w : World) :
    Calls Tryd.prog 44 #[.int .u32 (m : Int)] w fun e w' => e = .returned (mk 0 0 0 0 1) ∧ Gr w w' := by
  have P := Lib.hid (fun w => params_no m hm h w)
  unfold frm at P
  unfold mk frm
  rw [show ((0 : Nat) : Int) = 0 from rfl] at P ⊢
  have F0 := Lib.hid (four_box w (.int .u32 0) (.int .u32 0) (.int .u32 0) (.int .u32 0) 77)
  clear hm h
  go_enter Tryd.func44, Tryd.ntmps44
  go_wp2_with (go_at_call 65; (with_reducible refine (P.out _).mono ?_); rintro e w1 ⟨rfl, hg⟩; obtain ⟨k0, k1, k2, k3, kb⟩ := F0.out.kept hg; have hf := hg.2; have HG := Lib.hid hg; clear hg)
  have hG : Gr w ((((((w1.setCell ⟨w.heap.size, 0, none⟩ (.int .u32 0)).setCell ⟨w.heap.size, 1, none⟩ (.int .u32 0)).setCell ⟨w.heap.size, 2, none⟩ (.int .u32 0)).setCell ⟨w.heap.size, 3, none⟩ (.int .u32 0))).alloc (.cells #[.int .u32 0, .int .u32 0, .int .u32 0, .int .u32 0] 77)) :=
    (((((((Gr.refl w).alloc _ _).trans HG.out).setCell (Nat.le_refl _) _).setCell (Nat.le_refl _) _).setCell (Nat.le_refl _) _).setCell (Nat.le_refl _) _).alloc _ _
  refine bodyPost_ret (v := .tuple #[.agg #[.int .u32 0, .int .u32 0, .int .u32 0, .int .u32 0], .int .i64 1]) (by simp [results, Tryd.results44, go_sem, k0, k1, k2, k3, kb]) rfl ⟨rfl, hG⟩
end Go.Proofs.YtiainhbkoehhjaaDoor
