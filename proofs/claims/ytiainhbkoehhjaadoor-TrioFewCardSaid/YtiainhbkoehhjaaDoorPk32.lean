/-
  The Chinese remainder theorem for the three primes (plain); package trio: digit; what the parameters and the inverses of the three primes are.
-/
import Derived.Test.YtiainhbkoehhjaaDoorPk24
import Derived.Test.YtiainhbkoehhjaaDoorPk31
namespace Go.Proofs.YtiainhbkoehhjaaDoor
open Go.RowKit
open Plain (fermat_one)
set_option linter.unusedVariables false
set_option linter.unusedSimpArgs false

/-- X is the number below the bound that is as a, b and c modulo the primes. -/
def Jc (a b c X : Nat) : Prop := X < bd ∧ Cg 998244353 X a ∧ Cg 167772161 X b ∧ Cg 469762049 X c
theorem dvd_of_cg {m X Y : Nat} (h : Cg m X Y) (hle : Y ≤ X) : m ∣ X - Y := Nat.dvd_of_mod_eq_zero (Nat.sub_mod_eq_zero_of_mod_eq h)
theorem jc_one {a b c X Y : Nat} (hx : Jc a b c X) (hy : Jc a b c Y) : X = Y := by
  have key : ∀ X Y, Jc a b c X → Jc a b c Y → Y ≤ X → X = Y := by
    intro X Y hx hy hle
    obtain ⟨h0, h1, h2, h3⟩ := hx
    obtain ⟨g0, g1, g2, g3⟩ := hy
    have d1 := dvd_of_cg (h1.trans g1.symm) hle
    have d2 := dvd_of_cg (h2.trans g2.symm) hle
    have d3 := dvd_of_cg (h3.trans g3.symm) hle
    have c1 : Nat.Coprime 998244353 167772161 := by decide +kernel
    have c2 : Nat.Coprime (998244353 * 167772161) 469762049 := by decide +kernel
    have d := c2.mul_dvd_of_dvd_of_dvd (c1.mul_dvd_of_dvd_of_dvd d1 d2) d3
    have hb : 998244353 * 167772161 * 469762049 = bd := by decide
    rw [hb] at d
    have h4 : X - Y = 0 := Nat.eq_zero_of_dvd_of_lt d (Nat.lt_of_le_of_lt (Nat.sub_le _ _) h0)
    exact Nat.le_antisymm (Nat.le_of_sub_eq_zero h4) hle
  rcases Nat.le_total X Y with h | h
  · exact (key Y X hy hx h).symm
  · exact key X Y hx hy h
theorem prt_self {m p q : Nat} (t : Nat) (hP : P3 m) (h : p * q % m ≠ 0) : Cg m (prt t m p q) t := by
  have hf : Cg m ((p * q) ^ (m - 1)) 1 := by
    show _ % m = 1 % m
    rw [fermat_one hP.pr h, Nat.mod_eq_of_lt (by have := hP.ge; omega)]
  unfold prt tn
  have e1 : Cg m (p * q * (t * ((p * q % m) ^ (m - 2) % m) % m)) (p * q * (t * (p * q) ^ (m - 2))) :=
    (Cg.refl m _).mul ((Cg.mod m _).trans ((Cg.refl m t).mul ((Cg.mod m _).trans ((Cg.mod m _).pow _))))
  refine e1.trans ?_
  have e2 : p * q * (t * (p * q) ^ (m - 2)) = (p * q) ^ (m - 1) * t := by
    have : m - 1 = m - 2 + 1 := by have := hP.ge; omega
    rw [this, Nat.pow_succ]; ac_rfl
  rw [e2]
  have := hf.mul (Cg.refl m t)
  rwa [Nat.one_mul] at this
theorem prt_left (t m p q : Nat) : Cg p (prt t m p q) 0 := by
  unfold prt
  have h : Cg p p 0 := by show p % p = 0 % p; rw [Nat.mod_self, Nat.zero_mod]
  exact (h.zero_mul (b := q)).zero_mul
theorem prt_right (t m p q : Nat) : Cg q (prt t m p q) 0 := by
  unfold prt
  have h : Cg q q 0 := by show q % q = 0 % q; rw [Nat.mod_self, Nat.zero_mod]
  exact (Cg.mul_zero (a := p) h).zero_mul
theorem mod_bd {m X : Nat} (h : m ∣ bd) : Cg m (X % bd) X := Nat.mod_mod_of_dvd X h
/-- The document's answer. -/
theorem jn_is (a b c : Nat) : Jc a b c (jn a b c) := by
  have hA : P3 998244353 := .inl rfl
  have hB : P3 167772161 := .inr (.inl rfl)
  have hC : P3 469762049 := .inr (.inr rfl)
  have a1 := prt_self (p := 167772161) (q := 469762049) a hA (by decide)
  have a2 := prt_left a 998244353 167772161 469762049
  have a3 := prt_right a 998244353 167772161 469762049
  have b1 := prt_self (p := 998244353) (q := 469762049) b hB (by decide)
  have b2 := prt_left b 167772161 998244353 469762049
  have b3 := prt_right b 167772161 998244353 469762049
  have c1 := prt_self (p := 998244353) (q := 167772161) c hC (by decide)
  have c2 := prt_left c 469762049 998244353 167772161
  have c3 := prt_right c 469762049 998244353 167772161
  unfold jn
  obtain ⟨x, hx⟩ : ∃ x, prt a 998244353 167772161 469762049 = x := ⟨_, rfl⟩
  obtain ⟨y, hy⟩ : ∃ x, prt b 167772161 998244353 469762049 = x := ⟨_, rfl⟩
  obtain ⟨z, hz⟩ : ∃ x, prt c 469762049 998244353 167772161 = x := ⟨_, rfl⟩
  rw [hx] at a1 a2 a3 ⊢
  rw [hy] at b1 b2 b3 ⊢
  rw [hz] at c1 c2 c3 ⊢
  refine ⟨Nat.mod_lt _ bd_pos, (mod_bd (by decide)).trans ?_, (mod_bd (by decide)).trans ?_, (mod_bd (by decide)).trans ?_⟩
  · have := a1.add (b2.add c2); simpa using this
  · have := a2.add (b1.add c3); simpa using this
  · have := a3.add (b3.add c1); simpa using this

/-- A digit: a less b, times y. -/
def dgt (m a b y : Nat) : Nat := (a % m + m - b % m) % m * y % m
theorem dgt_lt (m a b y : Nat) (h : 0 < m) : dgt m a b y < m := Nat.mod_lt _ h
theorem dgt_is {m y z : Nat} (h : 0 < m) (hy : Cg m (y * z) 1) (a b : Nat) : Cg m (dgt m a b y * z + b) a := by
  have hb := Nat.mod_lt b h
  have e1 : Cg m (dgt m a b y * z) (a % m + m - b % m) := by
    refine ((Cg.mod m _).mul (Cg.refl m z)).trans ?_
    rw [Nat.mul_assoc]
    have := (Cg.mod m (a % m + m - b % m)).mul hy
    rwa [Nat.mul_one] at this
  refine (e1.add (Cg.mod m b).symm).trans ?_
  rw [Nat.sub_add_cancel (by omega)]
  have := Cg.over m (a % m) 1
  rw [Nat.one_mul] at this
  exact this.trans (Cg.mod m a)
/-- The number by its digits. -/
def jx (a b c y1 y2 y3 : Nat) : Nat := 998244353 * (dgt 167772161 b (a % 998244353) y1 + 167772161 * dgt 469762049 (dgt 469762049 c (a % 998244353) y2) (dgt 167772161 b (a % 998244353) y1) y3) + a % 998244353
theorem jx_is (a b c y1 y2 y3 : Nat) (h1 : Cg 167772161 (y1 * 998244353) 1) (h2 : Cg 469762049 (y2 * 998244353) 1) (h3 : Cg 469762049 (y3 * 167772161) 1) : Jc a b c (jx a b c y1 y2 y3) := by
  unfold jx
  have ha : a % 998244353 < 998244353 := Nat.mod_lt _ (by decide)
  have haa : Cg 998244353 (a % 998244353) a := Cg.mod _ _
  obtain ⟨f, hf⟩ : ∃ x, a % 998244353 = x := ⟨_, rfl⟩
  rw [hf] at ha haa ⊢
  have d1 := dgt_is (by decide) h1 b f
  have l1 := dgt_lt 167772161 b f y1 (by decide)
  obtain ⟨s, hs⟩ : ∃ x, dgt 167772161 b f y1 = x := ⟨_, rfl⟩
  rw [hs] at d1 l1 ⊢
  have d2 := dgt_is (by decide) h2 c f
  obtain ⟨t, ht⟩ : ∃ x, dgt 469762049 c f y2 = x := ⟨_, rfl⟩
  rw [ht] at d2 ⊢
  have d3 := dgt_is (by decide) h3 t s
  have l3 := dgt_lt 469762049 t s y3 (by decide)
  obtain ⟨u, hu⟩ : ∃ x, dgt 469762049 t s y3 = x := ⟨_, rfl⟩
  rw [hu] at d3 l3 ⊢
  refine ⟨?_, ?_, ?_, ?_⟩
  · have e1 : s + 167772161 * u ≤ 167772160 + 167772161 * 469762048 := by omega
    have e2 : 998244353 * (s + 167772161 * u) ≤ 998244353 * (167772160 + 167772161 * 469762048) := Nat.mul_le_mul_left _ e1
    have e3 : 998244353 * (167772160 + 167772161 * 469762048) + 998244352 < bd := by decide
    omega
  · rw [Nat.add_comm, Nat.mul_comm]
    exact (Cg.over _ _ _).trans haa
  · have e : 998244353 * (s + 167772161 * u) + f = s * 998244353 + f + 998244353 * u * 167772161 := by omega
    rw [e]
    exact (Cg.over _ _ _).trans d1
  · have e : 998244353 * (s + 167772161 * u) + f = (u * 167772161 + s) * 998244353 + f := by omega
    rw [e]
    exact ((d3.mul (Cg.refl _ 998244353)).add (Cg.refl _ f)).trans d2

/-! ### The program's parts -/
theorem make_ex (m : Nat) (h : P3 m) : ∃ n o s, Pm m n o s ∧ ∀ w, Calls Tryd.prog 44 #[.int .u32 (m : Int)] w fun e w' => e = .returned (mk m n o s 0) ∧ Gr w w' :=
  ⟨_, _, _, pm_of m h.may, fun w => make_yes m h.may w⟩
theorem inverse_ex (m a : Nat) (h : P3 m) (ha : a < 18446744073709551616) (h0 : a % m ≠ 0) : ∃ y, Cg m (y * a) 1 ∧ fm m y < m ∧ ∀ {n o s : Nat}, Pm m n o s → ∀ w, Calls Tryd.prog 45 #[frm m n o s, .int .u64 (a : Int)] w fun e w' => e = .returned (.int .u32 ((fm m y : Nat) : Int)) ∧ Gr w w' := by
  refine ⟨a ^ (m - 2), ?_, fm_lt _ _ (by have := h.ge; omega), fun pm w => inverse_t pm a ha w⟩
  have e : a ^ (m - 2) * a = a ^ (m - 1) := by
    rw [← Nat.pow_succ]
    congr 1
    have := h.ge
    omega
  rw [e]
  show _ % m = 1 % m
  rw [fermat_one h.pr h0, Nat.mod_eq_of_lt (by have := h.ge; omega)]
theorem rd_right (m x y : Nat) (h : m % 2 = 1) : rd m (x * fm m y) = x * y % m := by
  refine (rd_only m _ _ h (Nat.mod_lt _ (by omega)) ?_).symm
  refine ((Cg.mod m _).mul (Cg.refl m _)).trans (Cg.symm (((Cg.refl m x).mul (fm_cg m y)).trans (Cg.of_eq ?_)))
  rw [Nat.mul_assoc]
theorem digit_num {m : Nat} (hm : 3 ≤ m) (hm2 : m < 1073741824) (a b : Nat) : ∃ x z s t r : Nat, (a : Int) % (m : Int) = (x : Int) ∧ (b : Int) % (m : Int) = (z : Int) ∧ (x : Int) + (m : Int) = (s : Int) ∧ (s : Int) - (z : Int) = (t : Int) ∧ bel m t = r ∧ s < 4294967296 ∧ t < 4294967296 ∧ r < m ∧ (a % m + m - b % m) % m = r := by
  have h1 := Nat.mod_lt a (show 0 < m by omega)
  have h2 := Nat.mod_lt b (show 0 < m by omega)
  refine ⟨a % m, b % m, a % m + m, a % m + m - b % m, (a % m + m - b % m) % m, by omega, by omega, by omega, by omega, bel_mod m _ (by omega), by omega, by omega, Nat.mod_lt _ (by omega), rfl⟩

set_option maxRecDepth 100000 in
set_option maxHeartbeats 1000000 in
theorem digit_any {m n o s : Nat} (pm : Pm m n o s) (hm : m < 1073741824) (a b y : Nat) (w : World) :
    Calls Tryd.prog 47 #[frm m n o s, .int .u32 (a : Int), .int .u32 (b : Int), .int .u32 ((fm m y : Nat) : Int)] w fun e w' => e = .returned (.int .u32 ((dgt m a b y : Nat) : Int)) ∧ Gr w w' := by
  have hlo := pm.lo
  obtain ⟨x, z, s1, t1, r1, e1, e2, e3, e4, e5, l1, l2, l3, e6⟩ := digit_num hlo hm a b
  have B := Lib.hid (fun w => tbelow_any m t1 (by omega) l2 w)
  rw [e5] at B
  have hfl := fm_lt m y (by omega)
  have MM := fun w => mmul_any pm r1 (fm m y) (by omega) (by omega) (prod_lt m r1 _ (by omega) hfl) w
  have hv : rd m (r1 * fm m y) = dgt m a b y := by unfold dgt; rw [rd_right m r1 y pm.odd, e6]
  rw [hv] at MM
  obtain ⟨Y, hY⟩ : ∃ Y, fm m y = Y := ⟨_, rfl⟩
  obtain ⟨D, hD⟩ : ∃ Y, dgt m a b y = Y := ⟨_, rfl⟩
  rw [hY, hD] at MM
  rw [hY, hD]
  have HM := Lib.hid MM
  have r2 : IntKind.u32.wrap (s1 : Int) = (s1 : Int) := IntWalk.u32_in _ (by omega)
  have r3 : IntKind.u32.wrap (t1 : Int) = (t1 : Int) := IntWalk.u32_in _ (by omega)
  have r4 : (s1 : Int) % 4294967296 = (s1 : Int) := by omega
  have r5 : (t1 : Int) % 4294967296 = (t1 : Int) := by omega
  have r6 : ((m : Int) == 0) = false := by rw [beq_eq_false_iff_ne]; omega
  have r7 : ¬ (m : Int) = 0 := by omega
  have r8 : ¬ m = 0 := by omega
  have e7 : (a : Int).tmod (m : Int) = (x : Int) := by rw [Int.tmod_eq_emod_of_nonneg (by omega)]; exact e1
  have e8 : (b : Int).tmod (m : Int) = (z : Int) := by rw [Int.tmod_eq_emod_of_nonneg (by omega)]; exact e2
  have r9 : IntKind.u32.wrap (x : Int) = (x : Int) := IntWalk.u32_in _ (by omega)
  have r10 : IntKind.u32.wrap (z : Int) = (z : Int) := IntWalk.u32_in _ (by omega)
  have r11 : (x : Int) % 4294967296 = (x : Int) := by omega
  have r12 : (z : Int) % 4294967296 = (z : Int) := by omega
  unfold frm at HM ⊢
  clear hlo e5 l1 l2 l3 e6 hfl MM hv hY hD pm hm
  go_enter Tryd.func47, Tryd.ntmps47
  go_wp2
  go_quiet ((go_at_call 68; exact quiet_left (B.out _)))
  go_wp2_with (go_at_call 59; (with_reducible refine (HM.out _).mono ?_); rintro e w' ⟨rfl, hg⟩)
  go_ret
  exact ⟨rfl, (((Gr.refl w).alloc _ _).drewN _).trans hg⟩
end Go.Proofs.YtiainhbkoehhjaaDoor
