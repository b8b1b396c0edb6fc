/-
  Package prod: Kara, over numbers.
-/
import Derived.Test.YteoeaogfeblokaaProdH
namespace Go.Proofs.Yteoeaogfeblokaa
open Go.RowKit
set_option linter.unusedVariables false
set_option linter.unusedSimpArgs false

def CKara : Prop := ∀ (W : World) (v u : Value) (X Y j : Nat) (t : Int), Nu W v X → Nu W u Y → Sz j X → Sz j Y → j ≤ 200000 → t ≤ 9223372036854775807 → -9223372036854775808 ≤ t →
  Calls Try.prog 15 #[v, u, .int .i64 t] W (RwEnd .u64 W (dig 18446744073709551616 (X * Y)))

set_option maxRecDepth 100000 in
set_option maxHeartbeats 4000000 in
theorem pKara : CKara := by
  intro W v u X Y j t hv hu hsx hsy hj ht1 ht2
  obtain ⟨k, ek⟩ : ∃ k, (max t 3).toNat = k := ⟨_, rfl⟩
  have e1 : max t 3 = (k : Int) := by omega
  have hk3 : 3 ≤ k := by omega
  have hkb : k ≤ 9223372036854775807 := by omega
  have lx := dig_len_of_lt 18446744073709551616 (by decide) X j hsx
  have ly := dig_len_of_lt 18446744073709551616 (by decide) Y j hsy
  have KX := Lib.hid (fun W' (g : Bl W W') => pNorm W' v X (hv.bl g))
  have KY := Lib.hid (fun W' (g : Bl W W') => pNorm W' u Y (hu.bl g))
  have KK := Lib.hid (fun W' p q v' u' (hp : W'.cell? ⟨p, 0, none⟩ = some (.int .i64 (k : Int))) (hq : W'.cell? ⟨q, 0, none⟩ = some (.func (.func 32) #[] #[.pointer (some ⟨p, 0, none⟩), .pointer (some ⟨q, 0, none⟩)])) (hpl : p < W'.heap.size) (hql : q < W'.heap.size)
    (h : Rw .u64 W' v' (dig 18446744073709551616 X)) (h' : Rw .u64 W' u' (dig 18446744073709551616 Y)) => ck_all j W' p q k v' u' X Y hp hq hpl hql hk3 hkb h h' lx ly hj)
  clear ek lx ly hv hu hsx hsy hj hk3 hkb
  go_enter Try.func15, Try.ntmps15
  go_wp2
  obtain ⟨W1, hW1⟩ : ∃ W1, (W.alloc (.cells #[.int .i64 (k : Int)] 3)).alloc (.cells #[.func (.func 32) #[] #[.pointer (some ⟨W.heap.size, 0, none⟩), .pointer (some ⟨W.heap.size + 1, 0, none⟩)]] 49) = W1 := ⟨_, rfl⟩
  have hc1 : W1.cell? ⟨W.heap.size, 0, none⟩ = some (.int .i64 (k : Int)) := by rw [← hW1]; simp
  have hc2 : W1.cell? ⟨W.heap.size + 1, 0, none⟩ = some (.func (.func 32) #[] #[.pointer (some ⟨W.heap.size, 0, none⟩), .pointer (some ⟨W.heap.size + 1, 0, none⟩)]) := by rw [← hW1]; simp
  have hs : W.heap.size + 1 + 1 ≤ W1.heap.size := by rw [← hW1]; simp
  have hB : Bl W W1 := by rw [← hW1]; exact ((Bl.refl W).alloc _).alloc _
  rw [hW1]
  have C1 := Lib.hid (fun w' (g : Bl W1 w') => (g.cell (p := ⟨W.heap.size, 0, none⟩) (by show W.heap.size < _; omega)).trans hc1)
  have C2 := Lib.hid (fun w' (g : Bl W1 w') => (g.cell (p := ⟨W.heap.size + 1, 0, none⟩) (by show W.heap.size + 1 < _; omega)).trans hc2)
  have HS := Lib.hid hs
  have HB := Lib.hid hB
  clear hc1 hs hB hW1
  go_region_with (first
    | (go_at_call 30; (with_reducible refine (KX.out _ (HB.out.drew)).mono ?_); rintro e w1 ⟨v1, rfl, hr, hb'⟩; have R1 := Lib.hid hr; have B1 := Lib.hid ((Bl.refl W1).drew.trans hb'); have hc3 := C2.out _ B1.out; clear hr hb')
    | (go_at_call 30; (with_reducible refine (KY.out _ (HB.out.trans B1.out)).mono ?_); rintro e w2 ⟨v2, rfl, hr, hb'⟩; have R2 := Lib.hid hr; have R1' := Lib.hid (R1.out.bl hb'); have B2 := Lib.hid (B1.out.trans hb'); have hc4 := C2.out _ B2.out; clear hr hb')
    | (go_at_call 32; (with_reducible refine (KK.out _ _ _ _ _ (C1.out _ B2.out) (C2.out _ B2.out) (by have := B2.out.size; have := HS.out; omega) (by have := B2.out.size; have := HS.out; omega) R1'.out R2.out).mono ?_); rintro e w3 ⟨v3, rfl, hr, hb'⟩; have R3 := Lib.hid hr; have B3 := Lib.hid (B2.out.trans hb'); clear hr hb'))
  all_goals
    go_wp2
    go_ret
    exact RwEnd.mk R3.out (HB.out.trans B3.out)
end Go.Proofs.Yteoeaogfeblokaa
