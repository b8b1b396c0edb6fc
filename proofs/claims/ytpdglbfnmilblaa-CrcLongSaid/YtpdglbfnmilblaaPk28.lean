/-
  The walk of CrcLong (printed by gen/cst.py)
-/
import Derived.Test.YtpdglbfnmilblaaPk8
import Derived.Test.YtpdglbfnmilblaaPk27
import Derived.BigQuiet
namespace Go.Proofs.Ytpdglbfnmilblaa
open Go.RowKit
set_option linter.unusedVariables false
set_option linter.unusedSimpArgs false

theorem bq_at' {W : World} {b : Nat} {t : TypeId} {cs : List Value} (hb : b = W.heap.size) : Bq (W.alloc (.cells cs.toArray t)) b t cs := by subst hb; exact Bq.new W t cs
set_option maxRecDepth 100000 in
set_option maxHeartbeats 4000000 in
theorem long_no (r : Rc) (vp vq vt : Value) (hw : r.Wd) (w : World) (hp : Rw .u64 w vp r.p) (hq : Rw .u64 w vq r.q) (ht : Rw .u64 w vt r.t) (hm : ¬ r.May) :
    Calls Try.prog 4 #[recV r vp vq vt] w fun e w' => e = .returned (.bool true) ∧ Bl w w' := by
  have KB := Lib.hid (fun W (g : Bl w W) => pBytes_any r vp vq vt hw W (hp.bl g) (hq.bl g) (ht.bl g))
  rw [if_neg hm, if_neg hm] at KB
  obtain ⟨con, dgs, gua, frm, til, p, q, t, m⟩ := r
  dsimp only at hp hq ht
  obtain ⟨A1, c1, rfl, _⟩ := hp
  obtain ⟨A2, c2, rfl, _⟩ := hq
  obtain ⟨A3, c3, rfl, _⟩ := ht
  unfold recV at KB ⊢
  dsimp only at KB ⊢
  clear hm hw
  go_enter Try.func4, Try.ntmps4
  go_wp2_with (first
    | (go_at_call 5; (with_reducible refine (shown14_any _).mono ?_); rintro e w' ⟨rfl, rfl⟩)
    | (go_at_call 7; (with_reducible refine (KB.out _ ((Bl.refl w).alloc _)).mono ?_); rintro e w1 ⟨rfl, hb⟩; have G1 := Lib.hid (((Bl.refl w).alloc _).trans hb); have eN : bs [] = { data := #[] } := rfl; rw [eN]; clear eN hb))
  go_ret
  exact ⟨rfl, G1.out⟩
set_option maxRecDepth 100000 in
set_option maxHeartbeats 4000000 in
theorem long_yes (r : Rc) (vp vq vt : Value) (hw : r.Wd) (w : World) (hp : Rw .u64 w vp r.p) (hq : Rw .u64 w vq r.q) (ht : Rw .u64 w vt r.t) (hm : r.May) :
    Calls Try.prog 4 #[recV r vp vq vt] w fun e w' => e = .returned (.bool true) ∧ Bl w w' := by
  have KB := Lib.hid (fun W (g : Bl w W) => pBytes_any r vp vq vt hw W (hp.bl g) (hq.bl g) (ht.bl g))
  rw [if_pos hm, if_pos hm] at KB
  have hlen := encB_len r
  have hall := encB_all r
  have hz := bs_size (encB r)
  have h4 : 4 < (encB r).length := by omega
  have h0c : (encB r)[4] = r.con.toNat := by
    have hc : be 1 r.con.toNat = [r.con.toNat] := be_one (by have h1 := hm.2.2.1; have h2 := hm.2.2.2; omega)
    have e : encB r = taly ++ ([r.con.toNat] ++ ((encB r).drop 5)) := by
      unfold encB bodyB headB
      rw [hc]
      rfl
    have e2 : (encB r)[4]? = some r.con.toNat := by rw [e]; rfl
    exact (List.getElem?_eq_some_iff.1 e2).2
  have hg := fun h' => bs_get hall 4 h4 h'
  rw [h0c] at hg
  have htk : (encB r).take 4 = taly := by
    unfold encB bodyB
    rw [List.append_assoc, List.take_append_of_le_length (by decide)]; rfl
  have x4 : (bs (encB r)).extract 0 4 = bs ((encB r).take 4) := by rw [bs_extract]; rfl
  rw [htk, show bs taly = { data := #[84, 65, 76, 89] } from rfl] at x4
  have o1 := hm.2.1.1.1
  have o2 := hm.2.1.2.1.1
  have o3 := hm.2.1.2.2.1
  have hcon := hm.2.2
  obtain ⟨S, eS⟩ : ∃ S, bs (encB r) = S := ⟨_, rfl⟩
  have KB' : Hid (∀ W, Bl w W → Calls Try.prog 7 #[recV r vp vq vt] W fun e w' => e = .returned (.tuple #[.string S, .int .i64 0]) ∧ Bl W w') := fun W g => by
    have c := KB.out W g
    unfold BsEnd at c
    rw [eS] at c
    exact c
  rw [eS] at hz hg x4
  rw [hlen] at hz
  clear KB hall hlen eS h4 h0c htk hm hw
  obtain ⟨con, dgs, gua, frm, til, p, q, t, m⟩ := r
  dsimp only at hp hq ht
  obtain ⟨A1, c1, rfl, _⟩ := hp
  obtain ⟨A2, c2, rfl, _⟩ := hq
  obtain ⟨A3, c3, rfl, _⟩ := ht
  unfold recV at KB' ⊢
  dsimp only at KB' ⊢
  dsimp only at hg hz o1 o2 o3 hcon
  obtain ⟨c, rfl⟩ : ∃ c : Nat, con = (c : Int) := ⟨con.toNat, by omega⟩
  rw [Int.toNat_natCast] at hg
  have cb : (c : Int) ≤ 255 := by omega
  obtain ⟨n1, e1⟩ : ∃ n, p.length = n := ⟨_, rfl⟩
  obtain ⟨n2, e2⟩ : ∃ n, q.length = n := ⟨_, rfl⟩
  obtain ⟨n3, e3⟩ : ∃ n, t.length = n := ⟨_, rfl⟩
  rw [e1] at o1 hz KB' ⊢
  rw [e2] at o2 hz KB' ⊢
  rw [e3] at o3 hz KB' ⊢
  obtain ⟨M1, f1⟩ : ∃ M, n1 + n2 = M := ⟨_, rfl⟩
  obtain ⟨M2, f2⟩ : ∃ M, M1 + n3 = M := ⟨_, rfl⟩
  obtain ⟨M3, f3⟩ : ∃ M, 8 * M2 = M := ⟨_, rfl⟩
  obtain ⟨M4, f4⟩ : ∃ M, 38 + M3 = M := ⟨_, rfl⟩
  have y1 : (n1 : Int) + (n2 : Int) = (M1 : Int) := by omega
  have y2 : (M1 : Int) + (n3 : Int) = (M2 : Int) := by omega
  have y3 : (8 : Int) * (M2 : Int) = (M3 : Int) := by omega
  have y4 : (38 : Int) + (M3 : Int) = (M4 : Int) := by omega
  have hz4 : S.size = M4 := by omega
  have m1 : (M1 : Int) ≤ 8192 := by omega
  have m2 : (M2 : Int) ≤ 12288 := by omega
  have m3 : (M3 : Int) ≤ 98304 := by omega
  have m4 : (38 : Int) ≤ (M4 : Int) ∧ (M4 : Int) ≤ 98342 := by omega
  have b4 : (0 : Int) ≤ 4 ∧ (4 : Int) ≤ (M4 : Int) := by omega
  have b5 : (4 : Int) < (M4 : Int) := by omega
  have b6 : (4 : Int) < (S.size : Int) := by omega
  have b7 : (0 : Int) ≤ 4 ∧ (4 : Int) ≤ (S.size : Int) := by omega
  have Q0 := Lib.hid (bq_at' (W := w) (t := 36) (cs := recC (c : Int) dgs gua frm til (.slice A1 n1 c1) (.slice A2 n2 c2) (.slice A3 n3 c3) m) rfl)
  clear hz e1 e2 e3 f1 f2 f3 f4 o1 o2 o3 hcon
  go_enter Try.func4, Try.ntmps4
  go_wp2_with (first
    | (go_at_call 5; (with_reducible refine (shown14_any _).mono ?_); rintro e w' ⟨rfl, rfl⟩)
    | (go_at_call 7; (with_reducible refine (KB'.out _ ((Bl.refl w).alloc _)).mono ?_); rintro e w1 ⟨rfl, hb⟩; have G1 := Lib.hid (((Bl.refl w).alloc _).trans hb); have Q1 := Lib.hid (Q0.out.bl hb); have k0 := Q1.out.cell 0 rfl; have k5 := Q1.out.cell 5 rfl; have k6 := Q1.out.cell 6 rfl; have k7 := Q1.out.cell 7 rfl; clear hb))
  go_quiet (fail)
  go_wp2
  go_ret
  exact ⟨rfl, G1.out.drewN _⟩
theorem crcLong_walk (r : Rc) (vp vq vt : Value) (hw : r.Wd) (w : World) (hp : Rw .u64 w vp r.p) (hq : Rw .u64 w vq r.q) (ht : Rw .u64 w vt r.t) :
    Calls Try.prog 4 #[recV r vp vq vt] w fun e w' => e = .returned (.bool true) ∧ Bl w w' := by
  by_cases h : r.May
  · exact long_yes r vp vq vt hw w hp hq ht h
  · exact long_no r vp vq vt hw w hp hq ht h
end Go.Proofs.Ytpdglbfnmilblaa
