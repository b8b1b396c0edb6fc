/-
  The example at the head of layer 15's statements.
-/
import Derived.Test.YtgbeflocojmhhaaDkF
import Derived.Test.YtgbeflocojmhhaaDkH
import Derived.KernelRfl
namespace Go.Proofs.Ytgbeflocojmhhaa
open Go.RowKit
set_option linter.unusedVariables false
set_option linter.unusedSimpArgs false

theorem sh1 : wrR 9 [] ⟨#[102]⟩ ⟨#[97, 98]⟩ = [⟨⟨#[102]⟩, ⟨#[97, 98]⟩, ⟨#[]⟩⟩] := by kernel_rfl
theorem sh2 : syR [⟨⟨#[102]⟩, ⟨#[97, 98]⟩, ⟨#[]⟩⟩] ⟨#[102]⟩ = [⟨⟨#[102]⟩, ⟨#[97, 98]⟩, ⟨#[97, 98]⟩⟩] := by kernel_rfl
theorem sh3 : wrR 9 [⟨⟨#[102]⟩, ⟨#[97, 98]⟩, ⟨#[97, 98]⟩⟩] ⟨#[102]⟩ ⟨#[99, 100]⟩ = [⟨⟨#[102]⟩, ⟨#[99, 100]⟩, ⟨#[97, 98]⟩⟩] := by kernel_rfl
theorem sh4 : cr [⟨⟨#[102]⟩, ⟨#[99, 100]⟩, ⟨#[97, 98]⟩⟩] [] = [⟨⟨#[102]⟩, ⟨#[97, 98]⟩, ⟨#[97, 98]⟩⟩] := by kernel_rfl
theorem sh5 : rdD [⟨⟨#[102]⟩, ⟨#[97, 98]⟩, ⟨#[97, 98]⟩⟩] ⟨#[102]⟩ = ⟨#[97, 98]⟩ := by kernel_rfl
theorem sh6 : rdE [⟨⟨#[102]⟩, ⟨#[97, 98]⟩, ⟨#[97, 98]⟩⟩] ⟨#[102]⟩ = 0 := by kernel_rfl
theorem sh7 : wrE 9 [] ⟨#[102]⟩ ⟨#[97, 98]⟩ = 0 := by kernel_rfl
theorem sh8 : fE [⟨⟨#[102]⟩, ⟨#[97, 98]⟩, ⟨#[]⟩⟩] ⟨#[102]⟩ = 0 := by kernel_rfl
theorem sh9 : wrE 9 [⟨⟨#[102]⟩, ⟨#[97, 98]⟩, ⟨#[97, 98]⟩⟩] ⟨#[102]⟩ ⟨#[99, 100]⟩ = 0 := by kernel_rfl
theorem szs_one {n d s : ByteArray} (h : n.size ≤ 140737488355328 ∧ d.size ≤ 140737488355328 ∧ s.size ≤ 140737488355328) : Szs [⟨n, d, s⟩] := by
  intro f hf
  obtain rfl : f = ⟨n, d, s⟩ := by simpa using hf
  exact h
set_option maxRecDepth 100000 in
set_option maxHeartbeats 4000000 in
theorem shown15 (w : World) : Calls Try.prog 9 #[] w fun e w' => e = .returned (.bool true) ∧ Bl w w' := by
  have KN := Lib.hid (fun W => pNew_any 9 (by decide) W)
  rw [show (if (9 : Int) < 0 then (0 : Int) else 9) = 9 from rfl] at KN
  have K1 := Lib.hid (fun W => pWrite_any 9 (.slice none 0 0) [] ⟨#[102]⟩ ⟨#[97, 98]⟩ (by decide) (by decide) W (Fw.nil W) (by decide) (fun f hf => by cases hf))
  have K2 := Lib.hid (fun W v hv => pSync_any 9 v [⟨⟨#[102]⟩, ⟨#[97, 98]⟩, ⟨#[]⟩⟩] ⟨#[102]⟩ W hv (by decide))
  have K3 := Lib.hid (fun W v hv => pWrite_any 9 v [⟨⟨#[102]⟩, ⟨#[97, 98]⟩, ⟨#[97, 98]⟩⟩] ⟨#[102]⟩ ⟨#[99, 100]⟩ (by decide) (by decide) W hv (by decide) (szs_one (by decide)))
  have K4 := Lib.hid (fun W v hv => pCrash_any 9 v (.slice none 0 0) [⟨⟨#[102]⟩, ⟨#[99, 100]⟩, ⟨#[97, 98]⟩⟩] [] W hv (Rw.nil _ _) (fun i h => absurd h (by simp)) (by decide) (szs_one (by decide)))
  have K5 := Lib.hid (fun W v hv => pRead_any 9 v [⟨⟨#[102]⟩, ⟨#[97, 98]⟩, ⟨#[97, 98]⟩⟩] ⟨#[102]⟩ W hv)
  rw [sh1] at K1
  rw [sh2] at K2
  rw [sh3] at K3
  rw [sh4] at K4
  rw [sh5, sh6] at K5
  go_enter Try.func9, Try.ntmps9
  rw [sh7] at K1
  rw [sh8] at K2
  rw [sh9] at K3
  go_wp2_with (first
    | (go_at_call 11; (with_reducible refine (KN.out _).mono ?_); rintro e w1 ⟨rfl, hb⟩; have G1 := Lib.hid hb; clear hb)
    | (go_at_call 20; (with_reducible refine (K1.out _).mono ?_); rintro e w2 ⟨v2, rfl, hv, hb⟩; obtain ⟨A2, c2, rfl, -⟩ := fw_open (n := 1) hv rfl; have G2 := Lib.hid (G1.out.trans hb); have R2 := Lib.hid (hv.bl ((Bl.refl w2).alloc (.cells #[.int .i64 9, .slice A2 1 c2] 24))); clear hb hv)
    | (go_at_call 15; (with_reducible refine (K2.out _ _ R2.out).mono ?_); rintro e w3 ⟨v3, rfl, hv, hb⟩; obtain ⟨A3, c3, rfl, -⟩ := fw_open (n := 1) hv rfl; have G3 := Lib.hid ((G2.out.alloc _).trans hb); have T3 : Hid (Bq w3 (w2.heap.size) 24 [.int .i64 9, .slice A2 1 c2]) := (Bq.new w2 24 [.int .i64 9, .slice A2 1 c2]).bl hb; have p3 := T3.out.cell 0 rfl; have q3 := T3.out.cell 1 rfl; have f3 := T3.out.free 0; have g3 := T3.out.free 1; have S3 : Hid (Bq ((w3.setCell ⟨w2.heap.size, 0, none⟩ (.int .i64 9)).setCell ⟨w2.heap.size, 1, none⟩ (.slice A3 1 c3)) (w2.heap.size) 24 [.int .i64 9, .slice A3 1 c3]) := set2_at T3.out 9 _; have r3 := S3.out.cell 0 rfl; have s3 := S3.out.cell 1 rfl; have R3 : Hid (Fw ((w3.setCell ⟨w2.heap.size, 0, none⟩ (.int .i64 9)).setCell ⟨w2.heap.size, 1, none⟩ (.slice A3 1 c3)) (.slice A3 1 c3) _) := fw_set2 hv T3.out 9 _; have G3' : Hid (Bl w ((w3.setCell ⟨w2.heap.size, 0, none⟩ (.int .i64 9)).setCell ⟨w2.heap.size, 1, none⟩ (.slice A3 1 c3))) := set2_bl G3.out G2.out.size 9 _; clear hb hv)
    | (go_at_call 20; (with_reducible refine (K3.out _ _ R3.out).mono ?_); rintro e w4 ⟨v4, rfl, hv, hb⟩; obtain ⟨A4, c4, rfl, -⟩ := fw_open (n := 1) hv rfl; have G4 := Lib.hid (G3'.out.trans hb); have T4 : Hid (Bq w4 (w2.heap.size) 24 [.int .i64 9, .slice A3 1 c3]) := S3.out.bl hb; have p4 := T4.out.cell 0 rfl; have q4 := T4.out.cell 1 rfl; have f4 := T4.out.free 0; have g4 := T4.out.free 1; have S4 : Hid (Bq ((w4.setCell ⟨w2.heap.size, 0, none⟩ (.int .i64 9)).setCell ⟨w2.heap.size, 1, none⟩ (.slice A4 1 c4)) (w2.heap.size) 24 [.int .i64 9, .slice A4 1 c4]) := set2_at T4.out 9 _; have r4 := S4.out.cell 0 rfl; have s4 := S4.out.cell 1 rfl; have R4 : Hid (Fw ((w4.setCell ⟨w2.heap.size, 0, none⟩ (.int .i64 9)).setCell ⟨w2.heap.size, 1, none⟩ (.slice A4 1 c4)) (.slice A4 1 c4) _) := fw_set2 hv T4.out 9 _; have G4' : Hid (Bl w ((w4.setCell ⟨w2.heap.size, 0, none⟩ (.int .i64 9)).setCell ⟨w2.heap.size, 1, none⟩ (.slice A4 1 c4))) := set2_bl G4.out G2.out.size 9 _; clear hb hv)
    | (go_at_call 13; (with_reducible refine (K4.out _ _ R4.out).mono ?_); rintro e w5 ⟨v5, rfl, hv, hb⟩; obtain ⟨A5, c5, rfl, -⟩ := fw_open (n := 1) hv rfl; have G5 := Lib.hid (G4'.out.trans hb); have R5 := Lib.hid hv; clear hb hv)
    | (go_at_call 16; (with_reducible refine (K5.out _ _ R5.out).mono ?_); rintro e w6 ⟨rfl, hb⟩; have G6 := Lib.hid (G5.out.trans hb); clear hb))
  go_ret
  exact ⟨by simp, G6.out⟩
end Go.Proofs.Ytgbeflocojmhhaa
