/-
  slices.Grow and slices.Concat over files; package disk: replaced.
-/
import Derived.Test.YtgbeflocojmhhaaDkA
import Derived.Test.YtgbeflocojmhhaaReg
import Derived.Deep.RegionWith
namespace Go.Proofs.Ytgbeflocojmhhaa
open Go.RowKit
set_option linter.unusedVariables false
set_option linter.unusedSimpArgs false

/-- What a call answers that makes a row of its own. -/
def OfEnd (W : World) (l : List Fl) (e : Ending) (w : World) : Prop := ∃ v, e = .returned v ∧ Of W.heap.size w v l ∧ Bl W w
theorem OfEnd.mk {W w : World} {l : List Fl} {v : Value} (h : Of W.heap.size w v l) (g : Bl W w) : OfEnd W l (.returned v) w := ⟨v, rfl, h, g⟩
/-- append of make to nothing. -/
theorem app_made {ops : Array Oper} {rest : List Oper} {o : Oper} {a : Act} {Q : Exit → Act → World → Prop} (W w : World)
    (hgd : o.guard = none) (s x : Operand) (ho : o.op = .call { callee := .builtin .append, args := #[s, x], argTypes := #[22, 3] })
    (n : Nat) (hs : a.eval s = .slice none 0 0) (hx : a.eval x = .int .i64 (n : Int)) (hbl : Bl W w) (h0 : 0 < n) (hn : n ≤ 1048576)
    (h : ∀ c w', ¬ c = 0 → Hid (Of W.heap.size w' (.slice (some ⟨w.heap.size, 0, none⟩) 0 c) []) → Hid (Bl W w') → wpList Try.prog ops Q rest (a.put o.dst (.slice (some ⟨w.heap.size, 0, none⟩) n c)) w') : wpList Try.prog ops Q (o :: rest) a w := by
  obtain ⟨i, z, hi, hz, hsize, hby, hzs⟩ := infoF
  have hr := Lib.run_append_nil_zeros (P := Try.prog) w 22 3 o.type 49 i z .i64 .i64 Try.underlying22 Try.underlying3 hi hz n h0 (by omega) (by omega) (by rw [hby]; omega)
  have hge := grownCap_ge w n 0 49
  have hle := grownCap_le_maxLen w n 0 49 (by unfold maxLen; omega)
  refine Lib.wpList_append_run w hgd s x _ _ ho _ _ hs hx _ _ hr (h _ _ (by omega) ?_ ?_)
  · refine World.ownsRow_made w.drew _ _ hbl.size hle ?_
    rw [Array.size_append, size_zeroCells, size_zeroCells, hzs, ← Nat.add_mul]
    congr 1
    omega
  · exact (hbl.drew).alloc _
set_option maxRecDepth 100000 in
set_option maxHeartbeats 4000000 in
theorem pgrow_any (n : Nat) (hn : n ≤ 1048576) (w : World) : Calls Try.prog 43 #[.slice none 0 0, .int .i64 (n : Int)] w (OfEnd w []) := by
  have hnb : (n : Int) ≤ 1048576 := by omega
  have HN := Lib.hid hn
  have z3 := Try.sizeOf49
  rcases Nat.eq_zero_or_pos n with h0 | h0
  · subst h0
    clear hn
    go_enter Try.func43, Try.ntmps43
    go_wp2
    go_ret
    exact OfEnd.mk (Of.nil _ _) (Bl.refl w)
  · have b1 : (0 : Int) < (n : Int) := by omega
    have H0 := Lib.hid h0
    clear hn h0
    go_enter Try.func43, Try.ntmps43
    go_wp2_with (at_builtin; refine app_made w w rfl _ _ rfl n rfl rfl (Bl.refl w) H0.out HN.out ?_; intro c w1 hc ho hb)
    go_ret
    exact OfEnd.mk ho.out hb.out
def catTo (F : List (Value × List Fl)) (k : Nat) : List Fl := (F.take k).flatMap fun p => p.2
theorem catTo_step {F : List (Value × List Fl)} {k : Nat} (h : k < F.length) : catTo F (k + 1) = catTo F k ++ F[k].2 := by
  unfold catTo
  rw [List.take_add_one, List.getElem?_eq_getElem h, List.flatMap_append]
  simp
theorem catTo_le {F : List (Value × List Fl)} {k j : Nat} (h : k ≤ j) : (catTo F k).length ≤ (catTo F j).length := by
  unfold catTo
  have : F.take k = (F.take j).take k := by rw [List.take_take, Nat.min_eq_left h]
  rw [this]
  have e := congrArg List.length (congrArg (List.flatMap fun p : Value × List Fl => p.2) (List.take_append_drop k (F.take j)))
  rw [List.flatMap_append, List.length_append] at e
  omega
set_option maxRecDepth 100000 in
set_option maxHeartbeats 4000000 in
theorem pconcat_any (F : List (Value × List Fl)) (b n : Nat) (hF : F.length = n) (hn : n ≤ 1000) (w : World) (hb : b < w.heap.size) (hc : ∀ k (h : k < F.length), w.cell? ⟨b, k, none⟩ = some F[k].1) (hv : ∀ k (h : k < F.length), Fw w F[k].1 F[k].2) (hl : (catTo F n).length < 1048576) :
    Calls Try.prog 36 #[.slice (some ⟨b, 0, none⟩) n n] w (OfEnd w (catTo F n)) := by
  have HF := Lib.hid hF
  have HB := Lib.hid hb
  have HC := Lib.hid hc
  have HV := Lib.hid hv
  have HT := Lib.hid hl
  have HS := Lib.hid (fun k (h : k < F.length) => catTo_step (F := F) (k := k) h)
  have HM := Lib.hid (fun k (h : k ≤ n) => catTo_le (F := F) h)
  have KG := Lib.hid (fun W m hm => pgrow_any m hm W)
  have hnb : (n : Int) ≤ 1000 := by omega
  obtain ⟨T, hT⟩ : ∃ T, catTo F n = T := ⟨_, rfl⟩
  rw [hT] at HT ⊢
  have ET := Lib.hid hT
  have a22 := Try.isAgg22
  have z22 := Try.sizeOf22
  clear hF hb hc hv hl hT
  go_enter Try.func36, Try.ntmps36
  go_wp2
  go_loop [3, 11] (fun s i => ∃ k : Nat, k ≤ n ∧ i = .int .i64 (k : Int) ∧ s = .int .i64 ((catTo F k).length : Int)) (fun _ i => n - (intOf i).toNat)
  case atStart => exact ⟨0, Nat.zero_le _, rfl, rfl⟩
  case round =>
    obtain ⟨k, hk, rfl, rfl⟩ := hrel
    by_cases hlt : k < n
    · have hkF : k < F.length := by rw [HF.out]; exact hlt
      have hcell := HC.out k hkF
      obtain ⟨A, c, hA⟩ := fw_shape (HV.out k hkF)
      rw [hA] at hcell
      have h1 := congrArg List.length (HS.out k hkF)
      rw [List.length_append] at h1
      have h2 := HM.out (k + 1) hlt
      rw [h1] at h2
      have h3 := HT.out
      rw [ET.out] at h2
      obtain ⟨m, em⟩ : ∃ m, F[k].2.length = m := ⟨_, rfl⟩
      obtain ⟨s, es⟩ : ∃ s, (catTo F k).length = s := ⟨_, rfl⟩
      rw [em, es] at h1 h2
      rw [em] at hcell
      rw [es]
      have H1 := Lib.hid h1
      have b1 : (s : Int) + (m : Int) ≤ 1048576 := by omega
      have b2 : (0 : Int) ≤ (s : Int) := by omega
      have b3 : (0 : Int) ≤ (m : Int) := by omega
      have b4 : (0 : Int) ≤ (k : Int) ∧ (k : Int) < (n : Int) := by omega
      have HI : Hid (k + 1 ≤ n) := hlt
      clear h1 h2 h3 em es hA hkF hlt
      go_wp2
      go_round
      case rel => exact ⟨k + 1, HI.out, by go_num, by rw [H1.out]; go_num⟩
      case measure => have := HI.out; simp [intOf] <;> omega
    · obtain rfl : k = n := by omega
      rw [ET.out]
      obtain ⟨s, es⟩ : ∃ s, T.length = s := ⟨_, rfl⟩
      rw [es] at HT ⊢
      have HG := Lib.hid (KG.out w s (Nat.le_of_lt HT.out))
      have ES := Lib.hid es
      clear hk hlt es
      go_wp2_with (go_at_call 43; (with_reducible refine HG.out.mono ?_); rintro e w1 ⟨v, rfl, hv0, hb0⟩; have HO := Lib.hid hv0; have G0 := Lib.hid hb0; clear hv0 hb0)
      go_loopw [6, 27] (fun s i wr => ∃ (j : Nat), j ≤ k ∧ i = .int .i64 (j : Int) ∧ Hid (Of w.heap.size wr s (catTo F j)) ∧ Hid (Bl w wr)) (fun _ i _ => k - (intOf i).toNat)
      case atStart => exact ⟨0, Nat.zero_le _, rfl, HO.out, G0.out⟩
      case round =>
        obtain ⟨j, hj, rfl, ho, hb⟩ := hrel
        by_cases hlt : j < k
        · have hjF : j < F.length := by rw [HF.out]; exact hlt
          have hcell := (hb.out.cell (p := ⟨b, j, none⟩) HB.out).trans (HC.out j hjF)
          obtain ⟨A, c, hA⟩ := fw_shape (HV.out j hjF)
          have hfw := Lib.hid ((HV.out j hjF).bl hb.out)
          have h1 := HS.out j hjF
          have h2 := HM.out (j + 1) hlt
          rw [h1, List.length_append, ET.out, ES.out] at h2
          have H2 : Hid ((catTo F j).length + F[j].2.length < 1048576) := Nat.lt_of_le_of_lt h2 HT.out
          rw [hA] at hcell hfw
          obtain ⟨m, em⟩ : ∃ m, F[j].2 = m := ⟨_, rfl⟩
          rw [em] at h1 H2 hfw hcell
          have H1 := Lib.hid h1
          have b4 : (0 : Int) ≤ (j : Int) ∧ (j : Int) < (k : Int) := by omega
          have HI : Hid (j + 1 ≤ k) := hlt
          clear h1 h2 em hA hjF hlt
          go_wp2_with (at_builtin; refine app_files w wr rfl _ _ rfl u6 (.slice A m.length c) (catTo F j) m rfl rfl ho.out hfw.out hb.out H2.out ?_; intro v' w' hown' hbl'; rw [← H1.out] at hown')
          go_roundw
          case rel => exact ⟨j + 1, HI.out, by go_num, hown'.out, hbl'.out⟩
          case measure => have := HI.out; simp [intOf] <;> omega
        · obtain rfl : j = k := by omega
          rw [ET.out] at ho
          clear hlt
          go_wp2
          go_ret
          exact OfEnd.mk ho.out hb.out
/-- Three rows one behind the other. -/
theorem pconcat3 (u1 u2 u3 : Value) (l1 l2 l3 : List Fl) (b : Nat) (t : TypeId) (W : World) (h1 : Fw W u1 l1) (h2 : Fw W u2 l2) (h3 : Fw W u3 l3) (hb : Bq W b t [u1, u2, u3]) (hl : l1.length + (l2.length + l3.length) < 1048576) :
    Calls Try.prog 36 #[.slice (some ⟨b, 0, none⟩) 3 3] W (OfEnd W (l1 ++ (l2 ++ l3))) := by
  have e : catTo [(u1, l1), (u2, l2), (u3, l3)] 3 = l1 ++ (l2 ++ l3) := by simp [catTo]
  rw [← e]
  refine pconcat_any [(u1, l1), (u2, l2), (u3, l3)] b 3 rfl (by decide) W hb.lt (fun k h => ?_) (fun k h => ?_) ?_
  · match k, h with
    | 0, _ => exact hb.cell 0 rfl
    | 1, _ => exact hb.cell 1 rfl
    | 2, _ => exact hb.cell 2 rfl
  · match k, h with
    | 0, _ => exact h1
    | 1, _ => exact h2
    | 2, _ => exact h3
  · rw [e, List.length_append, List.length_append]; exact hl
theorem OfEnd.bl {W w w' : World} {l : List Fl} {e : Ending} (h : OfEnd w l e w') (g : Bl W w) : OfEnd W l e w' := by
  obtain ⟨v, he, ho, hb⟩ := h
  exact ⟨v, he, ho.mono g.size, g.trans hb⟩
set_option maxRecDepth 100000 in
set_option maxHeartbeats 4000000 in
theorem preplaced_any (v u : Value) (l m : List Fl) (i j : Nat) (hij : i ≤ j) (hj : j ≤ l.length) (w : World) (hv : Fw w v l) (hu : Fw w u m) (hl : l.length + m.length < 1048576) :
    Calls Try.prog 25 #[v, .int .i64 (i : Int), .int .i64 (j : Int), u] w (OfEnd w (l.take i ++ (m ++ l.drop j))) := by
  obtain ⟨u1, hu1, e1⟩ := fw_to hv i (by omega)
  obtain ⟨u2, hu2, e2⟩ := fw_from hv j hj
  have K := Lib.hid (fun W (g : Bl w W) b (hb : Bq W b 22 [u1, u, u2]) => (pconcat3 u1 u u2 _ _ _ b _ W (hu1.bl g) (hu.bl g) (hu2.bl g) hb (by rw [List.length_take, List.length_drop]; omega)).mono (fun e w' h => h.bl g))
  obtain ⟨A, c, rfl⟩ := fw_shape hv
  obtain ⟨B, k, rfl⟩ := fw_shape hu
  obtain ⟨A1, c1, rfl⟩ := fw_shape hu1
  obtain ⟨A2, c2, rfl⟩ := fw_shape hu2
  obtain ⟨n1, hn1⟩ : ∃ n, (l.take i).length = n := ⟨_, rfl⟩
  obtain ⟨n2, hn2⟩ : ∃ n, (l.drop j).length = n := ⟨_, rfl⟩
  obtain ⟨T, hT⟩ : ∃ T, l.take i ++ (m ++ l.drop j) = T := ⟨_, rfl⟩
  rw [hn1] at e1 K
  rw [hn2] at e2 K
  rw [hT] at K ⊢
  clear hu1 hu2 hv hu hn1 hn2 hT hl hij hj
  go_enter Try.func25, Try.ntmps25
  go_wp2
  go_region_with (first
    | (go_at_call 36; (with_reducible refine (K.out _ ((Bl.refl w).drew.alloc _) _ (Bq.new _ _ _)).mono ?_); rintro e w1 ⟨v1, rfl, ho, hb⟩)
    | (go_at_call 36; (with_reducible refine (K.out _ (((Bl.refl w).alloc _).drew) _ (Bq.new _ _ _).drew).mono ?_); rintro e w1 ⟨v1, rfl, ho, hb⟩))
  go_wp2
  go_ret
  exact OfEnd.mk ho hb
end Go.Proofs.Ytgbeflocojmhhaa
