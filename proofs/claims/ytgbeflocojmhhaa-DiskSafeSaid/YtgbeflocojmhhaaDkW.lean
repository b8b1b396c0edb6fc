/-
  The frame of layer 15's statements: parameters that are disks, strings, masks.
-/
import Derived.Test.YtgbeflocojmhhaaRowS
import Derived.Test.YtgbeflocojmhhaaDkC
import Derived.SizedLaws
import Derived.ChangeMaps5
import Derived.Deep.Slices
namespace Go.Proofs.Ytgbeflocojmhhaa
open Go.ChangeShapes Go.WideShapes Go.ChangeAt Go.RowKit Go.ChangeMaps Go.Deep
set_option linter.unusedVariables false
set_option maxRecDepth 100000

section
variable {H : Type} {enc : TypeId × Value → H}
theorem weights_all {P : Program} {e : TypeId} : ∀ {ds : List (DataW H)} {d : DataW H}, d ∈ ds → ∀ n ∈ d.weights P e, n ∈ DataW.weightsAll P e ds
  | d0 :: ds, d, h, n, hn => by
    simp only [DataW.weightsAll, List.mem_append]
    rcases List.mem_cons.1 h with rfl | h
    · exact .inl hn
    · exact .inr (weights_all h n hn)
instance : Inhabited Fl := ⟨⟨⟨#[]⟩, ⟨#[]⟩, ⟨#[]⟩⟩⟩
theorem str_small {s : ByteArray} (h : s.data.toList.length ≤ reachBytes) : s.size ≤ 140737488355328 := by
  have e : s.data.toList.length = s.size := by show _ = s.data.size; simp
  rw [e] at h
  exact Nat.le_trans h (by decide)
theorem file_of {W : World} {base : Nat} {n : Nat} {cs : List Value} {y : DataW H × List MemPlace} (h : DataW.trod enc Try.prog W base (fun _ => true) true n 49 cs = some y) (hs : ∀ k ∈ y.1.weights Try.prog 49, k ≤ reachBytes) :
    ∃ f : Fl, cs = [.string f.n, .string f.d, .string f.s] ∧ f.n.size ≤ 140737488355328 ∧ f.d.size ≤ 140737488355328 ∧ f.s.size ≤ 140737488355328 := by
  obtain ⟨xs, m', rfl, hxs, hl, hx, hg⟩ := DataW.trod_struct Try.underlying49 h
  rw [show Try.prog.cellsOf 49 = 3 by kernel_rfl] at hl
  have c1 : Try.prog.cellsOf 9 = 1 := by kernel_rfl
  match cs, hl, xs, hx, hxs with
  | [u0, u1, u2], _, [y0, y1, y2], _, hxs =>
    have g0 : DataW.trod enc Try.prog W base (fun _ => true) true m' 9 ((([u0, u1, u2] : List Value).drop 0).take (Try.prog.cellsOf 9)) = some y0 := hg 0 _ rfl
    rw [c1] at g0
    have g1 : DataW.trod enc Try.prog W base (fun _ => true) true m' 9 ((([u0, u1, u2] : List Value).drop 1).take (Try.prog.cellsOf 9)) = some y1 := hg 1 _ rfl
    rw [c1] at g1
    have g2 : DataW.trod enc Try.prog W base (fun _ => true) true m' 9 ((([u0, u1, u2] : List Value).drop 2).take (Try.prog.cellsOf 9)) = some y2 := hg 2 _ rfl
    rw [c1] at g2
    obtain ⟨a, e0, z0, _⟩ := DataW.trod_string Try.underlying9 g0
    obtain ⟨b, e1, z1, _⟩ := DataW.trod_string Try.underlying9 g1
    obtain ⟨c, e2, z2, _⟩ := DataW.trod_string Try.underlying9 g2
    simp at e0 e1 e2
    have hy : y.1 = .agg [y0.1, y1.1, y2.1] := congrArg Prod.fst hxs
    have hw : ∀ (j : Nat) (t : TypeId) (d : DataW H), ([9, 9, 9] : List TypeId)[j]? = some t → ([y0.1, y1.1, y2.1] : List (DataW H))[j]? = some d → ∀ k ∈ d.weights Try.prog t, k ≤ reachBytes := fun j t d h1 h2 k hk => by
      refine hs k ?_
      rw [hy]
      simp only [DataW.weights, Try.underlying49]
      exact DataW.weights_mem_each h1 h2 k hk
    refine ⟨⟨a, b, c⟩, by rw [e0, e1, e2], str_small ?_, str_small ?_, str_small ?_⟩
    · exact hw 0 _ _ rfl rfl _ (by rw [z0]; simp [DataW.weights])
    · exact hw 1 _ _ rfl rfl _ (by rw [z1]; simp [DataW.weights])
    · exact hw 2 _ _ rfl rfl _ (by rw [z2]; simp [DataW.weights])
theorem addr_plain {W : World} {a : Addr} {v : Value} (h : W.cell? a = some v) : a = ⟨a.block, a.off, none⟩ := by
  obtain ⟨b, o, sp⟩ := a
  cases sp with
  | none => rfl
  | some q =>
    exfalso
    simp only [World.cell?] at h
    revert h
    cases W.heap[b]? with
    | none => simp
    | some x => cases x <;> simp
theorem files_of {W : World} {base : Nat} {n : Nat} {v : Value} {y : DataW H × List MemPlace} (h : DataW.trod enc Try.prog W base (fun _ => true) true n 22 [v] = some y) (hs : ∀ k ∈ y.1.weights Try.prog 22, k ≤ reachBytes) : ∃ l : List Fl, Fw W v l ∧ Szs l := by
  have c3 : Try.prog.cellsOf 49 = 3 := by kernel_rfl
  rcases open_slice Try.underlying22 h with ⟨hv, _⟩ | ⟨a, len, cap, m, n', D, Pl, hv, hb, hl, hm, hmm, rfl, hx⟩
  · obtain rfl : v = .slice none 0 0 := by simpa using hv
    exact ⟨[], Fw.nil _, fun f hf => by cases hf⟩
  · obtain rfl : v = .slice (some a) len cap := by simpa using hv
    simp only [if_true] at hmm
    have each : ∀ i, i < len → ∃ f : Fl, W.cell? (a.add (i * 3)) = some (.string f.n) ∧ W.cell? (a.add (i * 3 + 1)) = some (.string f.d) ∧ W.cell? (a.add (i * 3 + 2)) = some (.string f.s) ∧ f.n.size ≤ 140737488355328 ∧ f.d.size ≤ 140737488355328 ∧ f.s.size ≤ 140737488355328 := by
      intro i hi
      obtain ⟨cs', h1, h2⟩ := hx i (by omega)
      rw [c3] at h1
      obtain ⟨_, hlen, hcell⟩ := World.cells?_some h1
      obtain ⟨f, rfl, hsz⟩ := file_of h2 (fun k hk => by
        refine hs k ?_
        simp only [DataW.weights, Try.underlying22]
        refine List.mem_cons_of_mem _ (List.mem_append_left _ (weights_all (d := D i) (List.mem_map.2 ⟨i, List.mem_range.2 hi, rfl⟩) k hk)))
      have e0 := hcell 0 (by omega)
      have e1 := hcell 1 (by omega)
      have e2 := hcell 2 (by omega)
      rw [add_add] at e0 e1 e2
      exact ⟨f, by simpa using e0, by simpa using e1, by simpa using e2, hsz⟩
    obtain ⟨q, hq⟩ := choose_lt each
    have hlen : ((List.range len).map q).length = len := by simp
    refine ⟨(List.range len).map q, ⟨some a, cap, by rw [hlen], by rw [hlen]; exact hl, hm, (fun h => by cases h), fun h0 => ?_⟩, fun f hf => ?_⟩
    · rw [hlen] at h0
      have h00 := (hq 0 h0).1
      have ea := addr_plain (a := a) (by simpa [Addr.add] using h00)
      have hab : a.block < W.heap.size := World.block_lt_of_cell? W a (by simpa [Addr.add] using h00)
      obtain ⟨b, o, sp⟩ := a
      simp only at ea hab
      injection ea with _ _ ea
      subst ea
      refine ⟨b, o, rfl, hab, fun i hi => ?_⟩
      have hi' : i < len := by rw [hlen] at hi; exact hi
      obtain ⟨k0, k1, k2, _⟩ := hq i hi'
      rw [add_none] at k0 k1 k2
      simp only [List.getElem_map, List.getElem_range]
      exact ⟨k0, k1, k2⟩
    · obtain ⟨i, hi, rfl⟩ := List.mem_map.1 hf
      obtain ⟨_, _, _, hz⟩ := hq i (List.mem_range.1 hi)
      exact hz
theorem disk_of {W : World} {base : Nat} {n : Nat} {cs : List Value} {y : DataW H × List MemPlace} (h : DataW.trod enc Try.prog W base (fun _ => true) true n 24 cs = some y) (hs : ∀ k ∈ y.1.weights Try.prog 24, k ≤ reachBytes) :
    ∃ (room : Int) (v : Value) (l : List Fl), cs = [.int .i64 room, v] ∧ (-9223372036854775808 ≤ room ∧ room ≤ 9223372036854775807) ∧ Fw W v l ∧ Szs l := by
  obtain ⟨xs, m', rfl, hxs, hl, hx, hg⟩ := DataW.trod_struct Try.underlying24 h
  rw [show Try.prog.cellsOf 24 = 2 by kernel_rfl] at hl
  have c1 : Try.prog.cellsOf 3 = 1 := by kernel_rfl
  have c2 : Try.prog.cellsOf 22 = 1 := by kernel_rfl
  match cs, hl, xs, hx, hxs with
  | [u0, u1], _, [y0, y1], _, hxs =>
    have g0 : DataW.trod enc Try.prog W base (fun _ => true) true m' 3 ((([u0, u1] : List Value).drop 0).take (Try.prog.cellsOf 3)) = some y0 := hg 0 _ rfl
    rw [c1] at g0
    have g1 : DataW.trod enc Try.prog W base (fun _ => true) true m' 22 ((([u0, u1] : List Value).drop 1).take (Try.prog.cellsOf 22)) = some y1 := hg 1 _ rfl
    rw [c2] at g1
    obtain ⟨a, e0, _, w0⟩ := DataW.trod_int Try.underlying3 g0
    have hy : y.1 = .agg [y0.1, y1.1] := congrArg Prod.fst hxs
    obtain ⟨l, hf, hz⟩ := files_of (v := u1) g1 (fun k hk => by
      refine hs k ?_
      rw [hy]
      simp only [DataW.weights, Try.underlying24]
      exact DataW.weights_mem_each (j := 1) (t := 22) (d := y1.1) rfl rfl k hk)
    simp at e0
    exact ⟨a, u1, l, by rw [e0], bounds_i64 w0, hf, hz⟩
theorem open_disk {ts : List TypeId} {ds : List (DataW H)} (hS : (DataW.weightsEach Try.prog ts ds).all (· ≤ reachBytes) = true) {j : Nat} {W : World} {base : Nat} {r : Reach} {b0 : Nat} {v : Value} {d : DataW H} {p : List MemPlace} (ht : ts[j]? = some 24) (hd : ds[j]? = some d)
    (hval : Value.okWide Try.prog W r b0 24 v) (h : DataW.Trod enc Try.prog W base (fun _ => true) true 24 v d p) :
    ∃ (room : Int) (u : Value) (l : List Fl), v = .agg #[.int .i64 room, u] ∧ (-9223372036854775808 ≤ room ∧ room ≤ 9223372036854775807) ∧ Fw W u l ∧ Szs l := by
  obtain ⟨cs, rfl, _⟩ := okWide_struct Try.underlying24 hval
  obtain ⟨fuel, hf⟩ := h
  obtain ⟨room, u, l, e, hb, h1, h2⟩ := disk_of hf (fun k hk => by simpa using List.all_eq_true.1 hS _ (DataW.weights_mem_each ht hd k hk))
  have e2 : cs.toList = [.int .i64 room, u] := e
  exact ⟨room, u, l, by rw [← Array.toArray_toList (xs := cs), e2], hb, h1, h2⟩
theorem open_str {ts : List TypeId} {ds : List (DataW H)} (hS : (DataW.weightsEach Try.prog ts ds).all (· ≤ reachBytes) = true) {j : Nat} {W : World} {base : Nat} {r : Reach} {b0 : Nat} {v : Value} {d : DataW H} {p : List MemPlace} (ht : ts[j]? = some 9) (hd : ds[j]? = some d)
    (hval : Value.okWide Try.prog W r b0 9 v) (h : DataW.Trod enc Try.prog W base (fun _ => true) true 9 v d p) : ∃ s : ByteArray, v = .string s ∧ s.size ≤ 140737488355328 := by
  obtain ⟨s, rfl, rfl, _, _⟩ := open_string Try.underlying9 hval h
  exact ⟨s, rfl, str_small (sized_string hS ht hd)⟩
theorem open_masks {W : World} {base : Nat} {r : Reach} {b0 : Nat} {v : Value} {d : DataW H} {p : List MemPlace} (hval : Value.okWide Try.prog W r b0 25 v) (h : DataW.Trod enc Try.prog W base (fun _ => true) true 25 v d p) : ∃ l : List Nat, Rw .u64 W v l ∧ All 18446744073709551616 l :=
  open_row Try.underlying25 Try.underlying54 (by kernel_rfl) hval h
end
end Go.Proofs.Ytgbeflocojmhhaa
