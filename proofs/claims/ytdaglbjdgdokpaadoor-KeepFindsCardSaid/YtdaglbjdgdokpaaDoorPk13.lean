/-
  The frame of layer 15's statements: parameters that are disks, strings, masks. · The frame of layer 16's statements: parameters that are ranges. · strconv.Itoa and strings.Join of the library lie in this program as the library's contracts have them.
-/
import Derived.Test.YtdaglbjdgdokpaaDoorPk2
import Derived.Test.YtdaglbjdgdokpaaDoorPk12
import Derived.SizedLaws
import Derived.ChangeMaps5
import Derived.Deep.Slices
import Derived.Test.YtdaglbjdgdokpaaDoorChecked
import Derived.Shelf.Strconv.Itoa3
import Derived.Shelf.Strings.OnBuilder
import Derived.Test.YtdaglbjdgdokpaaDoorProg
namespace Go.Proofs.YtdaglbjdgdokpaaDoor
open Go.ChangeShapes Go.WideShapes Go.ChangeAt Go.RowKit Go.ChangeMaps Go.Deep
set_option linter.unusedVariables false
set_option maxRecDepth 100000

section
variable {H : Type} {enc : TypeId × Value → H}
theorem weights_all {P : Program} {e : TypeId} : ∀ {ds : List (DataW H)} {d : DataW H}, d ∈ ds → ∀ n ∈ d.weights P e, n ∈ DataW.weightsAll P e ds
  | d0 :: ds, d, h, n, hn => by
    simp only [DataW.weightsAll, List.mem_append]
    rcases List.mem_cons.1 h with rfl | h
    · exact .inl hn
    · exact .inr (weights_all h n hn)
instance : Inhabited Fl := ⟨⟨⟨#[]⟩, ⟨#[]⟩, ⟨#[]⟩⟩⟩
theorem str_small {s : ByteArray} (h : s.data.toList.length ≤ reachBytes) : s.size ≤ 140737488355328 := by
  have e : s.data.toList.length = s.size := by show _ = s.data.size; simp
  rw [e] at h
  exact Nat.le_trans h (by decide)
theorem file_of {W : World} {base : Nat} {n : Nat} {cs : List Value} {y : DataW H × List MemPlace} (h : DataW.trod enc Tryd.prog W base (fun _ => true) true n 39 cs = some y) (hs : ∀ k ∈ y.1.weights Tryd.prog 39, k ≤ reachBytes) :
    ∃ f : Fl, cs = [.string f.n, .string f.d, .string f.s] ∧ f.n.size ≤ 140737488355328 ∧ f.d.size ≤ 140737488355328 ∧ f.s.size ≤ 140737488355328 := by
  obtain ⟨xs, m', rfl, hxs, hl, hx, hg⟩ := DataW.trod_struct Tryd.underlying39 h
  rw [show Tryd.prog.cellsOf 39 = 3 by kernel_rfl] at hl
  have c1 : Tryd.prog.cellsOf 9 = 1 := by kernel_rfl
  match cs, hl, xs, hx, hxs with
  | [u0, u1, u2], _, [y0, y1, y2], _, hxs =>
    have g0 : DataW.trod enc Tryd.prog W base (fun _ => true) true m' 9 ((([u0, u1, u2] : List Value).drop 0).take (Tryd.prog.cellsOf 9)) = some y0 := hg 0 _ rfl
    rw [c1] at g0
    have g1 : DataW.trod enc Tryd.prog W base (fun _ => true) true m' 9 ((([u0, u1, u2] : List Value).drop 1).take (Tryd.prog.cellsOf 9)) = some y1 := hg 1 _ rfl
    rw [c1] at g1
    have g2 : DataW.trod enc Tryd.prog W base (fun _ => true) true m' 9 ((([u0, u1, u2] : List Value).drop 2).take (Tryd.prog.cellsOf 9)) = some y2 := hg 2 _ rfl
    rw [c1] at g2
    obtain ⟨a, e0, z0, _⟩ := DataW.trod_string Tryd.underlying9 g0
    obtain ⟨b, e1, z1, _⟩ := DataW.trod_string Tryd.underlying9 g1
    obtain ⟨c, e2, z2, _⟩ := DataW.trod_string Tryd.underlying9 g2
    simp at e0 e1 e2
    have hy : y.1 = .agg [y0.1, y1.1, y2.1] := congrArg Prod.fst hxs
    have hw : ∀ (j : Nat) (t : TypeId) (d : DataW H), ([9, 9, 9] : List TypeId)[j]? = some t → ([y0.1, y1.1, y2.1] : List (DataW H))[j]? = some d → ∀ k ∈ d.weights Tryd.prog t, k ≤ reachBytes := fun j t d h1 h2 k hk => by
      refine hs k ?_
      rw [hy]
      simp only [DataW.weights, Tryd.underlying39]
      exact DataW.weights_mem_each h1 h2 k hk
    refine ⟨⟨a, b, c⟩, by rw [e0, e1, e2], str_small ?_, str_small ?_, str_small ?_⟩
    · exact hw 0 _ _ rfl rfl _ (by rw [z0]; simp [DataW.weights])
    · exact hw 1 _ _ rfl rfl _ (by rw [z1]; simp [DataW.weights])
    · exact hw 2 _ _ rfl rfl _ (by rw [z2]; simp [DataW.weights])
theorem addr_plain {W : World} {a : Addr} {v : Value} (h : W.cell? a = some v) : a = ⟨a.block, a.off, none⟩ := by
  obtain ⟨b, o, sp⟩ := a
  cases sp with
  | none => rfl
  | some q =>
    exfalso
    simp only [World.cell?] at h
    revert h
    cases W.heap[b]? with
    | none => simp
    | some x => cases x <;> simp
theorem files_of {W : World} {base : Nat} {n : Nat} {v : Value} {y : DataW H × List MemPlace} (h : DataW.trod enc Tryd.prog W base (fun _ => true) true n 22 [v] = some y) (hs : ∀ k ∈ y.1.weights Tryd.prog 22, k ≤ reachBytes) : ∃ l : List Fl, Fw W v l ∧ Szs l := by
  have c3 : Tryd.prog.cellsOf 39 = 3 := by kernel_rfl
  rcases open_slice Tryd.underlying22 h with ⟨hv, _⟩ | ⟨a, len, cap, m, n', D, Pl, hv, hb, hl, hm, hmm, rfl, hx⟩
  · obtain rfl : v = .slice none 0 0 := by simpa using hv
    exact ⟨[], Fw.nil _, fun f hf => by cases hf⟩
  · obtain rfl : v = .slice (some a) len cap := by simpa using hv
    simp only [if_true] at hmm
    have each : ∀ i, i < len → ∃ f : Fl, W.cell? (a.add (i * 3)) = some (.string f.n) ∧ W.cell? (a.add (i * 3 + 1)) = some (.string f.d) ∧ W.cell? (a.add (i * 3 + 2)) = some (.string f.s) ∧ f.n.size ≤ 140737488355328 ∧ f.d.size ≤ 140737488355328 ∧ f.s.size ≤ 140737488355328 := by
      intro i hi
      obtain ⟨cs', h1, h2⟩ := hx i (by omega)
      rw [c3] at h1
      obtain ⟨_, hlen, hcell⟩ := World.cells?_some h1
      obtain ⟨f, rfl, hsz⟩ := file_of h2 (fun k hk => by
        refine hs k ?_
        simp only [DataW.weights, Tryd.underlying22]
        refine List.mem_cons_of_mem _ (List.mem_append_left _ (weights_all (d := D i) (List.mem_map.2 ⟨i, List.mem_range.2 hi, rfl⟩) k hk)))
      have e0 := hcell 0 (by omega)
      have e1 := hcell 1 (by omega)
      have e2 := hcell 2 (by omega)
      rw [add_add] at e0 e1 e2
      exact ⟨f, by simpa using e0, by simpa using e1, by simpa using e2, hsz⟩
    obtain ⟨q, hq⟩ := choose_lt each
    have hlen : ((List.range len).map q).length = len := by simp
    refine ⟨(List.range len).map q, ⟨some a, cap, by rw [hlen], by rw [hlen]; exact hl, hm, (fun h => by cases h), fun h0 => ?_⟩, fun f hf => ?_⟩
    · rw [hlen] at h0
      have h00 := (hq 0 h0).1
      have ea := addr_plain (a := a) (by simpa [Addr.add] using h00)
      have hab : a.block < W.heap.size := World.block_lt_of_cell? W a (by simpa [Addr.add] using h00)
      obtain ⟨b, o, sp⟩ := a
      simp only at ea hab
      injection ea with _ _ ea
      subst ea
      refine ⟨b, o, rfl, hab, fun i hi => ?_⟩
      have hi' : i < len := by rw [hlen] at hi; exact hi
      obtain ⟨k0, k1, k2, _⟩ := hq i hi'
      rw [add_none] at k0 k1 k2
      simp only [List.getElem_map, List.getElem_range]
      exact ⟨k0, k1, k2⟩
    · obtain ⟨i, hi, rfl⟩ := List.mem_map.1 hf
      obtain ⟨_, _, _, hz⟩ := hq i (List.mem_range.1 hi)
      exact hz
theorem disk_of {W : World} {base : Nat} {n : Nat} {cs : List Value} {y : DataW H × List MemPlace} (h : DataW.trod enc Tryd.prog W base (fun _ => true) true n 24 cs = some y) (hs : ∀ k ∈ y.1.weights Tryd.prog 24, k ≤ reachBytes) :
    ∃ (room : Int) (v : Value) (l : List Fl), cs = [.int .i64 room, v] ∧ (-9223372036854775808 ≤ room ∧ room ≤ 9223372036854775807) ∧ Fw W v l ∧ Szs l := by
  obtain ⟨xs, m', rfl, hxs, hl, hx, hg⟩ := DataW.trod_struct Tryd.underlying24 h
  rw [show Tryd.prog.cellsOf 24 = 2 by kernel_rfl] at hl
  have c1 : Tryd.prog.cellsOf 3 = 1 := by kernel_rfl
  have c2 : Tryd.prog.cellsOf 22 = 1 := by kernel_rfl
  match cs, hl, xs, hx, hxs with
  | [u0, u1], _, [y0, y1], _, hxs =>
    have g0 : DataW.trod enc Tryd.prog W base (fun _ => true) true m' 3 ((([u0, u1] : List Value).drop 0).take (Tryd.prog.cellsOf 3)) = some y0 := hg 0 _ rfl
    rw [c1] at g0
    have g1 : DataW.trod enc Tryd.prog W base (fun _ => true) true m' 22 ((([u0, u1] : List Value).drop 1).take (Tryd.prog.cellsOf 22)) = some y1 := hg 1 _ rfl
    rw [c2] at g1
    obtain ⟨a, e0, _, w0⟩ := DataW.trod_int Tryd.underlying3 g0
    have hy : y.1 = .agg [y0.1, y1.1] := congrArg Prod.fst hxs
    obtain ⟨l, hf, hz⟩ := files_of (v := u1) g1 (fun k hk => by
      refine hs k ?_
      rw [hy]
      simp only [DataW.weights, Tryd.underlying24]
      exact DataW.weights_mem_each (j := 1) (t := 22) (d := y1.1) rfl rfl k hk)
    simp at e0
    exact ⟨a, u1, l, by rw [e0], bounds_i64 w0, hf, hz⟩
theorem open_disk {ts : List TypeId} {ds : List (DataW H)} (hS : (DataW.weightsEach Tryd.prog ts ds).all (· ≤ reachBytes) = true) {j : Nat} {W : World} {base : Nat} {r : Reach} {b0 : Nat} {v : Value} {d : DataW H} {p : List MemPlace} (ht : ts[j]? = some 24) (hd : ds[j]? = some d)
    (hval : Value.okWide Tryd.prog W r b0 24 v) (h : DataW.Trod enc Tryd.prog W base (fun _ => true) true 24 v d p) :
    ∃ (room : Int) (u : Value) (l : List Fl), v = .agg #[.int .i64 room, u] ∧ (-9223372036854775808 ≤ room ∧ room ≤ 9223372036854775807) ∧ Fw W u l ∧ Szs l := by
  obtain ⟨cs, rfl, _⟩ := okWide_struct Tryd.underlying24 hval
  obtain ⟨fuel, hf⟩ := h
  obtain ⟨room, u, l, e, hb, h1, h2⟩ := disk_of hf (fun k hk => by simpa using List.all_eq_true.1 hS _ (DataW.weights_mem_each ht hd k hk))
  have e2 : cs.toList = [.int .i64 room, u] := e
  exact ⟨room, u, l, by rw [← Array.toArray_toList (xs := cs), e2], hb, h1, h2⟩
theorem open_str {ts : List TypeId} {ds : List (DataW H)} (hS : (DataW.weightsEach Tryd.prog ts ds).all (· ≤ reachBytes) = true) {j : Nat} {W : World} {base : Nat} {r : Reach} {b0 : Nat} {v : Value} {d : DataW H} {p : List MemPlace} (ht : ts[j]? = some 9) (hd : ds[j]? = some d)
    (hval : Value.okWide Tryd.prog W r b0 9 v) (h : DataW.Trod enc Tryd.prog W base (fun _ => true) true 9 v d p) : ∃ s : ByteArray, v = .string s ∧ s.size ≤ 140737488355328 := by
  obtain ⟨s, rfl, rfl, _, _⟩ := open_string Tryd.underlying9 hval h
  exact ⟨s, rfl, str_small (sized_string hS ht hd)⟩
theorem open_masks {W : World} {base : Nat} {r : Reach} {b0 : Nat} {v : Value} {d : DataW H} {p : List MemPlace} (hval : Value.okWide Tryd.prog W r b0 41 v) (h : DataW.Trod enc Tryd.prog W base (fun _ => true) true 41 v d p) : ∃ l : List Nat, Rw .u64 W v l ∧ All 18446744073709551616 l :=
  open_row Tryd.underlying41 Tryd.underlying68 (by kernel_rfl) hval h
end
end Go.Proofs.YtdaglbjdgdokpaaDoor
namespace Go.Proofs.YtdaglbjdgdokpaaDoor
open Go.ChangeShapes Go.WideShapes Go.ChangeAt Go.RowKit Go.ChangeMaps
set_option linter.unusedVariables false
set_option maxRecDepth 100000

section
variable {H : Type} {enc : TypeId × Value → H}
theorem open_range {W : World} {base : Nat} {r : Reach} {b0 : Nat} {v : Value} {d : DataW H} {p : List MemPlace} (hval : Value.okWide Tryd.prog W r b0 34 v) (h : DataW.Trod enc Tryd.prog W base (fun _ => true) true 34 v d p) :
    ∃ a b : Int, v = .agg #[.int .i64 a, .int .i64 b] ∧ (-9223372036854775808 ≤ a ∧ a ≤ 9223372036854775807) ∧ (-9223372036854775808 ≤ b ∧ b ≤ 9223372036854775807) := by
  obtain ⟨cs, rfl, _⟩ := okWide_struct Tryd.underlying34 hval
  obtain ⟨fuel, hf⟩ := h
  obtain ⟨xs, m', e', _, hl, hx, hg⟩ := DataW.trod_struct Tryd.underlying34 hf
  rw [show Tryd.prog.cellsOf 34 = 2 by kernel_rfl] at hl
  have c1 : Tryd.prog.cellsOf 3 = 1 := by kernel_rfl
  obtain ⟨l⟩ := cs
  match l, hl, xs, hx with
  | [u0, u1], _, [y0, y1], _ =>
    have g0 : DataW.trod enc Tryd.prog W base (fun _ => true) true m' 3 ((([u0, u1] : List Value).drop 0).take (Tryd.prog.cellsOf 3)) = some y0 := hg 0 _ rfl
    rw [c1] at g0
    have g1 : DataW.trod enc Tryd.prog W base (fun _ => true) true m' 3 ((([u0, u1] : List Value).drop 1).take (Tryd.prog.cellsOf 3)) = some y1 := hg 1 _ rfl
    rw [c1] at g1
    obtain ⟨a, e0, _, w0⟩ := DataW.trod_int Tryd.underlying3 g0
    obtain ⟨b, e1, _, w1⟩ := DataW.trod_int Tryd.underlying3 g1
    simp at e0 e1
    exact ⟨a, b, by rw [e0, e1], bounds_i64 w0, bounds_i64 w1⟩
end
end Go.Proofs.YtdaglbjdgdokpaaDoor
namespace Go.Proofs
open Go.Shelf
def Tryd.laysM171_ren : Go.Shelf.Ren := ⟨fun | 171 => 28 | 243 => 42 | 246 => 54 | 283 => 68 | 284 => 69 | 285 => 70 | 286 => 71 | 129 => 76 | 317 => 75 | 318 => 77 | 319 => 78 | 320 => 79 | 337 => 82 | 338 => 83 | n => n, fun | 3 => 3 | 9 => 9 | 2 => 2 | 4 => 4 | 171 => 134 | 0 => 0 | 53 => 68 | 37 => 84 | 5 => 5 | 173 => 137 | 212 => 143 | 51 => 79 | 20 => 20 | 213 => 144 | 46 => 109 | 232 => 149 | 233 => 150 | n => n, fun | 17 => 2 | 18 => 3 | 19 => 4 | n => n⟩
theorem Tryd.laysM171 : Go.Proofs.LaysM.n171 Tryd.prog Tryd.laysM171_ren := {
  mixed := by kernel_rfl
  f129 := Tryd.func76.trans (congrArg some (by kernel_rfl))
  f171 := Tryd.func28.trans (congrArg some (by kernel_rfl))
  f243 := Tryd.func42.trans (congrArg some (by kernel_rfl))
  f246 := Tryd.func54.trans (congrArg some (by kernel_rfl))
  f283 := Tryd.func68.trans (congrArg some (by kernel_rfl))
  f284 := Tryd.func69.trans (congrArg some (by kernel_rfl))
  f285 := Tryd.func70.trans (congrArg some (by kernel_rfl))
  f286 := Tryd.func71.trans (congrArg some (by kernel_rfl))
  f317 := Tryd.func75.trans (congrArg some (by kernel_rfl))
  f318 := Tryd.func77.trans (congrArg some (by kernel_rfl))
  f319 := Tryd.func78.trans (congrArg some (by kernel_rfl))
  f320 := Tryd.func79.trans (congrArg some (by kernel_rfl))
  f337 := Tryd.func82.trans (congrArg some (by kernel_rfl))
  f338 := Tryd.func83.trans (congrArg some (by kernel_rfl))
  t0 := Tryd.underlying0
  a0 := Tryd.isAgg0
  z0 := Tryd.sizeOf0
  v0 := Tryd.zeroValue0
  t2 := Tryd.underlying2
  a2 := Tryd.isAgg2
  z2 := Tryd.sizeOf2
  v2 := Tryd.zeroValue2
  t3 := Tryd.underlying3
  a3 := Tryd.isAgg3
  z3 := Tryd.sizeOf3
  v3 := Tryd.zeroValue3
  t4 := Tryd.underlying4
  a4 := Tryd.isAgg4
  z4 := Tryd.sizeOf4
  v4 := Tryd.zeroValue4
  t5 := Tryd.underlying5
  a5 := Tryd.isAgg5
  z5 := Tryd.sizeOf5
  v5 := Tryd.zeroValue5
  t9 := Tryd.underlying9
  a9 := Tryd.isAgg9
  z9 := Tryd.sizeOf9
  v9 := Tryd.zeroValue9
  t20 := Tryd.underlying20
  a20 := Tryd.isAgg20
  z20 := Tryd.sizeOf20
  v20 := Tryd.zeroValue20
  t37 := Tryd.underlying84
  a37 := Tryd.isAgg84
  z37 := Tryd.sizeOf84
  v37 := Tryd.zeroValue84
  t46 := Tryd.underlying109
  a46 := Tryd.isAgg109
  z46 := Tryd.sizeOf109
  v46 := Tryd.zeroValue109
  t51 := Tryd.underlying79
  a51 := Tryd.isAgg79
  z51 := Tryd.sizeOf79
  v51 := Tryd.zeroValue79
  t53 := Tryd.underlying68
  a53 := Tryd.isAgg68
  z53 := Tryd.sizeOf68
  v53 := Tryd.zeroValue68
  t171 := Tryd.underlying134
  a171 := Tryd.isAgg134
  z171 := Tryd.sizeOf134
  v171 := Tryd.zeroValue134
  t173 := Tryd.underlying137
  a173 := Tryd.isAgg137
  z173 := Tryd.sizeOf137
  v173 := Tryd.zeroValue137
  t212 := Tryd.underlying143
  a212 := Tryd.isAgg143
  z212 := Tryd.sizeOf143
  v212 := Tryd.zeroValue143
  t213 := Tryd.underlying144
  a213 := Tryd.isAgg144
  z213 := Tryd.sizeOf144
  t232 := Tryd.underlying149
  a232 := Tryd.isAgg149
  z232 := Tryd.sizeOf149
  v232 := Tryd.zeroValue149
  t233 := Tryd.underlying150
  a233 := Tryd.isAgg150
  z233 := Tryd.sizeOf150
  v233 := Tryd.zeroValue150
  g17 := by kernel_rfl
  g18 := by kernel_rfl
  g19 := by kernel_rfl
  i0 := by kernel_rfl
  i2 := by kernel_rfl
  i3 := by kernel_rfl
  i4 := by kernel_rfl
  i5 := by kernel_rfl
  i9 := by kernel_rfl
  i20 := by kernel_rfl
  i37 := by kernel_rfl
  i46 := by kernel_rfl
  i51 := by kernel_rfl
  i53 := by kernel_rfl
  i171 := by kernel_rfl
  i173 := by kernel_rfl
  i212 := by kernel_rfl
  i232 := by kernel_rfl
  i233 := by kernel_rfl
  m17 := by kernel_rfl
  m18 := by kernel_rfl
  m19 := by kernel_rfl }
def Tryd.lays156_ren : Go.Shelf.Ren := ⟨fun | 156 => 27 | 165 => 39 | 166 => 40 | 169 => 41 | 240 => 52 | 241 => 53 | 276 => 66 | 277 => 67 | n => n, fun | 31 => 44 | 9 => 9 | 3 => 3 | 4 => 4 | 0 => 0 | 20 => 20 | 72 => 87 | 76 => 89 | 70 => 85 | 37 => 84 | 75 => 72 | 127 => 112 | 164 => 97 | 5 => 5 | 80 => 91 | n => n, fun | n => n⟩
theorem Tryd.lays156 : Go.Proofs.Lays.n156 Tryd.prog Tryd.lays156_ren := {
  mixed := by kernel_rfl
  f156 := Tryd.func27.trans (congrArg some (by kernel_rfl))
  f165 := Tryd.func39.trans (congrArg some (by kernel_rfl))
  f166 := Tryd.func40.trans (congrArg some (by kernel_rfl))
  f169 := Tryd.func41.trans (congrArg some (by kernel_rfl))
  f240 := Tryd.func52.trans (congrArg some (by kernel_rfl))
  f241 := Tryd.func53.trans (congrArg some (by kernel_rfl))
  f276 := Tryd.func66.trans (congrArg some (by kernel_rfl))
  f277 := Tryd.func67.trans (congrArg some (by kernel_rfl))
  t0 := Tryd.underlying0
  a0 := Tryd.isAgg0
  z0 := Tryd.sizeOf0
  v0 := Tryd.zeroValue0
  t3 := Tryd.underlying3
  a3 := Tryd.isAgg3
  z3 := Tryd.sizeOf3
  v3 := Tryd.zeroValue3
  t4 := Tryd.underlying4
  a4 := Tryd.isAgg4
  z4 := Tryd.sizeOf4
  v4 := Tryd.zeroValue4
  t9 := Tryd.underlying9
  a9 := Tryd.isAgg9
  z9 := Tryd.sizeOf9
  v9 := Tryd.zeroValue9
  t20 := Tryd.underlying20
  a20 := Tryd.isAgg20
  z20 := Tryd.sizeOf20
  v20 := Tryd.zeroValue20
  t31 := Tryd.underlying44
  a31 := Tryd.isAgg44
  z31 := Tryd.sizeOf44
  v31 := Tryd.zeroValue44
  t37 := Tryd.underlying84
  a37 := Tryd.isAgg84
  z37 := Tryd.sizeOf84
  v37 := Tryd.zeroValue84
  t70 := Tryd.underlying85
  a70 := Tryd.isAgg85
  z70 := Tryd.sizeOf85
  v70 := Tryd.zeroValue85
  t72 := Tryd.underlying87
  a72 := Tryd.isAgg87
  z72 := Tryd.sizeOf87
  v72 := Tryd.zeroValue87
  t75 := Tryd.underlying72
  a75 := Tryd.isAgg72
  z75 := Tryd.sizeOf72
  v75 := Tryd.zeroValue72
  t76 := Tryd.underlying89
  a76 := Tryd.isAgg89
  z76 := Tryd.sizeOf89
  v76 := Tryd.zeroValue89
  t127 := Tryd.underlying112
  a127 := Tryd.isAgg112
  z127 := Tryd.sizeOf112
  v127 := Tryd.zeroValue112
  t164 := Tryd.underlying97
  a164 := Tryd.isAgg97
  z164 := Tryd.sizeOf97
  v164 := Tryd.zeroValue97 }
set_option maxRecDepth 100000 in
theorem Tryd.Builder_Extra_156 : Builder.Extra Tryd.prog Tryd.lays156_ren where
  sizeBuilder := by kernel_rfl
  liesBuilder := by kernel_rfl
  t5 := Tryd.underlying5
  a5 := Tryd.isAgg5
  z5 := Tryd.sizeOf5
  v5 := Tryd.zeroValue5
  infoByte := by kernel_rfl
  cellsByte := by kernel_rfl
  sizeByte := by kernel_rfl
  neB5 := by decide
end Go.Proofs
