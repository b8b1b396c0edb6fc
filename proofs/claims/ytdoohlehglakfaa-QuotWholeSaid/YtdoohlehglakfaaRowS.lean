/-
  The frame of a statement whose parameters are slices of words, numbers, and structs of them: what they read as, and that they read so behind a call that makes memory of its own.
-/
import Derived.Test.YtdoohlehglakfaaNtW
import Derived.Test.YtdoohlehglakfaaNtM
import Derived.Test.YtdoohlehglakfaaWordU
import Derived.ChangeSame
import Derived.ChangeSlices
import Derived.WideKeyArgs
import Derived.OpenShut
import Derived.Lib.SmallJoins
import Derived.Deep.Fields
namespace Go.Proofs.Ytdoohlehglakfaa
open Go.ChangeShapes Go.WideShapes Go.ChangeAt Go.RowKit
set_option linter.unusedVariables false

section
variable {H : Type} {enc : TypeId × Value → H} {P : Program}

theorem trodAll_stays (hl : laidOutB P = true) {W W' : World} {sp : Nat → Bool} : ∀ (ts : List TypeId) (vs : List Value) (ds : List (DataW H)) (ps : List MemPlace), (∀ t ∈ ts, P.readableRec t = true ∧ t < P.types.size) →
    DataW.TrodAll enc P W 0 (fun _ => true) true ts vs ds ps → (∀ p ∈ ps, W.sameAt W' p) → (∀ p ∈ ps, sp p.block = true) → DataW.TrodAll enc P W' 0 sp true ts vs ds ps := by
  intro ts
  induction ts with
  | nil =>
    intro vs ds ps _ h _ _
    obtain ⟨rfl, rfl, rfl⟩ := trodAll_nil h
    exact trodAll_mk0
  | cons t ts ih =>
    intro vs ds ps hr h hs hp
    obtain ⟨v, vs', d, ds', p, q, rfl, rfl, rfl, h0, h1⟩ := trodAll_cons h
    have ht := hr t (by simp)
    exact trodAll_cons_mk (WideElems.Trod_stays hl ht.1 ht.2 h0 (fun x hx => hs x (by simp [hx])) (fun x hx => hp x (by simp [hx])))
      (ih vs' ds' q (fun u hu => hr u (by simp [hu])) h1 (fun x hx => hs x (by simp [hx])) (fun x hx => hp x (by simp [hx])))

/-- A statement's end: it returns true, and below what was there nothing has turned. -/
theorem law_post {f : Func} {s : ChangeSpec} {apart fresh handsOn again : Bool} {W W' : World} {args : Array Value} {ds gs : List (DataW H)} {before : List MemPlace} {tb : TypeId}
    (hl : laidOutB P = true) (hW : DataW.Whole enc P f.params.toList s.vars apart W args.toList ds gs before) (hv : s.vars = []) (hs : s.fn H ds = { results := [.lit (.bool true)], args := ds })
    (hr : f.resultTypes = #[tb]) (hb : P.underlying tb = some .bool) (hp : ∀ t ∈ f.params.toList, P.readableRec t = true ∧ t < P.types.size) (g : Bl W W') :
    s.post enc P f apart fresh handsOn again W args (.bool true) W' := by
  have hW0 := hW
  obtain ⟨pa, pv, hA, hV, hps, hz, hn⟩ := hW
  rw [hv] at hV
  obtain ⟨rfl, rfl⟩ := trodVars_none hV
  rw [List.append_nil] at hps
  subst hps
  have hlt : ∀ p ∈ before, p.block < W.heap.size := fun p hp => hW0.lt p hp
  have hsame : ∀ p ∈ before, W.sameAt W' p := fun p hp => Below.same g (hlt p hp)
  have hA' : ∀ sp : Nat → Bool, (∀ p ∈ before, sp p.block = true) → DataW.TrodAll enc P W' 0 sp true f.params.toList args.toList ds before := fun sp hsp => trodAll_stays hl _ _ _ _ hp hA hsame hsp
  have hres : ∀ (b : Nat) (sp : Nat → Bool) (hd : Bool), DataW.TrodAll enc P W' b sp hd f.resultTypes.toList ((Value.bool true).resultList f.resultTypes.size) [.lit (.bool true)] [] := by
    intro b sp hd
    rw [hr]
    exact trodAll_cons_mk (shut_bool hb _) trodAll_mk0
  have hok : ∀ (j : Nat) (t : TypeId) (r : Value), f.resultTypes[j]? = some t → ((Value.bool true).resultList f.resultTypes.size)[j]? = some r → Value.okWide P W' .any 0 t r := ok_one hr rfl (okWide_bool_mk hb _)
  have hold : ∀ p ∈ before, (fun b => decide (b < W.heap.size)) p.block = true := fun p hp => by simpa using hlt p hp
  have hfn : s.fn H (ds ++ []) = { results := [.lit (.bool true)], args := ds } := by rw [List.append_nil]; exact hs
  have hvars : ∀ sp : Nat → Bool, DataW.TrodVars enc P W' sp s.vars (s.fn H (ds ++ [])).vars [] := fun sp => by rw [hv, hfn]; rfl
  refine ⟨ds, [], before, [], before, [], hW0, by rw [hfn]; exact hres _ _ _, by rw [hfn]; exact hA' _ hold, hvars _, World.keptBut_mono (fun p hp => ⟨hp, Or.inr (by simpa using hp)⟩) (Below.frame g (· ∈ before)), fun _ => ?_⟩
  refine ⟨hok, _, _, ([] ++ before) ++ [], ⟨[] ++ before, [], trodAll_append (hA' _ (fun _ _ => rfl)) (hres _ _ _), hvars _, rfl, ?_, ?_⟩, ?_⟩
  · intro b off hin
    have hin' : MemPlace.cell b off ∈ before := by simpa using hin
    rw [Below.frozen g (hlt _ hin')]
    exact hz b off hin'
  · intro ha
    have := hn ha
    simpa using this
  · intro p hp _
    simpa using hp

/-- A parameter that is a slice of words. -/
theorem row_of {W : World} {base : Nat} {t e : TypeId} {n : Nat} {v : Value} {y : DataW H × List MemPlace} (ht : P.underlying t = some (.slice e)) (he : P.underlying e = some (.int .u64)) (hc : P.cellsOf e = 1)
    (h : DataW.trod enc P W base (fun _ => true) true n t [v] = some y) : ∃ l : List Nat, Rw .u64 W v l ∧ All 18446744073709551616 l := by
  rcases open_ints ht he hc h with ⟨hcs, _⟩ | ⟨a, len, cap, zs, hcs, hb, hl, hm, hlen, hx, hcell, hwf⟩
  · obtain rfl : v = .slice none 0 0 := by simpa using hcs
    exact ⟨[], Rw.nil _ _, all_nil _⟩
  · obtain rfl : v = .slice (some a) len cap := by simpa using hcs
    simp only [if_true] at hlen
    have hz : ∀ i (h : i < zs.length), 0 ≤ zs[i] ∧ zs[i] ≤ 18446744073709551615 := fun i h => bounds_u64 (hwf _ (List.getElem_mem h))
    have el : ((zs.take len).map Int.toNat).length = len := by rw [List.length_map, List.length_take, Nat.min_eq_left (by omega)]
    refine ⟨(zs.take len).map Int.toNat, ⟨some a, cap, by rw [el], by rw [el]; exact hl, hm, (fun h => by cases h), fun h0 => ?_⟩, fun i hi => ?_⟩
    · rw [el] at h0
      have hc0 := hcell 0 (by omega)
      refine ⟨a, rfl, ?_, fun i hi => ?_⟩
      · have := World.block_lt_of_cell? W _ hc0
        rwa [blk_add] at this
      · rw [el] at hi
        have hi2 : i < zs.length := by omega
        have hb := hz i hi2
        rw [hcell i hi2]
        simp only [List.getElem_map, List.getElem_take]
        have e1 : zs.getD i 0 = zs[i] := by simp [hi2]
        rw [e1, Int.toNat_of_nonneg hb.1]
    · rw [el] at hi
      simp only [List.getElem_map, List.getElem_take]
      have hb := hz i (by omega)
      omega
theorem open_row {W : World} {base : Nat} {r : Reach} {b0 : Nat} {t e : TypeId} {v : Value} {d : DataW H} {p : List MemPlace} (ht : P.underlying t = some (.slice e)) (he : P.underlying e = some (.int .u64)) (hc : P.cellsOf e = 1)
    (hval : Value.okWide P W r b0 t v) (h : DataW.Trod enc P W base (fun _ => true) true t v d p) : ∃ l : List Nat, Rw .u64 W v l ∧ All 18446744073709551616 l := by
  obtain ⟨a, len, cap, rfl⟩ := okWide_slice ht hval
  obtain ⟨n, hn⟩ := h
  exact row_of (n := n) ht he hc (by simpa [Value.cells] using hn)

/-- A parameter that is a struct of one-cell fields, by value: its cells, each read by its own type. -/
theorem open_cells {W : World} {base : Nat} {r : Reach} {b0 : Nat} {t : TypeId} {fs : Array Field} {v : Value} {d : DataW H} {p : List MemPlace} (hs : P.underlying t = some (.struct fs)) (hone : Go.Deep.oneCellFields P fs = true) (hC : P.cellsOf t = fs.size)
    (hval : Value.okWide P W r b0 t v) (h : DataW.Trod enc P W base (fun _ => true) true t v d p) :
    ∃ l : List Value, l.length = fs.size ∧ v = .agg l.toArray ∧ ∃ n, ∀ (i : Nat) (f : Field), fs[i]? = some f → ∃ u y, l[i]? = some u ∧ DataW.trod enc P W base (fun _ => true) true n f.type [u] = some y := by
  obtain ⟨cs, rfl, hsz⟩ := okWide_struct hs hval
  obtain ⟨fuel, hf⟩ := h
  obtain ⟨xs, n, _, hx, _, hlen, hg⟩ := DataW.trod_struct hs hf
  refine ⟨cs.toList, by simpa using hsz.trans hC, by simp, n, fun i f hi => ?_⟩
  obtain ⟨o, e⟩ := Go.Deep.hone_of hone i f hi
  have hil : i < fs.size := (Array.getElem?_eq_some_iff.1 hi).1
  have hic : i < cs.size := by rw [hsz, hC]; exact hil
  have g := hg i f hi
  rw [o, e] at g
  have e2 : ((Value.agg cs).cells.toList.drop i).take 1 = [cs[i]] := by
    have : (Value.agg cs).cells = cs := rfl
    rw [this, List.drop_eq_getElem_cons (by simpa using hic)]
    simp
  rw [e2, List.getElem?_eq_getElem (by omega)] at g
  exact ⟨cs[i], _, by simp [hic], g⟩
theorem open_struct2 {W : World} {base : Nat} {r : Reach} {b0 : Nat} {t : TypeId} {f0 f1 : Field} {v : Value} {d : DataW H} {p : List MemPlace} (hs : P.underlying t = some (.struct #[f0, f1])) (hone : Go.Deep.oneCellFields P #[f0, f1] = true) (hC : P.cellsOf t = 2)
    (hval : Value.okWide P W r b0 t v) (h : DataW.Trod enc P W base (fun _ => true) true t v d p) : ∃ u0 u1 : Value, v = .agg #[u0, u1] ∧ (∃ n y, DataW.trod enc P W base (fun _ => true) true n f0.type [u0] = some y) ∧ (∃ n y, DataW.trod enc P W base (fun _ => true) true n f1.type [u1] = some y) := by
  obtain ⟨l, hl, rfl, n, hf⟩ := open_cells hs hone hC hval h
  match l, hl with
  | [u0, u1], _ =>
    obtain ⟨w0, y0, e0, t0⟩ := hf 0 f0 rfl
    obtain rfl : u0 = w0 := by simpa using e0
    obtain ⟨w1, y1, e1, t1⟩ := hf 1 f1 rfl
    obtain rfl : u1 = w1 := by simpa using e1
    exact ⟨u0, u1, rfl, ⟨n, y0, t0⟩, ⟨n, y1, t1⟩⟩
theorem open_struct3 {W : World} {base : Nat} {r : Reach} {b0 : Nat} {t : TypeId} {f0 f1 f2 : Field} {v : Value} {d : DataW H} {p : List MemPlace} (hs : P.underlying t = some (.struct #[f0, f1, f2])) (hone : Go.Deep.oneCellFields P #[f0, f1, f2] = true) (hC : P.cellsOf t = 3)
    (hval : Value.okWide P W r b0 t v) (h : DataW.Trod enc P W base (fun _ => true) true t v d p) : ∃ u0 u1 u2 : Value, v = .agg #[u0, u1, u2] ∧ (∃ n y, DataW.trod enc P W base (fun _ => true) true n f0.type [u0] = some y) ∧ (∃ n y, DataW.trod enc P W base (fun _ => true) true n f1.type [u1] = some y) ∧ (∃ n y, DataW.trod enc P W base (fun _ => true) true n f2.type [u2] = some y) := by
  obtain ⟨l, hl, rfl, n, hf⟩ := open_cells hs hone hC hval h
  match l, hl with
  | [u0, u1, u2], _ =>
    obtain ⟨w0, y0, e0, t0⟩ := hf 0 f0 rfl
    obtain rfl : u0 = w0 := by simpa using e0
    obtain ⟨w1, y1, e1, t1⟩ := hf 1 f1 rfl
    obtain rfl : u1 = w1 := by simpa using e1
    obtain ⟨w2, y2, e2, t2⟩ := hf 2 f2 rfl
    obtain rfl : u2 = w2 := by simpa using e2
    exact ⟨u0, u1, u2, rfl, ⟨n, y0, t0⟩, ⟨n, y1, t1⟩, ⟨n, y2, t2⟩⟩
theorem open_struct4 {W : World} {base : Nat} {r : Reach} {b0 : Nat} {t : TypeId} {f0 f1 f2 f3 : Field} {v : Value} {d : DataW H} {p : List MemPlace} (hs : P.underlying t = some (.struct #[f0, f1, f2, f3])) (hone : Go.Deep.oneCellFields P #[f0, f1, f2, f3] = true) (hC : P.cellsOf t = 4)
    (hval : Value.okWide P W r b0 t v) (h : DataW.Trod enc P W base (fun _ => true) true t v d p) : ∃ u0 u1 u2 u3 : Value, v = .agg #[u0, u1, u2, u3] ∧ (∃ n y, DataW.trod enc P W base (fun _ => true) true n f0.type [u0] = some y) ∧ (∃ n y, DataW.trod enc P W base (fun _ => true) true n f1.type [u1] = some y) ∧ (∃ n y, DataW.trod enc P W base (fun _ => true) true n f2.type [u2] = some y) ∧ (∃ n y, DataW.trod enc P W base (fun _ => true) true n f3.type [u3] = some y) := by
  obtain ⟨l, hl, rfl, n, hf⟩ := open_cells hs hone hC hval h
  match l, hl with
  | [u0, u1, u2, u3], _ =>
    obtain ⟨w0, y0, e0, t0⟩ := hf 0 f0 rfl
    obtain rfl : u0 = w0 := by simpa using e0
    obtain ⟨w1, y1, e1, t1⟩ := hf 1 f1 rfl
    obtain rfl : u1 = w1 := by simpa using e1
    obtain ⟨w2, y2, e2, t2⟩ := hf 2 f2 rfl
    obtain rfl : u2 = w2 := by simpa using e2
    obtain ⟨w3, y3, e3, t3⟩ := hf 3 f3 rfl
    obtain rfl : u3 = w3 := by simpa using e3
    exact ⟨u0, u1, u2, u3, rfl, ⟨n, y0, t0⟩, ⟨n, y1, t1⟩, ⟨n, y2, t2⟩, ⟨n, y3, t3⟩⟩
theorem open_struct5 {W : World} {base : Nat} {r : Reach} {b0 : Nat} {t : TypeId} {f0 f1 f2 f3 f4 : Field} {v : Value} {d : DataW H} {p : List MemPlace} (hs : P.underlying t = some (.struct #[f0, f1, f2, f3, f4])) (hone : Go.Deep.oneCellFields P #[f0, f1, f2, f3, f4] = true) (hC : P.cellsOf t = 5)
    (hval : Value.okWide P W r b0 t v) (h : DataW.Trod enc P W base (fun _ => true) true t v d p) : ∃ u0 u1 u2 u3 u4 : Value, v = .agg #[u0, u1, u2, u3, u4] ∧ (∃ n y, DataW.trod enc P W base (fun _ => true) true n f0.type [u0] = some y) ∧ (∃ n y, DataW.trod enc P W base (fun _ => true) true n f1.type [u1] = some y) ∧ (∃ n y, DataW.trod enc P W base (fun _ => true) true n f2.type [u2] = some y) ∧ (∃ n y, DataW.trod enc P W base (fun _ => true) true n f3.type [u3] = some y) ∧ (∃ n y, DataW.trod enc P W base (fun _ => true) true n f4.type [u4] = some y) := by
  obtain ⟨l, hl, rfl, n, hf⟩ := open_cells hs hone hC hval h
  match l, hl with
  | [u0, u1, u2, u3, u4], _ =>
    obtain ⟨w0, y0, e0, t0⟩ := hf 0 f0 rfl
    obtain rfl : u0 = w0 := by simpa using e0
    obtain ⟨w1, y1, e1, t1⟩ := hf 1 f1 rfl
    obtain rfl : u1 = w1 := by simpa using e1
    obtain ⟨w2, y2, e2, t2⟩ := hf 2 f2 rfl
    obtain rfl : u2 = w2 := by simpa using e2
    obtain ⟨w3, y3, e3, t3⟩ := hf 3 f3 rfl
    obtain rfl : u3 = w3 := by simpa using e3
    obtain ⟨w4, y4, e4, t4⟩ := hf 4 f4 rfl
    obtain rfl : u4 = w4 := by simpa using e4
    exact ⟨u0, u1, u2, u3, u4, rfl, ⟨n, y0, t0⟩, ⟨n, y1, t1⟩, ⟨n, y2, t2⟩, ⟨n, y3, t3⟩, ⟨n, y4, t4⟩⟩
theorem open_struct6 {W : World} {base : Nat} {r : Reach} {b0 : Nat} {t : TypeId} {f0 f1 f2 f3 f4 f5 : Field} {v : Value} {d : DataW H} {p : List MemPlace} (hs : P.underlying t = some (.struct #[f0, f1, f2, f3, f4, f5])) (hone : Go.Deep.oneCellFields P #[f0, f1, f2, f3, f4, f5] = true) (hC : P.cellsOf t = 6)
    (hval : Value.okWide P W r b0 t v) (h : DataW.Trod enc P W base (fun _ => true) true t v d p) : ∃ u0 u1 u2 u3 u4 u5 : Value, v = .agg #[u0, u1, u2, u3, u4, u5] ∧ (∃ n y, DataW.trod enc P W base (fun _ => true) true n f0.type [u0] = some y) ∧ (∃ n y, DataW.trod enc P W base (fun _ => true) true n f1.type [u1] = some y) ∧ (∃ n y, DataW.trod enc P W base (fun _ => true) true n f2.type [u2] = some y) ∧ (∃ n y, DataW.trod enc P W base (fun _ => true) true n f3.type [u3] = some y) ∧ (∃ n y, DataW.trod enc P W base (fun _ => true) true n f4.type [u4] = some y) ∧ (∃ n y, DataW.trod enc P W base (fun _ => true) true n f5.type [u5] = some y) := by
  obtain ⟨l, hl, rfl, n, hf⟩ := open_cells hs hone hC hval h
  match l, hl with
  | [u0, u1, u2, u3, u4, u5], _ =>
    obtain ⟨w0, y0, e0, t0⟩ := hf 0 f0 rfl
    obtain rfl : u0 = w0 := by simpa using e0
    obtain ⟨w1, y1, e1, t1⟩ := hf 1 f1 rfl
    obtain rfl : u1 = w1 := by simpa using e1
    obtain ⟨w2, y2, e2, t2⟩ := hf 2 f2 rfl
    obtain rfl : u2 = w2 := by simpa using e2
    obtain ⟨w3, y3, e3, t3⟩ := hf 3 f3 rfl
    obtain rfl : u3 = w3 := by simpa using e3
    obtain ⟨w4, y4, e4, t4⟩ := hf 4 f4 rfl
    obtain rfl : u4 = w4 := by simpa using e4
    obtain ⟨w5, y5, e5, t5⟩ := hf 5 f5 rfl
    obtain rfl : u5 = w5 := by simpa using e5
    exact ⟨u0, u1, u2, u3, u4, u5, rfl, ⟨n, y0, t0⟩, ⟨n, y1, t1⟩, ⟨n, y2, t2⟩, ⟨n, y3, t3⟩, ⟨n, y4, t4⟩, ⟨n, y5, t5⟩⟩
/-- A field, or a parameter, that is an integer. -/
theorem int_of {W : World} {base : Nat} {t : TypeId} {k : IntKind} {n : Nat} {v : Value} {y : DataW H × List MemPlace} (ht : P.underlying t = some (.int k)) (h : DataW.trod enc P W base (fun _ => true) true n t [v] = some y) : ∃ a : Int, v = .int k a ∧ (Lit.int k a).wf = true := by
  obtain ⟨a, e, _, hw⟩ := DataW.trod_int ht h
  exact ⟨a, by simpa using e, hw⟩
end
end Go.Proofs.Ytdoohlehglakfaa
