/-
  The contents of the argument of the laws of layer 8: a slice of strings, a slice of slices of words, each nil or in old memory.
-/
import Derived.Test.YtddbfhdhldnoiaaDoorShell
namespace Go.Proofs.YtddbfhdhldnoiaaDoor
open Go.ChangeShapes Go.WideShapes Go.ChangeAt Go.RowKit Go.Joins

theorem Tryd.cells47 : Tryd.prog.cellsOf 47 = 4 := by kernel_rfl
theorem Tryd.cells27 : Tryd.prog.cellsOf 27 = 1 := by kernel_rfl
theorem Tryd.cells9 : Tryd.prog.cellsOf 9 = 1 := by kernel_rfl
theorem Tryd.cells3 : Tryd.prog.cellsOf 3 = 1 := by kernel_rfl
theorem take_one {cs : List Value} {i : Nat} {v : Value} (h : (cs.drop i).take 1 = [v]) : cs[i]? = some v := by
  have := congrArg (·[0]?) h
  simpa [List.getElem?_take, List.getElem?_drop] using this
theorem i64_wf {x : Int} (h : (Lit.int .i64 x).wf = true) : -9223372036854775808 ≤ x ∧ x ≤ 9223372036854775807 := by
  have h1 : IntKind.i64.min = -9223372036854775808 := rfl
  have h2 : IntKind.i64.max = 9223372036854775807 := rfl
  simp only [Lit.wf, Bool.and_eq_true, decide_eq_true_eq] at h
  omega
/-- A slice of slices of words, as it comes in. -/
def TIn (w : World) (A : Option Addr) (n : Nat) : Prop := ∀ i, i < n → ∃ (ad : Addr) (v : Value) (xs : List Tk), A = some ad ∧ ad.block < w.heap.size ∧ w.cell? (ad.add i) = some v ∧ RdT w v xs ∧ Small xs ∧ xs.length ≤ maxLen
section
variable {H : Type} {enc : TypeId × Value → H} {W : World}
theorem tok_open {m : Nat} {v : Value} {y : DataW H × List MemPlace} (h : DataW.trod enc Tryd.prog W 0 (fun _ => true) true m 27 [v] = some y) : ∃ xs : List Tk, RdT W v xs ∧ Small xs ∧ xs.length ≤ maxLen := by
  rcases Deep.open_slice Tryd.underlying27 h with ⟨hcs, _⟩ | ⟨ad, len, cap, mm, n, D, Pl, hcs, hb, hl, hm, hmm, hx, hi⟩
  · simp at hcs
    subst hcs
    exact ⟨[], RdT.nil _, (fun t ht => by cases ht), Nat.zero_le _⟩
  · simp at hcs
    subst hcs
    have key : ∀ i, i < len → ∃ t : Tk, (t.t.length ≤ maxLen ∧ -9223372036854775808 ≤ t.n ∧ t.n ≤ 9223372036854775807) ∧ ∀ j, j < 4 → W.cell? (ad.add (i * 4 + j)) = t.list[j]? := by
      intro i hi2
      obtain ⟨cs, hc, ht⟩ := hi i (by rw [hmm]; simp; omega)
      rw [Tryd.cells47] at hc
      obtain ⟨ys, n', _, hy, hlen, hyl, hf⟩ := DataW.trod_struct Tryd.underlying47 ht
      rw [Tryd.cells47] at hlen
      obtain ⟨_, hcl, hat⟩ := World.cells?_some hc
      match ys, hyl, hf with
      | [y0, y1, y2, y3], _, hf =>
        have f0 : DataW.trod enc Tryd.prog W 0 (fun _ => true) true n' 3 ((cs.drop 0).take (Tryd.prog.cellsOf 3)) = some y0 := hf 0 _ rfl
        have f1 : DataW.trod enc Tryd.prog W 0 (fun _ => true) true n' 9 ((cs.drop 1).take (Tryd.prog.cellsOf 9)) = some y1 := hf 1 _ rfl
        have f2 : DataW.trod enc Tryd.prog W 0 (fun _ => true) true n' 3 ((cs.drop 2).take (Tryd.prog.cellsOf 3)) = some y2 := hf 2 _ rfl
        have f3 : DataW.trod enc Tryd.prog W 0 (fun _ => true) true n' 3 ((cs.drop 3).take (Tryd.prog.cellsOf 3)) = some y3 := hf 3 _ rfl
        rw [Tryd.cells3] at f0 f2 f3
        rw [Tryd.cells9] at f1
        obtain ⟨z0, g0, _, w0⟩ := DataW.trod_int Tryd.underlying3 f0
        obtain ⟨s, g1, _, w1⟩ := DataW.trod_string Tryd.underlying9 f1
        obtain ⟨z2, g2, _, w2⟩ := DataW.trod_int Tryd.underlying3 f2
        obtain ⟨z3, g3, _, w3⟩ := DataW.trod_int Tryd.underlying3 f3
        have e0 := take_one g0
        have e1 := take_one g1
        have e2 := take_one g2
        have e3 := take_one g3
        refine ⟨⟨z0, s.data.toList, z2, z3⟩, ⟨by simpa using w1, i64_wf w2⟩, fun j hj => ?_⟩
        rw [← Go.Deep.add_add, hat j hj]
        match j, hj with
        | 0, _ => exact e0
        | 1, _ => exact e1
        | 2, _ => exact e2
        | 3, _ => exact e3
    let xs : List Tk := (List.range len).map fun i => if h : i < len then (key i h).choose else Tk.none
    have hxs : ∀ (j : Nat) (t : Tk), xs[j]? = some t → (t.t.length ≤ maxLen ∧ -9223372036854775808 ≤ t.n ∧ t.n ≤ 9223372036854775807) ∧ ∀ r, r < 4 → W.cell? (ad.add (j * 4 + r)) = t.list[r]? := by
      intro j x hj
      have hjl : j < len := by have := (List.getElem?_eq_some_iff.1 hj).1; simpa [xs] using this
      have e : x = (key j hjl).choose := by
        simp only [xs, List.getElem?_map, List.getElem?_range hjl, Option.map_some, Option.some.injEq] at hj
        rw [dif_pos hjl] at hj
        exact hj.symm
      subst e
      exact (key j hjl).choose_spec
    have hlen : xs.length = len := by simp [xs]
    refine ⟨xs, ⟨some ad, cap, by rw [hlen], fun h0 => ⟨ad, rfl, ?_, fun j u hu => ?_⟩⟩, fun t ht => ?_, by rw [hlen]; omega⟩
    · obtain ⟨t, _, hc⟩ := key 0 (by omega)
      have h4 := hc 0 (by decide)
      have := World.block_lt_of_cell? W _ (h4.trans rfl)
      rwa [block_add] at this
    · have hj : j < xs.length * 4 := by have := (List.getElem?_eq_some_iff.1 hu).1; rwa [flat4_len] at this
      have hd : j / 4 < xs.length := by omega
      have hj4 : j = j / 4 * 4 + j % 4 := by omega
      have h1 := flat4_at xs (j / 4) (j % 4) _ (List.getElem?_eq_getElem hd) (Nat.mod_lt _ (by decide))
      rw [← hj4] at h1
      have h2 := (hxs (j / 4) _ (List.getElem?_eq_getElem hd)).2 (j % 4) (Nat.mod_lt _ (by decide))
      rw [← hj4] at h2
      rw [h2, ← h1, hu]
    · obtain ⟨j, hj⟩ := List.getElem?_of_mem ht
      exact (hxs j t hj).1
theorem toks_open {m : Nat} {v : Value} {y : DataW H × List MemPlace} (h : DataW.trod enc Tryd.prog W 0 (fun _ => true) true m 23 [v] = some y) : ∃ A n c, v = .slice A n c ∧ TIn W A n ∧ n ≤ maxLen := by
  rcases Deep.open_slice Tryd.underlying23 h with ⟨hcs, _⟩ | ⟨ad, len, cap, mm, n, D, Pl, hcs, hb, hl, hm, hmm, hx, hi⟩
  · simp at hcs
    exact ⟨none, 0, 0, hcs, (fun i hi => absurd hi (Nat.not_lt_zero _)), Nat.zero_le _⟩
  · simp at hcs
    refine ⟨some ad, len, cap, hcs, fun i hi2 => ?_, by omega⟩
    obtain ⟨cs, hc, ht⟩ := hi i (by rw [hmm]; simp; omega)
    rw [Tryd.cells27] at hc
    obtain ⟨_, hcl, hat⟩ := World.cells?_some hc
    match cs, hcl, ht, hat with
    | [u], _, ht, hat =>
      obtain ⟨xs, h1, h2, h3⟩ := tok_open ht
      have h4 := hat 0 (by omega)
      rw [Go.Deep.add_add, Nat.mul_one, Nat.add_zero] at h4
      have := World.block_lt_of_cell? W _ (h4.trans rfl)
      rw [block_add] at this
      exact ⟨ad, u, xs, rfl, this, h4, h1, h2, h3⟩
theorem strs_open {m : Nat} {v : Value} {y : DataW H × List MemPlace} (h : DataW.trod enc Tryd.prog W 0 (fun _ => true) true m 22 [v] = some y) : ∃ ss : List ByteArray, RdS W v ss ∧ (∀ s ∈ ss, s.size ≤ maxLen) ∧ ss.length ≤ maxLen := by
  rcases Deep.open_slice Tryd.underlying22 h with ⟨hcs, _⟩ | ⟨ad, len, cap, mm, n, D, Pl, hcs, hb, hl, hm, hmm, hx, hi⟩
  · simp at hcs
    subst hcs
    exact ⟨[], ⟨none, 0, rfl, fun h0 => absurd h0 (by simp)⟩, (fun t ht => by cases ht), Nat.zero_le _⟩
  · simp at hcs
    subst hcs
    have key : ∀ i, i < len → ∃ s : ByteArray, s.size ≤ maxLen ∧ W.cell? (ad.add i) = some (.string s) := by
      intro i hi2
      obtain ⟨cs, hc, ht⟩ := hi i (by rw [hmm]; simp; omega)
      rw [Tryd.cells9] at hc
      obtain ⟨s, g, _, ws⟩ := DataW.trod_string Tryd.underlying9 ht
      obtain ⟨_, hcl, hat⟩ := World.cells?_some hc
      refine ⟨s, ws, ?_⟩
      have := hat 0 (by omega)
      rw [Go.Deep.add_add, Nat.mul_one, Nat.add_zero] at this
      rw [this, g]; rfl
    let xs : List ByteArray := (List.range len).map fun i => if h : i < len then (key i h).choose else ⟨#[]⟩
    have hxs : ∀ (j : Nat) (x : ByteArray), xs[j]? = some x → x.size ≤ maxLen ∧ W.cell? (ad.add j) = some (.string x) := by
      intro j x hj
      have hjl : j < len := by have := (List.getElem?_eq_some_iff.1 hj).1; simpa [xs] using this
      have e : x = (key j hjl).choose := by
        simp only [xs, List.getElem?_map, List.getElem?_range hjl, Option.map_some, Option.some.injEq] at hj
        rw [dif_pos hjl] at hj
        exact hj.symm
      subst e
      exact (key j hjl).choose_spec
    have hlen : xs.length = len := by simp [xs]
    refine ⟨xs, ⟨some ad, cap, by rw [hlen], fun h0 => ⟨ad, rfl, ?_, fun j x hj => (hxs j x hj).2⟩⟩, fun x hx => ?_, by rw [hlen]; omega⟩
    · obtain ⟨s, _, hc⟩ := key 0 (by omega)
      have := World.block_lt_of_cell? W _ hc
      rwa [block_add] at this
    · obtain ⟨j, hj⟩ := List.getElem?_of_mem hx
      exact (hxs j x hj).1
set_option maxRecDepth 100000 in
theorem ask_full {r : Reach} {b0 : Nat} {v : Value} {d : DataW H} {p : List MemPlace}
    (hv : Value.okWide Tryd.prog W r b0 25 v) (h : DataW.Trod enc Tryd.prog W 0 (fun _ => true) true 25 v d p) :
    ∃ A1 c1 A2 n2 c2, ∃ ss : List ByteArray, v = .agg #[.slice A1 ss.length c1, .slice A2 n2 c2] ∧ RdS W (.slice A1 ss.length c1) ss ∧ (∀ s ∈ ss, s.size ≤ maxLen) ∧ ss.length ≤ maxLen ∧ TIn W A2 n2 ∧ n2 ≤ maxLen := by
  obtain ⟨c0, c1, y0, y1, m, rfl, rfl, rfl, hy0, hy1⟩ := open_agg2 Tryd.underlying25 (by kernel_rfl) Tryd.cells25 hv h
  obtain ⟨ss, hs, h1, h2⟩ := strs_open hy0
  obtain ⟨A2, n2, k2, rfl, h3, h4⟩ := toks_open hy1
  obtain ⟨A1, k1, rfl, hr⟩ := hs
  exact ⟨A1, k1, A2, n2, k2, ss, rfl, ⟨A1, k1, rfl, hr⟩, h1, h2, h3, h4⟩
end
end Go.Proofs.YtddbfhdhldnoiaaDoor
