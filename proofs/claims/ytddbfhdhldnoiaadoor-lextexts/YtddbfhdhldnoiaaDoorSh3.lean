/-
  The contents of the argument with the lengths that memory holds; MaxLen holds a number.
-/
import Derived.Test.YtddbfhdhldnoiaaDoorTw
import Derived.Test.YtddbfhdhldnoiaaDoorSh2
import Derived.Shelf.Vars
namespace Go.Proofs.YtddbfhdhldnoiaaDoor
open Go.ChangeShapes Go.WideShapes Go.ChangeAt Go.RowKit Go.Joins

theorem Tryd.bytes47 : Tryd.prog.bytesOf 47 = 40 := by kernel_rfl
theorem wAll_mem {H : Type} {e : TypeId} : ∀ {l : List (DataW H)} {d : DataW H}, d ∈ l → ∀ n ∈ d.weights Tryd.prog e, n ∈ DataW.weightsAll Tryd.prog e l
  | [], _, hd, _, _ => by cases hd
  | x :: r, d, hd, n, hn => by
    rw [DataW.weightsAll, List.mem_append]
    cases hd with
    | head => exact .inl hn
    | tail _ h => exact .inr (wAll_mem h n hn)
section
variable {H : Type} {enc : TypeId × Value → H} {W : World}
theorem tok_open2 {m : Nat} {v : Value} {y : DataW H × List MemPlace} (h : DataW.trod enc Tryd.prog W 0 (fun _ => true) true m 27 [v] = some y) (hz : ∀ x ∈ y.1.weights Tryd.prog 27, x ≤ reachBytes) : ∃ xs : List Tk, RdT W v xs ∧ Small xs ∧ xs.length * 40 ≤ 140737488351232 := by
  obtain ⟨xs, hR, hS, _⟩ := tok_open h
  refine ⟨xs, hR, hS, ?_⟩
  obtain ⟨A, c, hv, _⟩ := hR
  rcases Deep.open_slice Tryd.underlying27 h with ⟨hcs, _⟩ | ⟨ad, len, cap, mm, n, D, Pl, hcs, hb, hl, hm, hmm, hx, hi⟩
  · simp only [List.cons.injEq, and_true] at hcs
    rw [hv] at hcs
    simp only [Value.slice.injEq] at hcs
    omega
  · simp only [List.cons.injEq, and_true] at hcs
    rw [hv] at hcs
    simp only [Value.slice.injEq] at hcs
    have h1 := hz ((((List.range len).map D).length + ((List.range (mm - len)).map fun j => D (len + j)).length) * 40) (by rw [hx]; simp [DataW.weights, Tryd.underlying27, Tryd.bytes47])
    simp only [List.length_map, List.length_range, reachBytes] at h1
    have h2 : len * 40 ≤ (len + (mm - len)) * 40 := Nat.mul_le_mul_right _ (by omega)
    omega
theorem toks_open2 {m : Nat} {v : Value} {y : DataW H × List MemPlace} (h : DataW.trod enc Tryd.prog W 0 (fun _ => true) true m 23 [v] = some y) (hz : ∀ x ∈ y.1.weights Tryd.prog 23, x ≤ reachBytes) : ∃ A n c, v = .slice A n c ∧ TIn2 W A n ∧ n ≤ maxLen := by
  rcases Deep.open_slice Tryd.underlying23 h with ⟨hcs, _⟩ | ⟨ad, len, cap, mm, n, D, Pl, hcs, hb, hl, hm, hmm, hx, hi⟩
  · simp at hcs
    exact ⟨none, 0, 0, hcs, (fun i hi => absurd hi (Nat.not_lt_zero _)), Nat.zero_le _⟩
  · simp at hcs
    refine ⟨some ad, len, cap, hcs, fun i hi2 => ?_, by omega⟩
    obtain ⟨cs, hc, ht⟩ := hi i (by rw [hmm]; simp; omega)
    rw [Tryd.cells27] at hc
    obtain ⟨_, hcl, hat⟩ := World.cells?_some hc
    match cs, hcl, ht, hat with
    | [u], _, ht, hat =>
      obtain ⟨xs, h1, h2, h3⟩ := tok_open2 ht (fun x hxx => hz x (by
        rw [hx]
        simp only [DataW.weights, Tryd.underlying23, List.mem_cons, List.mem_append]
        exact .inr (.inl (wAll_mem (List.mem_map.2 ⟨i, List.mem_range.2 hi2, rfl⟩) x hxx))))
      have h4 := hat 0 (by omega)
      rw [Go.Deep.add_add, Nat.mul_one, Nat.add_zero] at h4
      have := World.block_lt_of_cell? W _ (h4.trans rfl)
      rw [block_add] at this
      exact ⟨ad, u, xs, rfl, this, h4, h1, h2, h3⟩
set_option maxRecDepth 100000 in
theorem ask_full2 {r : Reach} {b0 : Nat} {v : Value} {d : DataW H} {p : List MemPlace} {L : List Nat}
    (hv : Value.okWide Tryd.prog W r b0 25 v) (h : DataW.Trod enc Tryd.prog W 0 (fun _ => true) true 25 v d p) (hL : ∀ n ∈ d.weights Tryd.prog 25, n ∈ L) (hsz : L.all (· ≤ reachBytes) = true) :
    ∃ A1 c1 A2 n2 c2, ∃ ss : List ByteArray, v = .agg #[.slice A1 ss.length c1, .slice A2 n2 c2] ∧ RdS W (.slice A1 ss.length c1) ss ∧ (∀ s ∈ ss, s.size ≤ maxLen) ∧ ss.length ≤ maxLen ∧ TIn2 W A2 n2 ∧ n2 ≤ maxLen := by
  obtain ⟨c0, c1, y0, y1, m, rfl, rfl, rfl, hy0, hy1⟩ := open_agg2 Tryd.underlying25 (by kernel_rfl) Tryd.cells25 hv h
  have hall : ∀ x ∈ (DataW.agg [y0.1, y1.1]).weights Tryd.prog 25, x ≤ reachBytes := fun x hx => by simpa using List.all_eq_true.1 hsz x (hL x hx)
  obtain ⟨ss, hs, h1, h2⟩ := strs_open hy0
  obtain ⟨A2, n2, k2, rfl, h3, h4⟩ := toks_open2 hy1 (fun x hx => hall x (by simp [DataW.weights, Tryd.underlying25, DataW.weightsEach]; exact Or.inr hx))
  obtain ⟨A1, k1, rfl, hr⟩ := hs
  exact ⟨A1, k1, A2, n2, k2, ss, rfl, ⟨A1, k1, rfl, hr⟩, h1, h2, h3, h4⟩
end
theorem max_len {W : World} (h : W.ShapedOpen Tryd.prog) : ∃ m, W.cell? ⟨0, 0, none⟩ = some (.int .i64 m) := by
  exact Go.Proofs.cell_of_shapedOpen_int (zero := #[.int .i64 0]) (t := 3) h (of_decide_eq_true (by kernel_rfl)) (by kernel_rfl) rfl (by kernel_rfl) (by kernel_rfl) Tryd.underlying3
end Go.Proofs.YtddbfhdhldnoiaaDoor
