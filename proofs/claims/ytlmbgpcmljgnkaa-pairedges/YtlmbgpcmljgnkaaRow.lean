/-
  Small laws on memory: a slice that came in, appended to a row of the call's own, whether it is nil or not; what came in, and what is owned, is the same where nothing below a block has turned.
-/
import Derived.Test.YtlmbgpcmljgnkaaCalls
namespace Go.Proofs.Ytlmbgpcmljgnkaa
open Go.RowKit

theorem SliceIn.below {k : IntKind} {bytes : Nat} {w w' : World} {A : Option Addr} {n c : Nat} (h : SliceIn k bytes w A n c) (hb : Below w.heap.size w w') : SliceIn k bytes w' A n c := by
  rcases h with h | ⟨ad, zs, rfl, hlt, hl, hz, hc, hn⟩
  · exact .inl h
  · refine .inr ⟨ad, zs, rfl, fun h0 => Nat.lt_of_lt_of_le (hlt h0) hb.size, hl, hz, fun j u hu => ?_, hn⟩
    have hj : 0 < n := by
      have := (List.getElem?_eq_some_iff.1 hu).1
      rw [List.length_map, hl] at this
      omega
    exact (hb.cell (by rw [block_add]; exact hlt hj)).trans (hc j u hu)

theorem own_below {w w' : World} {base e size n : Nat} {v : Value} {xs : List Value} (h : w.ownsRow base e size v n xs) (hb : Below w.heap.size w w') : w'.ownsRow base e size v n xs := by
  have hg : w.grownBy w' none := ⟨hb.os, hb.tape, hb.output, hb.size, fun k hk _ => hb.block k hk⟩
  refine h.kept hg ?_
  cases hv : v.ownBlock with
  | none => exact .inl rfl
  | some k => exact .inr (by simp)

/-- append of a slice that came in, nil or not, to a row of the call's own. -/
theorem wpList_append_in {P : Program} (w : World) {ops : Array Oper} {rest : List Oper} {o : Oper} {a : Act} {Q : Exit → Act → World → Prop} (hgd : o.guard = none) (s x : Operand) (t : TypeId)
    (ho : o.op = .call { callee := .builtin .append, args := #[s, x], argTypes := #[t, t] })
    (base : Nat) (e : TypeId) (i : TypeInfo) (z : Value) (k : IntKind) (bytes : Nat) (ht : P.underlying t = some (.slice e)) (hi : P.info? e = some i) (hz : i.zero = some z)
    (hsize : i.size = 1) (hby : i.bytes = bytes) (hzs : z.cells.size = 1)
    (v : Value) (n : Nat) (xs : List Value) (hs : a.eval s = v) (hown : w.ownsRow base e 1 v n xs)
    (A : Option Addr) (m c : Nat) (hx : a.eval x = .slice A m c) (hin : SliceIn k bytes w A m c)
    (h63 : n + m ≤ maxLen) (hbytes : (n + m) * bytes ≤ 140737488355328) (hbase : base ≤ w.heap.size)
    (h : ∀ v' w' (zs : List Int), (∀ x ∈ zs, (Lit.int k x).wf = true) → w'.ownsRow base e 1 v' (n + m) (xs ++ zs.map (Value.int k)) → w.grownBy w' v.ownBlock → wpList P ops Q rest (a.put o.dst v') w') :
    wpList P ops Q (o :: rest) a w := by
  rcases hin with ⟨rfl, rfl, rfl⟩ | ⟨ad, zs, rfl, _, hl, hwf, hc, _⟩
  · refine wpList_append_own_none hgd s x t ho base e i 1 ht hi v n xs hs hown hx ?_
    exact h v w [] (by simp) (by simpa using hown) (World.grownBy.refl w _)
  · refine wpList_append_own w hgd s x t ho base e i z 1 bytes ht hi hz hsize hby hzs (by omega) v n xs hs hown ad m c (zs.map (Value.int k)) hx (by simp [hl]) hc (ints_oneCell k zs) h63 hbytes hbase ?_
    intro v' w' h1 h2 _
    exact h v' w' zs hwf h1 h2

/-- A row of numbers of the call's own. -/
def OwnedN (w : World) (base g n cap : Nat) (xs : List Int) : Prop :=
  w.ownsRow base 3 1 (.slice (some ⟨g, 0, none⟩) n cap) n (xs.map (Value.int .i64)) ∧ ∀ x ∈ xs, (Lit.int .i64 x).wf = true

def I64 (x : Int) : Prop := -9223372036854775808 ≤ x ∧ x ≤ 9223372036854775807
theorem i64_wf {x : Int} (h : (Lit.int .i64 x).wf = true) : I64 x := by
  have h1 : IntKind.i64.min = -9223372036854775808 := rfl
  have h2 : IntKind.i64.max = 9223372036854775807 := rfl
  simp only [Lit.wf, Bool.and_eq_true, decide_eq_true_eq] at h
  unfold I64
  omega

theorem OwnedN.at_ {w : World} {base g n cap : Nat} {xs : List Int} (h : OwnedN w base g n cap xs) {k : Nat} (hk : k < n) : ∃ x, I64 x ∧ w.cell? ⟨g, k, none⟩ = some (.int .i64 x) := by
  have hl : xs.length = n := by have := h.1.1; simpa using this
  refine ⟨xs[k], i64_wf (h.2 _ (List.getElem_mem _)), ?_⟩
  rw [h.1.cellAt k (by omega), List.getElem?_map, List.getElem?_eq_getElem (by omega)]
  rfl
theorem OwnedN.drewN {w : World} {base g n cap : Nat} {xs : List Int} (h : OwnedN w base g n cap xs) (m : Nat) : OwnedN (w.drewN m) base g n cap xs := h
theorem OwnedN.below {w w' : World} {base g n cap : Nat} {xs : List Int} (h : OwnedN w base g n cap xs) (hb : Below w.heap.size w w') : OwnedN w' base g n cap xs := ⟨own_below h.1 hb, h.2⟩
theorem Owned.below {w w' : World} {base g n cap : Nat} {xs : List Int} (h : Owned w base g n cap xs) (hb : Below w.heap.size w w') : Owned w' base g n cap xs := ⟨own_below h.1 hb, h.2⟩
end Go.Proofs.Ytlmbgpcmljgnkaa
