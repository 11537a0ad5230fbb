/-
  Rows of words of the call's own: how they grow by one element, by a slice that came in; that they stay where memory only grows. No condition.
-/
import Derived.Test.YtlhdmdhecamlfaaDoorShell
import Derived.Deep.AppendLies
import Derived.Laws.AppendOwnNone
import Derived.Laws.OwnMore
namespace Go.Proofs.YtlhdmdhecamlfaaDoor
open Go.RowKit

theorem Tryd.info33 : (Tryd.prog.info? 33).map (fun i => (i.zero, i.size, i.bytes)) = some (some (.int .u32 0), 1, 4) := by kernel_rfl
theorem own_take {w : World} {base e g n cap : Nat} {xs : List Value} (h : w.ownsRow base e 1 (.slice (some ⟨g, 0, none⟩) n cap) n xs) {m : Nat} (hm : m ≤ n) :
    w.ownsRow base e 1 (.slice (some ⟨g, 0, none⟩) m cap) m (xs.take m) := by
  obtain ⟨hl, h2⟩ := h
  refine ⟨by simp at hl ⊢; omega, ?_⟩
  rcases h2 with ⟨h', _⟩ | ⟨g', cap', cur, h', hb, hg, hn, hc, hs, ht⟩
  · simp at h'
  · simp only [Value.slice.injEq, Option.some.injEq, Addr.mk.injEq, and_true, true_and] at h'
    obtain ⟨rfl, rfl⟩ := h'
    refine .inr ⟨g, cap, cur, rfl, hb, hg, by omega, hc, hs, ?_⟩
    rw [← ht, List.take_take, Nat.mul_one, Nat.mul_one, Nat.min_eq_left hm]

theorem own_cap {w : World} {base e size g n cap : Nat} {xs : List Value} (h : w.ownsRow base e size (.slice (some ⟨g, 0, none⟩) n cap) n xs) : n ≤ cap ∧ cap ≤ maxLen := by
  rcases h.2 with ⟨h', _⟩ | ⟨g', cap', cur, h', hb, hg, hn, hc, hs, ht⟩
  · simp at h'
  · simp only [Value.slice.injEq, Option.some.injEq, Addr.mk.injEq, and_true, true_and] at h'
    obtain ⟨rfl, rfl⟩ := h'
    exact ⟨hn, hc⟩

/-- append of one element to a row of the call's own. -/
theorem app_one (t e : TypeId) (bytes : Nat) (z : Value) (hinfo : (Tryd.prog.info? e).map (fun i => (i.zero, i.size, i.bytes)) = some (some z, 1, bytes)) (hzs : z.cells.size = 1) (hby : bytes ≤ 16) (ht : Tryd.prog.underlying t = some (.slice e))
    {ops : Array Oper} {rest : List Oper} {o : Oper} {a : Act} {Q : Exit → Act → World → Prop} (hgd : o.guard = none) (s x : Operand) (ho : o.op = .call { callee := .builtin .append, args := #[s, x], argTypes := #[t, t] })
    (W : World) (base n : Nat) (v u : Value) (xs : List Value) (hs : a.eval s = v) (hown : W.ownsRow base e 1 v n xs) (hn : n ≤ 1000) (hu : u.oneCell' = true) (g : Nat) (hx : a.eval x = .slice (some ⟨g, 0, none⟩) 1 1) (hg0 : W.heap.size = g) (hbase : base ≤ W.heap.size)
    (h : ∀ v' w', w'.ownsRow base e 1 v' (n + 1) (xs ++ [u]) → (W.alloc (.cells #[u] e)).grownBy w' v.ownBlock → wpList Tryd.prog ops Q rest (a.put o.dst v') w') :
    wpList Tryd.prog ops Q (o :: rest) a (W.alloc (.cells #[u] e)) := by
  subst hg0
  obtain ⟨i, hi, he⟩ := Option.map_eq_some_iff.1 hinfo
  simp only [Prod.mk.injEq] at he
  refine wpList_append_own _ hgd s x t ho base e i z 1 bytes ht hi he.1 he.2.1 he.2.2 hzs (by decide) v n xs hs (hown.alloc _) ⟨W.heap.size, 0, none⟩ 1 1 [u] hx rfl ?_ (fun y hy => by simp at hy; subst hy; exact hu) ?_ ?_ (by simp; omega) (fun v' w' h1 h2 _ => h v' w' h1 h2)
  · exact (World.ownsRow_lit (base := 0) (e := e) (size := 1) W #[u] 1 (by simp) (by unfold maxLen; omega) rfl).cells rfl
  · unfold maxLen; omega
  · have : (n + 1) * bytes ≤ 1001 * 16 := Nat.mul_le_mul (by omega) hby
    omega
theorem app_below {W w' : World} {base e n : Nat} {v : Value} {xs : List Value} {ob : Obj} (hown : W.ownsRow base e 1 v n xs) (hg : (W.alloc ob).grownBy w' v.ownBlock) (hbase : base ≤ W.heap.size) : Below base W w' :=
  ((Below.refl base W).alloc hbase _).grown hg (by simp; omega) (fun k hk => (hown.lt k hk).1)
theorem own_le {w : World} {base base' e n : Nat} {v : Value} {xs : List Value} (h : w.ownsRow base e 1 v n xs) (hb : base' ≤ base) : w.ownsRow base' e 1 v n xs := Go.Joins.ownsRow_le h hb

theorem SliceIn.alloc {k : IntKind} {bytes : Nat} {w : World} {A : Option Addr} {n c : Nat} (h : SliceIn k bytes w A n c) (o : Obj) : SliceIn k bytes (w.alloc o) A n c := by
  rcases h with h | ⟨ad, zs, rfl, hb, hl, hz, hc, hn⟩
  · exact .inl h
  · refine .inr ⟨ad, zs, rfl, fun h0 => by have := hb h0; simp; omega, hl, hz, fun j u hu => ?_, hn⟩
    have hj : 0 < n := by
      have := (List.getElem?_eq_some_iff.1 hu).1
      rw [List.length_map, hl] at this
      omega
    exact (World.cell?_alloc_lt _ _ _ (by rw [block_add]; exact hb hj)).trans (hc j u hu)

theorem u32_wf {x : Int} (h : (Lit.int .u32 x).wf = true) : 0 ≤ x ∧ x ≤ 4294967295 := by
  have h1 : IntKind.u32.min = 0 := rfl
  have h2 : IntKind.u32.max = 4294967295 := rfl
  simp only [Lit.wf, Bool.and_eq_true, decide_eq_true_eq] at h
  omega

theorem own_below {w w' : World} {base e size n : Nat} {v : Value} {xs : List Value} (h : w.ownsRow base e size v n xs) (hb : Below w.heap.size w w') : w'.ownsRow base e size v n xs := by
  have hg : w.grownBy w' none := ⟨hb.os, hb.tape, hb.output, hb.size, fun k hk _ => hb.block k hk⟩
  refine h.kept hg ?_
  cases hv : v.ownBlock with
  | none => exact .inl rfl
  | some k => exact .inr (by simp)

/-- append of a slice that came in, nil or not, to a row of the call's own. -/
theorem wpList_append_in {P : Program} (w : World) {ops : Array Oper} {rest : List Oper} {o : Oper} {a : Act} {Q : Exit → Act → World → Prop} (hgd : o.guard = none) (s x : Operand) (t : TypeId)
    (ho : o.op = .call { callee := .builtin .append, args := #[s, x], argTypes := #[t, t] })
    (base : Nat) (e : TypeId) (i : TypeInfo) (z : Value) (k : IntKind) (bytes : Nat) (ht : P.underlying t = some (.slice e)) (hi : P.info? e = some i) (hz : i.zero = some z)
    (hsize : i.size = 1) (hby : i.bytes = bytes) (hzs : z.cells.size = 1)
    (v : Value) (n : Nat) (xs : List Value) (hs : a.eval s = v) (hown : w.ownsRow base e 1 v n xs)
    (A : Option Addr) (m c : Nat) (hx : a.eval x = .slice A m c) (hin : SliceIn k bytes w A m c)
    (h63 : n + m ≤ maxLen) (hbytes : (n + m) * bytes ≤ 140737488355328) (hbase : base ≤ w.heap.size)
    (h : ∀ v' w' (zs : List Int), (∀ x ∈ zs, (Lit.int k x).wf = true) → w'.ownsRow base e 1 v' (n + m) (xs ++ zs.map (Value.int k)) → w.grownBy w' v.ownBlock → wpList P ops Q rest (a.put o.dst v') w') :
    wpList P ops Q (o :: rest) a w := by
  rcases hin with ⟨rfl, rfl, rfl⟩ | ⟨ad, zs, rfl, _, hl, hwf, hc, _⟩
  · refine wpList_append_own_none hgd s x t ho base e i 1 ht hi v n xs hs hown hx ?_
    exact h v w [] (by simp) (by simpa using hown) (World.grownBy.refl w _)
  · refine wpList_append_own w hgd s x t ho base e i z 1 bytes ht hi hz hsize hby hzs (by omega) v n xs hs hown ad m c (zs.map (Value.int k)) hx (by simp [hl]) hc (ints_oneCell k zs) h63 hbytes hbase ?_
    intro v' w' h1 h2 _
    exact h v' w' zs hwf h1 h2

/-- A row of words of the call's own. -/
def Ow (B : Nat) (W0 w' : World) (g n cap : Nat) : Prop := ∃ xs : List Int, w'.ownsRow B 33 1 (.slice (some ⟨g, 0, none⟩) n cap) n (xs.map (Value.int .u32)) ∧ (∀ x ∈ xs, 0 ≤ x ∧ x ≤ 4294967295) ∧ Below B W0 w'
def Ws (B : Nat) (W0 : World) (m : Nat) (w' : World) (v : Value) : Prop := ∃ g n cap, v = .slice (some ⟨g, 0, none⟩) n cap ∧ n ≤ m ∧ Ow B W0 w' g n cap
section
variable {B m n g cap : Nat} {W0 w' w'' : World} {v : Value}
theorem Ow.at_ (h : Ow B W0 w' g n cap) {j : Nat} (hj : j < n) : ∃ x, 0 ≤ x ∧ x ≤ 4294967295 ∧ w'.cell? ⟨g, j, none⟩ = some (.int .u32 x) := by
  obtain ⟨xs, hown, hx, _⟩ := h
  have hl : xs.length = n := by have := hown.1; simpa using this
  have hm := hx xs[j] (List.getElem_mem _)
  refine ⟨xs[j], hm.1, hm.2, ?_⟩
  rw [hown.cellAt j (by omega), List.getElem?_map, List.getElem?_eq_getElem (by omega)]
  rfl
theorem Ow.below (h : Ow B W0 w' g n cap) (hB : B ≤ W0.heap.size) (hb : Below w'.heap.size w' w'') : Ow B W0 w'' g n cap := by
  obtain ⟨xs, hown, hx, hbel⟩ := h
  exact ⟨xs, own_below hown hb, hx, hbel.trans (hb.mono (Nat.le_trans hB hbel.size))⟩
theorem Ow.alloc (h : Ow B W0 w' g n cap) (hB : B ≤ W0.heap.size) (ob : Obj) : Ow B W0 (w'.alloc ob) g n cap := h.below hB (below_new _ _)
theorem Ow.bel (h : Ow B W0 w' g n cap) : Below B W0 w' := by obtain ⟨_, _, _, hb⟩ := h; exact hb
theorem Ow.size (h : Ow B W0 w' g n cap) (hB : B ≤ W0.heap.size) : B ≤ w'.heap.size := Nat.le_trans hB h.bel.size
theorem Ow.cap_ (h : Ow B W0 w' g n cap) : n ≤ cap ∧ cap ≤ maxLen := by obtain ⟨_, h, _⟩ := h; exact own_cap h
theorem Ws.of_own {xs : List Int} (hn : n ≤ m) (h0 : 0 < n) (hown : w'.ownsRow B 33 1 v n (xs.map (Value.int .u32))) (hx : ∀ x ∈ xs, 0 ≤ x ∧ x ≤ 4294967295) (hb : Below B W0 w') : Ws B W0 m w' v := by
  obtain ⟨g, cap, rfl, _, _⟩ := hown.form h0
  exact ⟨g, n, cap, rfl, hn, xs, hown, hx, hb⟩
theorem Ws.below (h : Ws B W0 m w' v) (hB : B ≤ W0.heap.size) (hb : Below w'.heap.size w' w'') : Ws B W0 m w'' v := by
  obtain ⟨g, n, cap, rfl, hn, hO⟩ := h
  exact ⟨g, n, cap, rfl, hn, hO.below hB hb⟩
theorem Ws.more {m' : Nat} (h : Ws B W0 m w' v) (hm : m ≤ m') : Ws B W0 m' w' v := by
  obtain ⟨g, n, cap, rfl, hn, hO⟩ := h
  exact ⟨g, n, cap, rfl, by omega, hO⟩
end
end Go.Proofs.YtlhdmdhecamlfaaDoor
