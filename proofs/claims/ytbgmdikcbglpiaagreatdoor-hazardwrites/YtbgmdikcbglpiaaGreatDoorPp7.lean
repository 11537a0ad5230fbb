/-
  Contracts of package pipe's calls land and drain: what flies comes nearer, or is written. Conditions: the state lies behind the pointer, and may be; what flies is of registers below 16.
-/
import Derived.Test.YtbgmdikcbglpiaaGreatDoorPp6
import Derived.Deep.LoopGhost
namespace Go.Proofs.YtbgmdikcbglpiaaGreatDoor
open Go.RowKit

theorem flat3_take (l : List Fl) (k : Nat) (hk : k ≤ l.length) : flat3 (l.take k) = (flat3 l).take (k * 3) := by
  have h := congrArg flat3 (List.take_append_drop k l)
  rw [flat3_app] at h
  rw [← h, List.take_append_of_le_length (by rw [flat3_len, List.length_take]; omega)]
  exact (List.take_of_length_le (by rw [flat3_len, List.length_take]; omega)).symm
theorem flat3_drop (l : List Fl) (k : Nat) (hk : k ≤ l.length) : flat3 (l.drop k) = (flat3 l).drop (k * 3) := by
  have h := congrArg flat3 (List.take_append_drop k l)
  rw [flat3_app] at h
  have hl : (flat3 (l.take k)).length = k * 3 := by rw [flat3_len, List.length_take]; omega
  rw [← h, ← hl, List.drop_left]
theorem flat3_set (l : List Fl) (k : Nat) (f : Fl) (hk : k < l.length) : flat3 (l.set k f) = (flat3 l).take (k * 3) ++ f.list ++ (flat3 l).drop (k * 3 + 3) := by
  rw [List.set_eq_take_append_cons_drop, if_pos hk, flat3_app]
  have e : flat3 (f :: l.drop (k + 1)) = f.list ++ flat3 (l.drop (k + 1)) := by simp [flat3]
  rw [e, flat3_take _ _ (by omega), flat3_drop _ _ (by omega), List.append_assoc]
  congr 3
  omega
theorem setRow_at {T : TypeId} {w : World} {g : Nat} {cs : Array Value} (h : w.heap[g]? = some (.cells cs T (0, 0))) (cs' : Array Value) : (w.setRow g cs').heap[g]? = some (.cells cs' T (0, 0)) ∧ w.grownBy (w.setRow g cs') (some g) ∧ (w.setRow g cs').heap.size = w.heap.size := by
  refine ⟨?_, ⟨rfl, rfl, rfl, ?_, fun k hk hne => ?_⟩, ?_⟩
  · simp [World.setRow, Array.getElem?_modify, h]
  · simp [World.setRow]
  · have hne : ¬ g = k := fun e => hne (by rw [e])
    simp [World.setRow, Array.getElem?_modify, hne]
  · simp [World.setRow]
/-- append of one result within a row of one's own: where there is room, the row stays where it is. -/
theorem wpList_in3 {ops : Array Oper} {rest : List Oper} {o : Oper} {a : Act} {Q : Exit → Act → World → Prop} (hgd : o.guard = none) (s x : Operand) (ho : o.op = .call { callee := .builtin .append, args := #[s, x], argTypes := #[25, 25] })
    (W : World) (B n k g cap : Nat) (X : List Fl) (f : Fl) (hX : X.length = n) (hk : k < n) (hs : a.eval s = .slice (some ⟨g, 0, none⟩) k cap) (hown : W.ownsRow B 71 3 (.slice (some ⟨g, 0, none⟩) n cap) n (flat3 X))
    (gx : Nat) (hx : a.eval x = .slice (some ⟨gx, 0, none⟩) 1 1) (cs : Array Value) (hnews : W.heap[gx]? = some (.cells cs 71 (0, 0))) (hcs : cs.toList = f.list)
    (h : ∀ w', w'.ownsRow B 71 3 (.slice (some ⟨g, 0, none⟩) n cap) n (flat3 (X.set k f)) → W.grownBy w' (some g) → w'.heap.size = W.heap.size → wpList Tryz.prog ops Q rest (a.put o.dst (.slice (some ⟨g, 0, none⟩) (k + 1) cap)) w') :
    wpList Tryz.prog ops Q (o :: rest) a W := by
  obtain ⟨i, z, hi, hz, h1, h2, h3⟩ := infoW_parts
  obtain ⟨hlen, hown⟩ := hown
  rcases hown with ⟨hv, _⟩ | ⟨g', cap', cur, hv, hb, hg, hn, hc, hsz, ht⟩
  · simp at hv
  simp only [Value.slice.injEq, Option.some.injEq, Addr.mk.injEq, and_true, true_and] at hv
  obtain ⟨rfl, rfl⟩ := hv
  have hlf : f.list.length = 3 := rfl
  have hfl : (flat3 X).length = n * 3 := by rw [flat3_len, hX]
  have hcl : cur.toList.length = cap * 3 := by rw [Array.length_toList, hsz]
  have hr := run_append_room (P := Tryz.prog) W 25 o.type 71 i Tryz.underlying25 hi g k cap cur hg ⟨gx, 0, none⟩ 1 1 f.list (by rw [h1]; rfl) (fun j u hu => World.news_of_block hnews j u (by rw [hcs]; exact hu)) (fl_one f) (by omega) (by rw [h1, hlf, hsz]; omega)
  rw [h1, hlf] at hr
  obtain ⟨R, hR⟩ : ∃ R, cur.toList = flat3 X ++ R := ⟨cur.toList.drop (n * 3), by rw [← ht, List.take_append_drop]⟩
  have hL : cur.toList.take (k * 3) ++ f.list ++ cur.toList.drop (k * 3 + 3) = flat3 (X.set k f) ++ R := by
    rw [hR, List.take_append_of_le_length (by omega), List.drop_append_of_le_length (by omega), flat3_set X k f (by omega)]
    simp only [List.append_assoc]
  rw [hL] at hr
  obtain ⟨p1, p2, p3⟩ := setRow_at hg (flat3 (X.set k f) ++ R).toArray
  have hset : (flat3 (X.set k f)).length = n * 3 := by rw [flat3_len, List.length_set, hX]
  refine wpList_plain hgd fun _ hK => ?_
  unfold Oper.wp execOp
  simp only [ho, resolve, invoke, builtin, Sem.run_bind, Sem.run_pure, Result.andThen_ok, List.map_toArray, List.map_cons, List.map_nil, hs, hx, hr]
  refine hK _ _ (h _ ⟨hset, .inr ⟨g, cap, _, rfl, hb, p1, hn, hc, ?_, ?_⟩⟩ p2 p3)
  · have h9 := congrArg List.length hR
    rw [List.length_append, hcl, hfl] at h9
    rw [List.size_toArray, List.length_append, hset]; omega
  · show List.take (n * 3) (flat3 (X.set k f) ++ R) = _
    rw [List.take_append_of_le_length (by omega), List.take_of_length_le (by omega)]
section
variable {B p : Nat} {w w' : World} {m : M} {V : Vs}
theorem SA.putF (h : SA B w p m V) {X : List Fl} (hl : X.length = m.fl.length) (hg : w.grownBy w' (ob V.af)) (hr : w'.ownsRow B 71 3 (V.f m) m.fl.length (flat3 X)) : SA B w' p { m with fl := X } V := by
  obtain ⟨T, hb⟩ := h.blk
  have hlt := lt_of_heap hb
  have hb' := (hg.block p hlt (fun e => h.pf e.symm)).trans hb
  have afr : Ap (ob V.af) (some V.gr) := fun k hk e => by cases e; exact h.fr hk
  have afm : Ap (ob V.af) (some V.gm) := fun k hk e => by cases e; exact h.fm hk
  exact { h with
    blk := ⟨T, by rw [hb']; simp [stCells, Vs.f, hl]⟩
    hr := keep_row h.hr hg afr, hm := keep_row h.hm hg afm, hi := keep_row h.hi hg h.fi.symm, ho := keep_row h.ho hg h.fo.symm, hs := keep_row h.hs hg h.fs.symm
    hf := by unfold Vs.f; rw [hl]; exact hr }
theorem own_take3 {w : World} {base e g n cap : Nat} {xs : List Value} (h : w.ownsRow base e 3 (.slice (some ⟨g, 0, none⟩) n cap) n xs) {m : Nat} (hm : m ≤ n) :
    w.ownsRow base e 3 (.slice (some ⟨g, 0, none⟩) m cap) m (xs.take (m * 3)) := by
  obtain ⟨hl, h2⟩ := h
  refine ⟨by rw [List.length_take, hl]; omega, ?_⟩
  rcases h2 with ⟨h', _⟩ | ⟨g', cap', cur, h', hb, hg, hn, hc, hs, ht⟩
  · simp at h'
  · simp only [Value.slice.injEq, Option.some.injEq, Addr.mk.injEq, and_true, true_and] at h'
    obtain ⟨rfl, rfl⟩ := h'
    refine .inr ⟨g, cap, cur, rfl, hb, hg, by omega, hc, hs, ?_⟩
    rw [← ht, List.take_take, Nat.min_eq_left (by omega)]
/-- The row of what flies is cut. -/
theorem SA.cutF (h : SA B w p m V) {k : Nat} (hk : k ≤ m.fl.length) : SA B (w.setCell ⟨p, 8, none⟩ (.slice V.af k V.cf)) p { m with fl := m.fl.take k } V := by
  have hl : (m.fl.take k).length = k := by rw [List.length_take]; omega
  rcases h.hf.2 with ⟨h', h0⟩ | ⟨g, cap, cur, h', _⟩
  · have hk0 : k = 0 := by omega
    have hnil : m.fl = [] := List.length_eq_zero_iff.1 h0
    subst hk0
    simp only [Vs.f, Value.slice.injEq] at h'
    have := h.setF (l := m.fl.take 0) (A := V.af) (c := V.cf) ⟨rfl, rfl, rfl, Nat.le_refl _, fun _ _ _ => rfl⟩ (by
      rw [h'.1, h'.2.2]; simp [flat3]; exact World.ownsRow_nil _ _ _ _) (.inl rfl)
    rw [hl] at this
    exact this
  · simp only [Vs.f, Value.slice.injEq, true_and] at h'
    have hf := h.hf
    unfold Vs.f at hf
    rw [h'.1, h'.2] at hf
    have := h.setF (l := m.fl.take k) (A := V.af) (c := V.cf) ⟨rfl, rfl, rfl, Nat.le_refl _, fun _ _ _ => rfl⟩ (by
      rw [hl, h'.1, h'.2, flat3_take _ _ hk]
      exact own_take3 hf hk) (.inl rfl)
    rw [hl] at this
    exact this
theorem SA.flyAt (h : SA B w p m V) {i : Nat} (hi : i < m.fl.length) : ∃ g, V.af = some ⟨g, 0, none⟩ ∧ g < w.heap.size ∧ w.cell? ⟨g, i * 3, none⟩ = some (.int .i64 (m.fl[i]).r) ∧ w.cell? ⟨g, i * 3 + 1, none⟩ = some (.int .u32 (m.fl[i]).v) ∧ w.cell? ⟨g, i * 3 + 2, none⟩ = some (.int .i64 (m.fl[i]).k) := by
  obtain ⟨g, c, hv, hb, hl⟩ := h.hf.form (by omega)
  simp only [Vs.f, Value.slice.injEq, true_and] at hv
  have c0 : ∀ j, j < 3 → w.cell? ⟨g, i * 3 + j, none⟩ = (m.fl[i]).list[j]? := by
    intro j hj
    have h1 := flat3_at m.fl i j _ (List.getElem?_eq_getElem hi) hj
    have h2 : ∃ u, (m.fl[i]).list[j]? = some u := ⟨_, List.getElem?_eq_getElem (by exact hj)⟩
    obtain ⟨u, hu⟩ := h2
    have h3 := h.hf.cells (g := g) (by simp only [Vs.f]; rw [hv.1]; rfl) (i * 3 + j) u (h1.trans hu)
    rw [show (⟨g, 0, none⟩ : Addr).add (i * 3 + j) = ⟨g, i * 3 + j, none⟩ by unfold Addr.add; split <;> simp_all] at h3
    rw [h3, hu]
  exact ⟨g, hv.1, hl, c0 0 (by decide), c0 1 (by decide), c0 2 (by decide)⟩
theorem SA.capsF (h : SA B w p m V) : m.fl.length ≤ V.cf ∧ V.cf ≤ maxLen := by
  rcases h.hf.2 with ⟨h', h0⟩ | ⟨g', cap', cur, h', hb, hg, hn, hc, hs, ht⟩
  · simp only [Vs.f, Value.slice.injEq] at h'; omega
  · simp only [Vs.f, Value.slice.injEq, true_and] at h'; omega
end
end Go.Proofs.YtbgmdikcbglpiaaGreatDoor
