/-
  Contract of the statements' call kinds: a program of ops of some kinds, made of a script's instructions. Conditions: the argument reads as a script.
-/
import Derived.Test.YtpnmlednningkaaDoorShell
import Derived.Deep.LoopGhost
namespace Go.Proofs.YtpnmlednningkaaDoor
open Go.RowKit

theorem Tryd.info54 : (Tryd.prog.info? 54).map (fun i => ((i.zero.map fun z => z.cells.size), i.size, i.bytes)) = some (some 6, 6, 56) := by kernel_rfl
theorem info54_parts : ∃ i z, Tryd.prog.info? 54 = some i ∧ i.zero = some z ∧ i.size = 6 ∧ i.bytes = 56 ∧ z.cells.size = 6 := by
  obtain ⟨i, hi, he⟩ := Option.map_eq_some_iff.1 Tryd.info54
  simp only [Prod.mk.injEq] at he
  obtain ⟨z, hz, hc⟩ := Option.map_eq_some_iff.1 he.1
  exact ⟨i, z, hi, hz, he.2.1, he.2.2, hc⟩
theorem flat6_one (xs : List In6) : ∀ u ∈ flat6 xs, u.oneCell' = true := by
  intro u hu
  obtain ⟨x, _, hx⟩ := List.mem_flatMap.1 hu
  simp only [In6.list, List.mem_cons, List.not_mem_nil, or_false] at hx
  rcases hx with rfl | rfl | rfl | rfl | rfl | rfl <;> rfl
/-- append of some instructions to a row of one's own. -/
theorem app6 {ops : Array Oper} {rest : List Oper} {o : Oper} {a : Act} {Q : Exit → Act → World → Prop} (hgd : o.guard = none) (s x : Operand) (ho : o.op = .call { callee := .builtin .append, args := #[s, x], argTypes := #[22, 22] })
    (W : World) (B n c : Nat) (va : Option Addr) (xs ys : List In6) (k : Nat) (hk : ys.length = k) (hk0 : 0 < k) (hk1 : k ≤ 1000) (hs : a.eval s = .slice va n c) (hown : W.ownsRow B 54 6 (.slice va n c) n (flat6 xs)) (hn : n ≤ 1000000) (g0 : Nat) (hx : a.eval x = .slice (some ⟨g0, 0, none⟩) k k) (cs : Array Value) (hg0 : BK 54 W g0 cs) (hcs : cs.toList = flat6 ys) (hB : B ≤ W.heap.size)
    (h : ∀ g cap w', w'.ownsRow B 54 6 (.slice (some ⟨g, 0, none⟩) (n + k) cap) (n + k) (flat6 (xs ++ ys)) → W.grownBy w' (ob va) → wpList Tryd.prog ops Q rest (a.put o.dst (.slice (some ⟨g, 0, none⟩) (n + k) cap)) w') :
    wpList Tryd.prog ops Q (o :: rest) a W := by
  obtain ⟨i, z, hi, hz, h1, h2, h3⟩ := info54_parts
  refine wpList_append_lies W hgd s x 22 ho B 54 i z 6 56 Tryd.underlying22 hi hz h1 h2 h3 (by decide) (.slice va n c) n (flat6 xs) hs hown ⟨g0, 0, none⟩ k k (flat6 ys) hx (by rw [flat6_len, hk]) (fun j u hu => World.news_of_block hg0 j u (by rw [hcs]; exact hu)) (flat6_one ys) hk0 (by unfold maxLen; omega) (by omega) hB _ rfl ?_
  intro g cap w' o1 o2 _ _
  refine h g cap w' ?_ (by rw [own_ob] at o2; exact o2)
  unfold flat6 at *
  rw [List.flatMap_append]
  exact o1
theorem fits_nat {h : Bool} {d : Int} (e : fitsB h d = true) : ∃ n : Nat, d = n := by
  unfold fitsB at e
  cases h
  · simp at e; exact ⟨0, by omega⟩
  · simp at e; exact ⟨d.toNat, by omega⟩
/-- An instruction without a name that may be, as an instruction of a program. -/
theorem in5_of {x : In6} (hs : x.s = ⟨#[]⟩) (h : iB x = true) : ∃ y : In5, y.raw = x ∧ Vi y := by
  obtain ⟨o, d, a, b, m, s⟩ := x
  simp only at hs
  subst hs
  unfold iB at h
  simp only [Bool.and_eq_true, decide_eq_true_eq] at h
  obtain ⟨⟨h0, h1⟩, h2⟩ := h
  obtain ⟨p1, p2, p3, p4⟩ := ins_parts h2
  obtain ⟨d', rfl⟩ := fits_nat p1
  obtain ⟨a', rfl⟩ := fits_nat p2
  obtain ⟨b', rfl⟩ := fits_nat p3
  refine ⟨⟨o.toNat, d', a', b', m⟩, ?_, ⟨by show o.toNat < 34; omega, h2⟩⟩
  unfold In5.raw
  simp only [In6.mk.injEq, and_true]
  omega
def KdPost (w : World) (e : Ending) (w' : World) : Prop := ∃ v P, e = .returned v ∧ RdP w' v P ∧ Vp P ∧ Below w.heap.size w w'
/-- What the loop keeps. -/
def Kl (w : World) (n : Nat) (cs : Array Value) (l : Value) (wr : World) : Prop := ∃ (A : Option Addr) (c : Nat) (P : List In5), l = .slice A P.length c ∧ wr.ownsRow (w.heap.size + 1) 54 6 (.slice A P.length c) P.length (flat6 (P.map In5.raw)) ∧ 4 ≤ P.length ∧ P.length ≤ n ∧ (∀ x ∈ P, Vi x) ∧ BK 29 wr w.heap.size cs ∧ Below w.heap.size w wr
theorem own_bel {w w' : World} {B e z n : Nat} {v : Value} {xs : List Value} (h : w.ownsRow B e z v n xs) (hb : Below w.heap.size w w') : w'.ownsRow B e z v n xs := h.kept (grown_below hb) (by cases v.ownBlock; exact .inl rfl; exact .inr (by simp))
/-- A store into a block that did not lie before leaves the row. -/
theorem own_set {w w' w2 : World} {B e z n g : Nat} {v : Value} {xs : List Value} (h : w.ownsRow B e z v n xs) (h1 : w'.ownsRow B e z v n xs) (hg : w'.grownBy w2 (some g)) (hl : w.heap.size ≤ g) : w2.ownsRow B e z v n xs := h1.kept hg (by
  cases hv : v.ownBlock with
  | none => exact .inl rfl
  | some k => exact .inr (by have := (h.lt k hv).2; simp; omega))
abbrev set6 (X : World) (z : Nat) (a0 a1 a2 a3 a4 a5 : Value) : World := (((((X.setCell ⟨z, 0, none⟩ a0).setCell ⟨z, 1, none⟩ a1).setCell ⟨z, 2, none⟩ a2).setCell ⟨z, 3, none⟩ a3).setCell ⟨z, 4, none⟩ a4).setCell ⟨z, 5, none⟩ a5
theorem bk_set6 {X : World} {z : Nat} {c0 c1 c2 c3 c4 c5 : Value} (h : BK 54 X z #[c0, c1, c2, c3, c4, c5]) (a0 a1 a2 a3 a4 a5 : Value) : BK 54 (set6 X z a0 a1 a2 a3 a4 a5) z #[a0, a1, a2, a3, a4, a5] := by
  have h0 : BK 54 _ z #[a0, c1, c2, c3, c4, c5] := h.set 0 a0
  have h1 : BK 54 _ z #[a0, a1, c2, c3, c4, c5] := h0.set 1 a1
  have h2 : BK 54 _ z #[a0, a1, a2, c3, c4, c5] := h1.set 2 a2
  have h3 : BK 54 _ z #[a0, a1, a2, a3, c4, c5] := h2.set 3 a3
  have h4 : BK 54 _ z #[a0, a1, a2, a3, a4, c5] := h3.set 4 a4
  have h5 : BK 54 _ z #[a0, a1, a2, a3, a4, a5] := h4.set 5 a5
  exact h5
theorem gb_set6 (X : World) (z : Nat) (a0 a1 a2 a3 a4 a5 : Value) : X.grownBy (set6 X z a0 a1 a2 a3 a4 a5) (some z) :=
  gb_trans (gb_trans (gb_trans (gb_trans (gb_trans (grown_set _ z 0 _) (grown_set _ z 1 _)) (grown_set _ z 2 _)) (grown_set _ z 3 _)) (grown_set _ z 4 _)) (grown_set _ z 5 _)
theorem BK.c6 {T : TypeId} {w : World} {g : Nat} {v0 v1 v2 v3 v4 v5 : Value} (h : BK T w g #[v0, v1, v2, v3, v4, v5]) :
    w.cell? ⟨g, 0, none⟩ = some v0 ∧ w.cell? ⟨g, 1, none⟩ = some v1 ∧ w.cell? ⟨g, 2, none⟩ = some v2 ∧ w.cell? ⟨g, 3, none⟩ = some v3 ∧ w.cell? ⟨g, 4, none⟩ = some v4 ∧ w.cell? ⟨g, 5, none⟩ = some v5 := ⟨h.cell 0, h.cell 1, h.cell 2, h.cell 3, h.cell 4, h.cell 5⟩
theorem BK.f6 {T : TypeId} {w : World} {g : Nat} {cs : Array Value} (h : BK T w g cs) :
    w.frozen? ⟨g, 0, none⟩ = false ∧ w.frozen? ⟨g, 1, none⟩ = false ∧ w.frozen? ⟨g, 2, none⟩ = false ∧ w.frozen? ⟨g, 3, none⟩ = false ∧ w.frozen? ⟨g, 4, none⟩ = false ∧ w.frozen? ⟨g, 5, none⟩ = false := ⟨h.frozen 0, h.frozen 1, h.frozen 2, h.frozen 3, h.frozen 4, h.frozen 5⟩
def kdB : List In5 := [⟨26, 1, 0, 0, 0⟩, ⟨26, 2, 0, 0, 0⟩, ⟨23, 3, 0, 0, -5⟩, ⟨23, 4, 0, 0, 77⟩]
def kdE : List In5 := [⟨27, 0, 3, 0, 0⟩, ⟨33, 0, 0, 0, 0⟩]
theorem kdB_vi : ∀ x ∈ kdB, Vi x := (vp_of (P := kdB) (by decide +kernel)).2
theorem kdE_cs : (#[.int .i64 27, .int .i64 0, .int .i64 3, .int .i64 0, .int .i64 0, .string ⟨#[]⟩, .int .i64 33, .int .i64 0, .int .i64 0, .int .i64 0, .int .i64 0, .string ⟨#[]⟩] : Array Value).toList = flat6 (kdE.map In5.raw) := rfl
theorem kdE_len : (kdE.map In5.raw).length = 2 := rfl
theorem kdE_vi : ∀ x ∈ kdE, Vi x := (vp_of (P := kdE) (by decide +kernel)).2
end Go.Proofs.YtpnmlednningkaaDoor
