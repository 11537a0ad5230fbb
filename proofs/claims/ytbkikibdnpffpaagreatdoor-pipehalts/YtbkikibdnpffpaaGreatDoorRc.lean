/-
  What both runs lean on: so many cycles, cycle by cycle; code as a row, states as values; whole blocks of a state loaded and stored.
-/
import Derived.Test.YtbkikibdnpffpaaGreatDoorPk
import Derived.Test.YtbkikibdnpffpaaGreatDoorBq
import Derived.Test.YtbkikibdnpffpaaGreatDoorPp11
import Derived.Test.YtbkikibdnpffpaaGreatDoorPq4
namespace Go.Proofs.YtbkikibdnpffpaaGreatDoor
open Go.RowKit

variable {C : List (List In5)} {m m0 : M} {n i : Nat}
theorem runC_stop (h : m.stop ≠ 0) : runC C n m = (m, 0) := by
  cases n with
  | zero => rfl
  | succ n => unfold runC; rw [if_neg h]
theorem runC_go (h : m.stop = 0) : runC C (n + 1) m = ((runC C n (cyc C m)).1, (runC C n (cyc C m)).2 + 1) := by
  rw [runC, if_pos h]
/-- What a loop over cycles keeps: m stands i cycles behind m0, of n. -/
structure Atc (C : List (List In5)) (m0 : M) (n i : Nat) (m : M) : Prop where
  le : i ≤ n
  run : runC C n m0 = ((runC C (n - i) m).1, (runC C (n - i) m).2 + i)
  ok : Okc m
  out : m.out.length ≤ m0.out.length + 4 * i
theorem Atc.zero (k : Okc m0) : Atc C m0 n 0 m0 := ⟨Nat.zero_le _, rfl, k, Nat.le_refl _⟩
theorem Atc.step (h : Atc C m0 n i m) (v : Vc C) (hb : m0.out.length + 4 * n ≤ 1000000) (hi : i < n) (hs : m.stop = 0) : Atc C m0 n (i + 1) (cyc C m) := by
  have ho := h.out
  have e : n - i = (n - (i + 1)) + 1 := by omega
  have h1 := h.ok.cyc v (by omega) hs
  refine ⟨hi, ?_, h1.1, ?_⟩
  · rw [h.run, e, runC_go hs]
    simp only [Prod.mk.injEq, true_and]
    omega
  · have := h1.2; omega
theorem Atc.full (h : Atc C m0 n n m) : runC C n m0 = (m, n) := by
  rw [h.run, Nat.sub_self]; simp [runC]
theorem Atc.stopped (h : Atc C m0 n i m) (hs : m.stop ≠ 0) : runC C n m0 = (m, i) := by
  rw [h.run, runC_stop hs]; simp
theorem Atc.done (h : Atc C m0 n i m) (hd : n ≤ i ∨ m.stop ≠ 0) : runC C n m0 = (m, i) := by
  rcases hd with h1 | h1
  · have h2 := h.le
    obtain rfl : i = n := by omega
    exact h.full
  · exact h.stopped h1
/-- What a run leads to may be, and its outputs are at most so many more. -/
theorem runC_okc (v : Vc C) (k : Okc m) (hb : m.out.length + 4 * n ≤ 1000000) : Okc (runC C n m).1 ∧ (runC C n m).1.out.length ≤ m.out.length + 4 * n ∧ (runC C n m).2 ≤ n := by
  induction n generalizing m with
  | zero => exact ⟨k, Nat.le_refl _, Nat.le_refl _⟩
  | succ n ih =>
    by_cases hs : m.stop = 0
    · rw [runC_go hs]
      have h1 := k.cyc v (by omega) hs
      have h2 := ih (m := cyc C m) h1.1 (by omega)
      exact ⟨h2.1, by have := h2.2.1; simp only; omega, by have := h2.2.2; simp only; omega⟩
    · rw [runC_stop hs]
      exact ⟨k, by simp only; omega, by simp only; omega⟩
/-- Two runs behind one another are one. -/
theorem runC_add (a b : Nat) (m : M) : runC C (a + b) m = ((runC C b (runC C a m).1).1, (runC C a m).2 + (runC C b (runC C a m).1).2) := by
  induction a generalizing m with
  | zero => simp [runC]
  | succ a ih =>
    by_cases hs : m.stop = 0
    · rw [show a + 1 + b = (a + b) + 1 by omega, runC_go hs, runC_go hs, ih]
      simp only [Prod.mk.injEq, true_and]
      omega
    · rw [runC_stop hs, runC_stop hs]
      simp only
      rw [runC_stop hs]
      rfl
/-- A run that was not stopped has all its cycles. -/
theorem runC_all (n : Nat) (m : M) (h : (runC C n m).1.stop = 0) : (runC C n m).2 = n := by
  induction n generalizing m with
  | zero => rfl
  | succ n ih =>
    by_cases hs : m.stop = 0
    · rw [runC_go hs] at h ⊢
      simp only at h ⊢
      rw [ih _ h]
    · rw [runC_stop hs] at h
      exact absurd h hs
section
variable {w w' : World} {g : Nat} {cs : Array Value} {T T' : TypeId}
theorem bk_row2 (h : BK T' w g cs) (cs' : Array Value) : BK T' (w.setRow g cs') g cs' ∧ w.grownBy (w.setRow g cs') (some g) ∧ (w.setRow g cs').heap.size = w.heap.size := bk_row h cs'
theorem BK.load2 (h : BK T' w g cs) {fs : Array Field} (hu : Tryz.prog.underlying T = some (.struct fs)) {n : Nat} (hi : (Tryz.prog.info? T).map (·.size) = some n) (hs : cs.size = n) : (loadVar T ⟨g, 0, none⟩).run Tryz.prog w = .ok (.agg cs) w :=
  run_loadVar_row w g T' T cs (0, 0) _ h hu rfl (by rw [hs]; exact hi)
theorem wpList_store_bk2 {ops : Array Oper} {rest : List Oper} {op : Oper} {a : Act} {Q : Exit → Act → World → Prop} (hgd : op.guard = none) (x y : Operand) (ho : op.op = .store T x y)
    {n : Nat} (hi : (Tryz.prog.info? T).map (·.size) = some n)
    (g : Nat) (cs cs' : Array Value) (hx : a.eval x = .pointer (some ⟨g, 0, none⟩)) (hy : a.eval y = .agg cs') (hb : BK T' w g cs) (hs : cs.size = n) (hs' : cs'.size = n) (h1 : cs'.all (·.oneCell') = true)
    (h : ∀ w', BK T' w' g cs' → w.grownBy w' (some g) → w'.heap.size = w.heap.size → wpList Tryz.prog ops Q rest (a.put op.dst undef) w') : wpList Tryz.prog ops Q (op :: rest) a w :=
  wpList_plain hgd fun _ hK => by
    obtain ⟨p1, p2, p3⟩ := bk_row hb cs'
    unfold Oper.wp execOp
    simp only [ho, hx, hy, Instr.storeAt, Instr.sureAddr, Sem.run_bind, Sem.run_pure, Result.andThen_ok, run_storeVar_row (P := Tryz.prog) w g T' T cs cs' hb (by rw [hs']; exact hi) (by rw [hs, hs']) h1]
    exact hK _ _ (h _ p1 p2 p3)
theorem wpList_load_bk2 {ops : Array Oper} {rest : List Oper} {op : Oper} {a : Act} {Q : Exit → Act → World → Prop} (hgd : op.guard = none) (x : Operand) (ho : op.op = .load T x)
    {fs : Array Field} (hu : Tryz.prog.underlying T = some (.struct fs)) {n : Nat} (hi : (Tryz.prog.info? T).map (·.size) = some n)
    (g : Nat) (cs : Array Value) (hx : a.eval x = .pointer (some ⟨g, 0, none⟩)) (hb : BK T' w g cs) (hs : cs.size = n)
    (h : wpList Tryz.prog ops Q rest (a.put op.dst (.agg cs)) w) : wpList Tryz.prog ops Q (op :: rest) a w :=
  wpList_plain hgd fun _ hK => by
    unfold Oper.wp execOp
    simp only [ho, hx, Instr.loadAt, Instr.sureAddr, Sem.run_bind, Sem.run_pure, Result.andThen_ok, hb.load2 hu hi hs]
    exact hK _ _ h
end
theorem results_cell_two {fn : Func} {p a b : Tmp} {ty : TypeId} (h : fn.results = #[.cell p ty, .tmp a, .tmp b]) (tmps : Array Value) (P : Program) (w : World) :
    (results fn tmps).run P w = ((asAddr (tmps.getD p undef)).run P w).andThen fun x w₁ => ((loadVar ty x).run P w₁).andThen fun v w₂ => .ok (.tuple #[v, tmps.getD a undef, tmps.getD b undef]) w₂ := by
  simp only [results, h]
  simp [Sem.run_bind, Result.andThen]
/-- A slice that reads as code. -/
def RdC (w : World) (v : Value) (C : List (List In5)) : Prop := ∃ A c, v = .slice A C.length c ∧ Cd w.heap.size w A C
theorem RdC.keep {w w' : World} {v : Value} (h : RdC w v C) (hb : Below w.heap.size w w') : RdC w' v C := by
  obtain ⟨A, c, hv, hc⟩ := h
  exact ⟨A, c, hv, (hc.keep hb).mono hb.size⟩
theorem RdC.raw {w : World} {v : Value} (h : RdC w v C) : RdB w v (C.map bX) := by
  obtain ⟨A, c, hv, hc⟩ := h
  refine ⟨A, c, by rw [List.length_map]; exact hv, fun h0 => ?_⟩
  rw [List.length_map] at h0
  obtain ⟨ad, ha, hl, _⟩ := hc 0 h0
  refine ⟨ad, ha, hl, fun i X hi => ?_⟩
  obtain ⟨b, hb, rfl⟩ := List.mem_map.1 (List.mem_of_getElem? hi)
  rw [List.getElem?_map] at hi
  have hlt : i < C.length := by
    rcases Nat.lt_or_ge i C.length with h1 | h1
    · exact h1
    · rw [List.getElem?_eq_none h1] at hi; cases hi
  obtain ⟨ad2, ha2, _, hx⟩ := hc i hlt
  rw [ha] at ha2
  cases ha2
  rw [List.getElem?_eq_getElem hlt] at hi
  simp only [Option.map_some, Option.some.injEq] at hi
  rw [← hi]
  rw [List.getD_eq_getElem?_getD, List.getElem?_eq_getElem hlt] at hx
  exact hx
theorem szsB_raw (C : List (List In5)) : SzsB (C.map bX) := fun X hX => by
  obtain ⟨b, _, rfl⟩ := List.mem_map.1 hX
  exact fun k _ => Nat.zero_le _
/-- Code that may be, each instruction where its op may stand. -/
structure Vcc (C : List (List In5)) : Prop where
  v : Vc C
  c : cdB (C.map bX) = true
theorem SA.srp {B p : Nat} {w w' : World} {m : M} {V : Vs} (h : SA B w p m V) (hg : w.grownBy w' (some p)) : SR B w' m V :=
  { h with
    hr := keep_row h.hr hg (ap_some (by simp [ob]; exact h.pr)), hm := keep_row h.hm hg (ap_some (by simp [ob]; exact h.pm)), hi := keep_row h.hi hg (ap_some h.pi), ho := keep_row h.ho hg (ap_some h.po), hs := keep_row h.hs hg (ap_some h.ps), hf := keep_row h.hf hg (ap_some h.pf) }
theorem st_size (m : M) (V : Vs) : (stCells m V).size = 11 := rfl
theorem st_one (m : M) (V : Vs) : (stCells m V).all (·.oneCell') = true := by
  have e1 : ∀ x : Int, (Value.int .i64 x).oneCell' = true := fun _ => rfl
  have e2 : ∀ a n c, (Value.slice a n c).oneCell' = true := fun _ _ _ => rfl
  simp [stCells, e1, e2]
/-- A slice that reads as a list of numbers, nil or not, and lies at B or above. -/
def RdN (B : Nat) (k : IntKind) (w : World) (v : Value) (xs : List Int) : Prop :=
  ∃ A c, v = .slice A xs.length c ∧ (0 < xs.length → ∃ ad : Addr, A = some ad ∧ B ≤ ad.block ∧ ad.block < w.heap.size ∧ ∀ j u, (xs.map (Value.int k))[j]? = some u → w.cell? (ad.add j) = some u)
section
variable {B B' : Nat} {k : IntKind} {w w' : World} {v : Value} {xs : List Int} {m : M}
theorem RdN.rd (h : RdN B k w v xs) : Rd k w v xs := by
  obtain ⟨A, c, hv, h⟩ := h
  exact ⟨A, c, hv, fun h0 => by obtain ⟨ad, ha, _, hb, hc⟩ := h h0; exact ⟨ad, ha, hb, hc⟩⟩
theorem RdN.keep (h : RdN B k w v xs) (hs : w.heap.size ≤ w'.heap.size) (hk : ∀ p : Addr, B ≤ p.block → p.block < w.heap.size → w'.cell? p = w.cell? p) : RdN B k w' v xs := by
  obtain ⟨A, c, hv, h⟩ := h
  refine ⟨A, c, hv, fun h0 => ?_⟩
  obtain ⟨ad, ha, h1, hb, hc⟩ := h h0
  exact ⟨ad, ha, h1, by omega, fun j u hu => (hk _ (by rw [block_add]; exact h1) (by rw [block_add]; exact hb)).trans (hc j u hu)⟩
theorem RdN.mono (h : RdN B k w v xs) (hb : B' ≤ B) : RdN B' k w v xs := by
  obtain ⟨A, c, hv, h⟩ := h
  exact ⟨A, c, hv, fun h0 => by obtain ⟨ad, ha, h1, hb, hc⟩ := h h0; exact ⟨ad, ha, by omega, hb, hc⟩⟩
theorem RdN.of_own {e : Nat} (h : w.ownsRow B e 1 v xs.length (xs.map (Value.int k))) : RdN B k w v xs := by
  rcases h.2 with ⟨rfl, h0⟩ | ⟨g, cap, cur, rfl, hb, hg, _⟩
  · exact ⟨none, 0, by rw [h0], fun h1 => absurd h1 (by omega)⟩
  · exact ⟨_, _, rfl, fun _ => ⟨_, rfl, hb, lt_of_heap hg, h.cells rfl⟩⟩
/-- A slice that reads as a list of results, nil or not, and lies at B or above. -/
def RdFN (B : Nat) (w : World) (v : Value) (xs : List Fl) : Prop :=
  ∃ A c, v = .slice A xs.length c ∧ (0 < xs.length → ∃ ad : Addr, A = some ad ∧ B ≤ ad.block ∧ ad.block < w.heap.size ∧ ∀ j u, (flat3 xs)[j]? = some u → w.cell? (ad.add j) = some u)
theorem RdFN.rd {xs : List Fl} (h : RdFN B w v xs) : RdF w v xs := by
  obtain ⟨A, c, hv, h⟩ := h
  exact ⟨A, c, hv, fun h0 => by obtain ⟨ad, ha, _, hb, hc⟩ := h h0; exact ⟨ad, ha, hb, hc⟩⟩
theorem RdFN.keep {xs : List Fl} (h : RdFN B w v xs) (hs : w.heap.size ≤ w'.heap.size) (hk : ∀ p : Addr, B ≤ p.block → p.block < w.heap.size → w'.cell? p = w.cell? p) : RdFN B w' v xs := by
  obtain ⟨A, c, hv, h⟩ := h
  refine ⟨A, c, hv, fun h0 => ?_⟩
  obtain ⟨ad, ha, h1, hb, hc⟩ := h h0
  exact ⟨ad, ha, h1, by omega, fun j u hu => (hk _ (by rw [block_add]; exact h1) (by rw [block_add]; exact hb)).trans (hc j u hu)⟩
theorem RdFN.mono {xs : List Fl} (h : RdFN B w v xs) (hb : B' ≤ B) : RdFN B' w v xs := by
  obtain ⟨A, c, hv, h⟩ := h
  exact ⟨A, c, hv, fun h0 => by obtain ⟨ad, ha, h1, hb, hc⟩ := h h0; exact ⟨ad, ha, by omega, hb, hc⟩⟩
theorem RdFN.of_own {xs : List Fl} (h : w.ownsRow B 64 3 v xs.length (flat3 xs)) : RdFN B w v xs := by
  rcases h.2 with ⟨rfl, h0⟩ | ⟨g, cap, cur, rfl, hb, hg, _⟩
  · exact ⟨none, 0, by rw [h0], fun h1 => absurd h1 (by omega)⟩
  · exact ⟨_, _, rfl, fun _ => ⟨_, rfl, hb, lt_of_heap hg, h.cells rfl⟩⟩
/-- A state's value reads as the data m, its rows at B or above. -/
def SVN (B : Nat) (w : World) (v : Value) (m : M) : Prop := ∃ r q i o z y, v = .agg #[r, q, i, .int .i64 m.tk, o, .int .i64 m.pc, z, .int .i64 m.stop, y, .int .i64 m.jp, .int .i64 m.dl] ∧ RdN B .u32 w r m.R ∧ RdN B .u32 w q m.mem ∧ RdN B .u32 w i m.inp ∧ RdN B .u32 w o m.out ∧ RdN B .i64 w z (m.st.map Int.ofNat) ∧ RdFN B w y m.fl
theorem SVN.sv (h : SVN B w v m) : SV w v m := by
  obtain ⟨r, q, i, o, z, y, hv, h1, h2, h3, h4, h5, h6⟩ := h
  exact ⟨r, q, i, o, z, y, hv, h1.rd, h2.rd, h3.rd, h4.rd, h5.rd, h6.rd⟩
theorem SVN.keep (h : SVN B w v m) (hs : w.heap.size ≤ w'.heap.size) (hk : ∀ p : Addr, B ≤ p.block → p.block < w.heap.size → w'.cell? p = w.cell? p) : SVN B w' v m := by
  obtain ⟨r, q, i, o, z, y, hv, h1, h2, h3, h4, h5, h6⟩ := h
  exact ⟨r, q, i, o, z, y, hv, h1.keep hs hk, h2.keep hs hk, h3.keep hs hk, h4.keep hs hk, h5.keep hs hk, h6.keep hs hk⟩
theorem SVN.mono (h : SVN B w v m) (hb : B' ≤ B) : SVN B' w v m := by
  obtain ⟨r, q, i, o, z, y, hv, h1, h2, h3, h4, h5, h6⟩ := h
  exact ⟨r, q, i, o, z, y, hv, h1.mono hb, h2.mono hb, h3.mono hb, h4.mono hb, h5.mono hb, h6.mono hb⟩
theorem SVN.below (h : SVN B w v m) (hb : Below w.heap.size w w') : SVN B w' v m := h.keep hb.size fun _ _ hp => hb.cell hp
theorem SVN.grown (h : SVN B w v m) {g : Nat} (hg : w.grownBy w' (some g)) (hl : g < B) : SVN B w' v m := h.keep hg.size fun p hp hp2 => World.cell?_of_block (hg.block p.block hp2 (by intro e; cases e; omega))
theorem SR.svn {V : Vs} (h : SR B w m V) (hR : m.R.length = 16) (hM : m.mem.length = 256) : SVN B w (.agg (stCells m V)) m := by
  refine ⟨V.r, V.m, V.i m, V.o m, V.s m, V.f m, rfl, ?_, ?_, ?_, ?_, ?_, RdFN.of_own h.hf⟩
  · have := h.hr; rw [← hR] at this; exact RdN.of_own (by rw [← hR] at *; exact this)
  · have := h.hm; rw [← hM] at this; exact RdN.of_own this
  · exact RdN.of_own h.hi
  · exact RdN.of_own h.ho
  · have := h.hs
    rw [ni_eq] at this
    exact RdN.of_own (e := 3) (by rw [List.length_map]; exact this)
end
theorem SV.form {w : World} {v : Value} {m : M} (h : SV w v m) : ∃ cs : Array Value, v = .agg cs ∧ cs.size = 11 ∧ cs.all (·.oneCell') = true := by
  obtain ⟨r, q, i, o, z, y, rfl, a1, a2, a3, a4, a5, a6⟩ := h
  exact ⟨_, rfl, rfl, one11 a1.one a2.one a3.one a4.one a5.one a6.one⟩
theorem results_cell_t {fn : Func} {p a : Tmp} {ty : TypeId} (h : fn.results = #[.cell p ty, .tmp a]) (tmps : Array Value) (P : Program) (w : World) :
    (results fn tmps).run P w = ((asAddr (tmps.getD p undef)).run P w).andThen fun x w₁ => ((loadVar ty x).run P w₁).andThen fun v w₂ => .ok (.tuple #[v, tmps.getD a undef]) w₂ := results_cell_tmp h tmps P w
def RunPost (r : M × Nat) (w : World) (e : Ending) (w' : World) : Prop := ∃ v, e = .returned (.tuple #[v, .int .i64 r.2, .int .i64 0]) ∧ SVN w.heap.size w' v r.1 ∧ Below w.heap.size w w'
def Run2Post (r : M × Nat) (w : World) (e : Ending) (w' : World) : Prop := ∃ v, e = .returned (.tuple #[v, .int .i64 r.2]) ∧ SVN w.heap.size w' v r.1 ∧ Below w.heap.size w w'
def StepPost2 (m : M) (w : World) (e : Ending) (w' : World) : Prop := ∃ v, e = .returned (.tuple #[v, .int .i64 0]) ∧ SVN w.heap.size w' v m ∧ Below w.heap.size w w'
/-- What the loop keeps. -/
def Lp (B p : Nat) (C : List (List In5)) (m0 : M) (n : Nat) (w : World) (i : Nat) (wr : World) : Prop := ∃ m V, Atc C m0 n i m ∧ SA B wr p m V ∧ Below w.heap.size w wr
end Go.Proofs.YtbkikibdnpffpaaGreatDoor
