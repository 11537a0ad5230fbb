/-
  What both runs lean on: so many cycles, cycle by cycle; code as a row, states as values; whole blocks of a state loaded and stored.
  Contracts of package pipe's Run and Cycle, where they run: of code and a state that may be the state behind so many cycles, and how many they were. Conditions: the code and the state read so, and may be; the tables lie in the world; at most 20,000 cycles.
  Contract of the page's Cycles, without looking for hazards: of code and a state that may be the state behind so many cycles, and how many they were. Conditions: the code and the state read so, and may be; at most 20,000 cycles.
-/
import Derived.Test.YtbgmdikcbglpiaaGreatDoorPk
import Derived.Test.YtbgmdikcbglpiaaGreatDoorBq
import Derived.Test.YtbgmdikcbglpiaaGreatDoorPp11
import Derived.Test.YtbgmdikcbglpiaaGreatDoorPq4
import Derived.Deep.LoopGhost
namespace Go.Proofs.YtbgmdikcbglpiaaGreatDoor
open Go.RowKit

section
variable {C : List (List In5)} {m m0 : M} {n i : Nat}
theorem runC_stop (h : m.stop ≠ 0) : runC C n m = (m, 0) := by
  cases n with
  | zero => rfl
  | succ n => unfold runC; rw [if_neg h]
theorem runC_go (h : m.stop = 0) : runC C (n + 1) m = ((runC C n (cyc C m)).1, (runC C n (cyc C m)).2 + 1) := by
  rw [runC, if_pos h]
/-- What a loop over cycles keeps: m stands i cycles behind m0, of n. -/
structure Atc (C : List (List In5)) (m0 : M) (n i : Nat) (m : M) : Prop where
  le : i ≤ n
  run : runC C n m0 = ((runC C (n - i) m).1, (runC C (n - i) m).2 + i)
  ok : Okc m
  out : m.out.length ≤ m0.out.length + 4 * i
theorem Atc.zero (k : Okc m0) : Atc C m0 n 0 m0 := ⟨Nat.zero_le _, rfl, k, Nat.le_refl _⟩
theorem Atc.step (h : Atc C m0 n i m) (v : Vc C) (hb : m0.out.length + 4 * n ≤ 1000000) (hi : i < n) (hs : m.stop = 0) : Atc C m0 n (i + 1) (cyc C m) := by
  have ho := h.out
  have e : n - i = (n - (i + 1)) + 1 := by omega
  have h1 := h.ok.cyc v (by omega) hs
  refine ⟨hi, ?_, h1.1, ?_⟩
  · rw [h.run, e, runC_go hs]
    simp only [Prod.mk.injEq, true_and]
    omega
  · have := h1.2; omega
theorem Atc.full (h : Atc C m0 n n m) : runC C n m0 = (m, n) := by
  rw [h.run, Nat.sub_self]; simp [runC]
theorem Atc.stopped (h : Atc C m0 n i m) (hs : m.stop ≠ 0) : runC C n m0 = (m, i) := by
  rw [h.run, runC_stop hs]; simp
theorem Atc.done (h : Atc C m0 n i m) (hd : n ≤ i ∨ m.stop ≠ 0) : runC C n m0 = (m, i) := by
  rcases hd with h1 | h1
  · have h2 := h.le
    obtain rfl : i = n := by omega
    exact h.full
  · exact h.stopped h1
/-- What a run leads to may be, and its outputs are at most so many more. -/
theorem runC_okc (v : Vc C) (k : Okc m) (hb : m.out.length + 4 * n ≤ 1000000) : Okc (runC C n m).1 ∧ (runC C n m).1.out.length ≤ m.out.length + 4 * n ∧ (runC C n m).2 ≤ n := by
  induction n generalizing m with
  | zero => exact ⟨k, Nat.le_refl _, Nat.le_refl _⟩
  | succ n ih =>
    by_cases hs : m.stop = 0
    · rw [runC_go hs]
      have h1 := k.cyc v (by omega) hs
      have h2 := ih (m := cyc C m) h1.1 (by omega)
      exact ⟨h2.1, by have := h2.2.1; simp only; omega, by have := h2.2.2; simp only; omega⟩
    · rw [runC_stop hs]
      exact ⟨k, by simp only; omega, by simp only; omega⟩
/-- Two runs behind one another are one. -/
theorem runC_add (a b : Nat) (m : M) : runC C (a + b) m = ((runC C b (runC C a m).1).1, (runC C a m).2 + (runC C b (runC C a m).1).2) := by
  induction a generalizing m with
  | zero => simp [runC]
  | succ a ih =>
    by_cases hs : m.stop = 0
    · rw [show a + 1 + b = (a + b) + 1 by omega, runC_go hs, runC_go hs, ih]
      simp only [Prod.mk.injEq, true_and]
      omega
    · rw [runC_stop hs, runC_stop hs]
      simp only
      rw [runC_stop hs]
      rfl
/-- A run that was not stopped has all its cycles. -/
theorem runC_all (n : Nat) (m : M) (h : (runC C n m).1.stop = 0) : (runC C n m).2 = n := by
  induction n generalizing m with
  | zero => rfl
  | succ n ih =>
    by_cases hs : m.stop = 0
    · rw [runC_go hs] at h ⊢
      simp only at h ⊢
      rw [ih _ h]
    · rw [runC_stop hs] at h
      exact absurd h hs
section
variable {w w' : World} {g : Nat} {cs : Array Value} {T T' : TypeId}
theorem bk_row2 (h : BK T' w g cs) (cs' : Array Value) : BK T' (w.setRow g cs') g cs' ∧ w.grownBy (w.setRow g cs') (some g) ∧ (w.setRow g cs').heap.size = w.heap.size := bk_row h cs'
theorem BK.load2 (h : BK T' w g cs) {fs : Array Field} (hu : Tryz.prog.underlying T = some (.struct fs)) {n : Nat} (hi : (Tryz.prog.info? T).map (·.size) = some n) (hs : cs.size = n) : (loadVar T ⟨g, 0, none⟩).run Tryz.prog w = .ok (.agg cs) w :=
  run_loadVar_row w g T' T cs (0, 0) _ h hu rfl (by rw [hs]; exact hi)
theorem wpList_store_bk2 {ops : Array Oper} {rest : List Oper} {op : Oper} {a : Act} {Q : Exit → Act → World → Prop} (hgd : op.guard = none) (x y : Operand) (ho : op.op = .store T x y)
    {n : Nat} (hi : (Tryz.prog.info? T).map (·.size) = some n)
    (g : Nat) (cs cs' : Array Value) (hx : a.eval x = .pointer (some ⟨g, 0, none⟩)) (hy : a.eval y = .agg cs') (hb : BK T' w g cs) (hs : cs.size = n) (hs' : cs'.size = n) (h1 : cs'.all (·.oneCell') = true)
    (h : ∀ w', BK T' w' g cs' → w.grownBy w' (some g) → w'.heap.size = w.heap.size → wpList Tryz.prog ops Q rest (a.put op.dst undef) w') : wpList Tryz.prog ops Q (op :: rest) a w :=
  wpList_plain hgd fun _ hK => by
    obtain ⟨p1, p2, p3⟩ := bk_row hb cs'
    unfold Oper.wp execOp
    simp only [ho, hx, hy, Instr.storeAt, Instr.sureAddr, Sem.run_bind, Sem.run_pure, Result.andThen_ok, run_storeVar_row (P := Tryz.prog) w g T' T cs cs' hb (by rw [hs']; exact hi) (by rw [hs, hs']) h1]
    exact hK _ _ (h _ p1 p2 p3)
theorem wpList_load_bk2 {ops : Array Oper} {rest : List Oper} {op : Oper} {a : Act} {Q : Exit → Act → World → Prop} (hgd : op.guard = none) (x : Operand) (ho : op.op = .load T x)
    {fs : Array Field} (hu : Tryz.prog.underlying T = some (.struct fs)) {n : Nat} (hi : (Tryz.prog.info? T).map (·.size) = some n)
    (g : Nat) (cs : Array Value) (hx : a.eval x = .pointer (some ⟨g, 0, none⟩)) (hb : BK T' w g cs) (hs : cs.size = n)
    (h : wpList Tryz.prog ops Q rest (a.put op.dst (.agg cs)) w) : wpList Tryz.prog ops Q (op :: rest) a w :=
  wpList_plain hgd fun _ hK => by
    unfold Oper.wp execOp
    simp only [ho, hx, Instr.loadAt, Instr.sureAddr, Sem.run_bind, Sem.run_pure, Result.andThen_ok, hb.load2 hu hi hs]
    exact hK _ _ h
end
theorem results_cell_two {fn : Func} {p a b : Tmp} {ty : TypeId} (h : fn.results = #[.cell p ty, .tmp a, .tmp b]) (tmps : Array Value) (P : Program) (w : World) :
    (results fn tmps).run P w = ((asAddr (tmps.getD p undef)).run P w).andThen fun x w₁ => ((loadVar ty x).run P w₁).andThen fun v w₂ => .ok (.tuple #[v, tmps.getD a undef, tmps.getD b undef]) w₂ := by
  simp only [results, h]
  simp [Sem.run_bind, Result.andThen]
/-- A slice that reads as code. -/
def RdC (w : World) (v : Value) (C : List (List In5)) : Prop := ∃ A c, v = .slice A C.length c ∧ Cd w.heap.size w A C
theorem RdC.keep {w w' : World} {v : Value} (h : RdC w v C) (hb : Below w.heap.size w w') : RdC w' v C := by
  obtain ⟨A, c, hv, hc⟩ := h
  exact ⟨A, c, hv, (hc.keep hb).mono hb.size⟩
theorem RdC.raw {w : World} {v : Value} (h : RdC w v C) : RdB w v (C.map bX) := by
  obtain ⟨A, c, hv, hc⟩ := h
  refine ⟨A, c, by rw [List.length_map]; exact hv, fun h0 => ?_⟩
  rw [List.length_map] at h0
  obtain ⟨ad, ha, hl, _⟩ := hc 0 h0
  refine ⟨ad, ha, hl, fun i X hi => ?_⟩
  obtain ⟨b, hb, rfl⟩ := List.mem_map.1 (List.mem_of_getElem? hi)
  rw [List.getElem?_map] at hi
  have hlt : i < C.length := by
    rcases Nat.lt_or_ge i C.length with h1 | h1
    · exact h1
    · rw [List.getElem?_eq_none h1] at hi; cases hi
  obtain ⟨ad2, ha2, _, hx⟩ := hc i hlt
  rw [ha] at ha2
  cases ha2
  rw [List.getElem?_eq_getElem hlt] at hi
  simp only [Option.map_some, Option.some.injEq] at hi
  rw [← hi]
  rw [List.getD_eq_getElem?_getD, List.getElem?_eq_getElem hlt] at hx
  exact hx
theorem szsB_raw (C : List (List In5)) : SzsB (C.map bX) := fun X hX => by
  obtain ⟨b, _, rfl⟩ := List.mem_map.1 hX
  exact fun k _ => Nat.zero_le _
/-- Code that may be, each instruction where its op may stand. -/
structure Vcc (C : List (List In5)) : Prop where
  v : Vc C
  c : cdB (C.map bX) = true
theorem SA.srp {B p : Nat} {w w' : World} {m : M} {V : Vs} (h : SA B w p m V) (hg : w.grownBy w' (some p)) : SR B w' m V :=
  { h with
    hr := keep_row h.hr hg (ap_some (by simp [ob]; exact h.pr)), hm := keep_row h.hm hg (ap_some (by simp [ob]; exact h.pm)), hi := keep_row h.hi hg (ap_some h.pi), ho := keep_row h.ho hg (ap_some h.po), hs := keep_row h.hs hg (ap_some h.ps), hf := keep_row h.hf hg (ap_some h.pf) }
theorem st_size (m : M) (V : Vs) : (stCells m V).size = 11 := rfl
theorem st_one (m : M) (V : Vs) : (stCells m V).all (·.oneCell') = true := by
  have e1 : ∀ x : Int, (Value.int .i64 x).oneCell' = true := fun _ => rfl
  have e2 : ∀ a n c, (Value.slice a n c).oneCell' = true := fun _ _ _ => rfl
  simp [stCells, e1, e2]
/-- A slice that reads as a list of numbers, nil or not, and lies at B or above. -/
def RdN (B : Nat) (k : IntKind) (w : World) (v : Value) (xs : List Int) : Prop :=
  ∃ A c, v = .slice A xs.length c ∧ (0 < xs.length → ∃ ad : Addr, A = some ad ∧ B ≤ ad.block ∧ ad.block < w.heap.size ∧ ∀ j u, (xs.map (Value.int k))[j]? = some u → w.cell? (ad.add j) = some u)
section
variable {B B' : Nat} {k : IntKind} {w w' : World} {v : Value} {xs : List Int} {m : M}
theorem RdN.rd (h : RdN B k w v xs) : Rd k w v xs := by
  obtain ⟨A, c, hv, h⟩ := h
  exact ⟨A, c, hv, fun h0 => by obtain ⟨ad, ha, _, hb, hc⟩ := h h0; exact ⟨ad, ha, hb, hc⟩⟩
theorem RdN.keep (h : RdN B k w v xs) (hs : w.heap.size ≤ w'.heap.size) (hk : ∀ p : Addr, B ≤ p.block → p.block < w.heap.size → w'.cell? p = w.cell? p) : RdN B k w' v xs := by
  obtain ⟨A, c, hv, h⟩ := h
  refine ⟨A, c, hv, fun h0 => ?_⟩
  obtain ⟨ad, ha, h1, hb, hc⟩ := h h0
  exact ⟨ad, ha, h1, by omega, fun j u hu => (hk _ (by rw [block_add]; exact h1) (by rw [block_add]; exact hb)).trans (hc j u hu)⟩
theorem RdN.mono (h : RdN B k w v xs) (hb : B' ≤ B) : RdN B' k w v xs := by
  obtain ⟨A, c, hv, h⟩ := h
  exact ⟨A, c, hv, fun h0 => by obtain ⟨ad, ha, h1, hb, hc⟩ := h h0; exact ⟨ad, ha, by omega, hb, hc⟩⟩
theorem RdN.of_own {e : Nat} (h : w.ownsRow B e 1 v xs.length (xs.map (Value.int k))) : RdN B k w v xs := by
  rcases h.2 with ⟨rfl, h0⟩ | ⟨g, cap, cur, rfl, hb, hg, _⟩
  · exact ⟨none, 0, by rw [h0], fun h1 => absurd h1 (by omega)⟩
  · exact ⟨_, _, rfl, fun _ => ⟨_, rfl, hb, lt_of_heap hg, h.cells rfl⟩⟩
/-- A slice that reads as a list of results, nil or not, and lies at B or above. -/
def RdFN (B : Nat) (w : World) (v : Value) (xs : List Fl) : Prop :=
  ∃ A c, v = .slice A xs.length c ∧ (0 < xs.length → ∃ ad : Addr, A = some ad ∧ B ≤ ad.block ∧ ad.block < w.heap.size ∧ ∀ j u, (flat3 xs)[j]? = some u → w.cell? (ad.add j) = some u)
theorem RdFN.rd {xs : List Fl} (h : RdFN B w v xs) : RdF w v xs := by
  obtain ⟨A, c, hv, h⟩ := h
  exact ⟨A, c, hv, fun h0 => by obtain ⟨ad, ha, _, hb, hc⟩ := h h0; exact ⟨ad, ha, hb, hc⟩⟩
theorem RdFN.keep {xs : List Fl} (h : RdFN B w v xs) (hs : w.heap.size ≤ w'.heap.size) (hk : ∀ p : Addr, B ≤ p.block → p.block < w.heap.size → w'.cell? p = w.cell? p) : RdFN B w' v xs := by
  obtain ⟨A, c, hv, h⟩ := h
  refine ⟨A, c, hv, fun h0 => ?_⟩
  obtain ⟨ad, ha, h1, hb, hc⟩ := h h0
  exact ⟨ad, ha, h1, by omega, fun j u hu => (hk _ (by rw [block_add]; exact h1) (by rw [block_add]; exact hb)).trans (hc j u hu)⟩
theorem RdFN.mono {xs : List Fl} (h : RdFN B w v xs) (hb : B' ≤ B) : RdFN B' w v xs := by
  obtain ⟨A, c, hv, h⟩ := h
  exact ⟨A, c, hv, fun h0 => by obtain ⟨ad, ha, h1, hb, hc⟩ := h h0; exact ⟨ad, ha, by omega, hb, hc⟩⟩
theorem RdFN.of_own {xs : List Fl} (h : w.ownsRow B 71 3 v xs.length (flat3 xs)) : RdFN B w v xs := by
  rcases h.2 with ⟨rfl, h0⟩ | ⟨g, cap, cur, rfl, hb, hg, _⟩
  · exact ⟨none, 0, by rw [h0], fun h1 => absurd h1 (by omega)⟩
  · exact ⟨_, _, rfl, fun _ => ⟨_, rfl, hb, lt_of_heap hg, h.cells rfl⟩⟩
/-- A state's value reads as the data m, its rows at B or above. -/
def SVN (B : Nat) (w : World) (v : Value) (m : M) : Prop := ∃ r q i o z y, v = .agg #[r, q, i, .int .i64 m.tk, o, .int .i64 m.pc, z, .int .i64 m.stop, y, .int .i64 m.jp, .int .i64 m.dl] ∧ RdN B .u32 w r m.R ∧ RdN B .u32 w q m.mem ∧ RdN B .u32 w i m.inp ∧ RdN B .u32 w o m.out ∧ RdN B .i64 w z (m.st.map Int.ofNat) ∧ RdFN B w y m.fl
theorem SVN.sv (h : SVN B w v m) : SV w v m := by
  obtain ⟨r, q, i, o, z, y, hv, h1, h2, h3, h4, h5, h6⟩ := h
  exact ⟨r, q, i, o, z, y, hv, h1.rd, h2.rd, h3.rd, h4.rd, h5.rd, h6.rd⟩
theorem SVN.keep (h : SVN B w v m) (hs : w.heap.size ≤ w'.heap.size) (hk : ∀ p : Addr, B ≤ p.block → p.block < w.heap.size → w'.cell? p = w.cell? p) : SVN B w' v m := by
  obtain ⟨r, q, i, o, z, y, hv, h1, h2, h3, h4, h5, h6⟩ := h
  exact ⟨r, q, i, o, z, y, hv, h1.keep hs hk, h2.keep hs hk, h3.keep hs hk, h4.keep hs hk, h5.keep hs hk, h6.keep hs hk⟩
theorem SVN.mono (h : SVN B w v m) (hb : B' ≤ B) : SVN B' w v m := by
  obtain ⟨r, q, i, o, z, y, hv, h1, h2, h3, h4, h5, h6⟩ := h
  exact ⟨r, q, i, o, z, y, hv, h1.mono hb, h2.mono hb, h3.mono hb, h4.mono hb, h5.mono hb, h6.mono hb⟩
theorem SVN.below (h : SVN B w v m) (hb : Below w.heap.size w w') : SVN B w' v m := h.keep hb.size fun _ _ hp => hb.cell hp
theorem SVN.grown (h : SVN B w v m) {g : Nat} (hg : w.grownBy w' (some g)) (hl : g < B) : SVN B w' v m := h.keep hg.size fun p hp hp2 => World.cell?_of_block (hg.block p.block hp2 (by intro e; cases e; omega))
theorem SR.svn {V : Vs} (h : SR B w m V) (hR : m.R.length = 16) (hM : m.mem.length = 256) : SVN B w (.agg (stCells m V)) m := by
  refine ⟨V.r, V.m, V.i m, V.o m, V.s m, V.f m, rfl, ?_, ?_, ?_, ?_, ?_, RdFN.of_own h.hf⟩
  · have := h.hr; rw [← hR] at this; exact RdN.of_own (by rw [← hR] at *; exact this)
  · have := h.hm; rw [← hM] at this; exact RdN.of_own this
  · exact RdN.of_own h.hi
  · exact RdN.of_own h.ho
  · have := h.hs
    rw [ni_eq] at this
    exact RdN.of_own (e := 3) (by rw [List.length_map]; exact this)
end
theorem SV.form {w : World} {v : Value} {m : M} (h : SV w v m) : ∃ cs : Array Value, v = .agg cs ∧ cs.size = 11 ∧ cs.all (·.oneCell') = true := by
  obtain ⟨r, q, i, o, z, y, rfl, a1, a2, a3, a4, a5, a6⟩ := h
  exact ⟨_, rfl, rfl, one11 a1.one a2.one a3.one a4.one a5.one a6.one⟩
theorem results_cell_t {fn : Func} {p a : Tmp} {ty : TypeId} (h : fn.results = #[.cell p ty, .tmp a]) (tmps : Array Value) (P : Program) (w : World) :
    (results fn tmps).run P w = ((asAddr (tmps.getD p undef)).run P w).andThen fun x w₁ => ((loadVar ty x).run P w₁).andThen fun v w₂ => .ok (.tuple #[v, tmps.getD a undef]) w₂ := results_cell_tmp h tmps P w
def RunPost (r : M × Nat) (w : World) (e : Ending) (w' : World) : Prop := ∃ v, e = .returned (.tuple #[v, .int .i64 r.2, .int .i64 0]) ∧ SVN w.heap.size w' v r.1 ∧ Below w.heap.size w w'
def Run2Post (r : M × Nat) (w : World) (e : Ending) (w' : World) : Prop := ∃ v, e = .returned (.tuple #[v, .int .i64 r.2]) ∧ SVN w.heap.size w' v r.1 ∧ Below w.heap.size w w'
def StepPost2 (m : M) (w : World) (e : Ending) (w' : World) : Prop := ∃ v, e = .returned (.tuple #[v, .int .i64 0]) ∧ SVN w.heap.size w' v m ∧ Below w.heap.size w w'
/-- What the loop keeps. -/
def Lp (B p : Nat) (C : List (List In5)) (m0 : M) (n : Nat) (w : World) (i : Nat) (wr : World) : Prop := ∃ m V, Atc C m0 n i m ∧ SA B wr p m V ∧ Below w.heap.size w wr
end
section
set_option maxRecDepth 20000 in
set_option maxHeartbeats 4000000 in
theorem run_ok (C : List (List In5)) (m : M) (pv sv : Value) (n : Int) (w : World) (hp : RdC w pv C) (vc : Vcc C) (h : SV w sv m) (k : Okc m) (T : Tab w) (h0 : 0 ≤ n) (h1 : n ≤ 20000) (ho : m.out.length + 4 * n.toNat ≤ 1000000) :
    Calls Tryz.prog 15 #[pv, sv, .int .i64 n] w (RunPost (runC C n.toNat m) w) := by
  obtain ⟨N, rfl⟩ : ∃ N : Nat, n = N := ⟨n.toNat, by omega⟩
  rw [show ((N : Nat) : Int).toNat = N by omega] at ho ⊢
  have v := vc.v
  have CP := Lib.hid (fun W (hb : Below w.heap.size w W) => show Calls Tryz.prog 47 #[pv] W (BoolBelow true W) from by have := isCode_any (C.map bX) pv W (hp.keep hb).raw (szsB_raw C) (T.below hb); rw [vc.c] at this; exact this)
  have CC := Lib.hid (fun W (hb : Below w.heap.size w W) => copyOf_any m sv W (h.below hb) k.ok)
  have CK := Lib.hid (fun W (hb : Below w.heap.size w W) => pcheck_ok m sv W (h.below hb) k)
  obtain ⟨A, c, rfl, hprg⟩ := hp
  have hb1 := T.big
  have SP := Lib.hid (fun B p m V W (hb : Below w.heap.size w W) (hB : w.heap.size ≤ B) (h : SA B W p m V) (k : Okc m) (ho : m.out.length + 4 ≤ 1000000) (hs : m.stop = 0) => cycle_any B p A c C m V W h k v (T.below hb) (by omega) ((hprg.keep hb).mono hB) ho hs)
  have VP := Lib.hid v
  have KK := Lib.hid k
  have HO := Lib.hid ho
  obtain ⟨r, q, i, o, z, y, rfl, a1, a2, a3, a4, a5, a6⟩ := h
  have O1 := Lib.hid (one11 (a := m.tk) (b := m.pc) (s := m.stop) (j := m.jp) (d := m.dl) a1.one a2.one a3.one a4.one a5.one a6.one)
  have t1 : decide ((N : Int) < 0) = false := by simp
  have t2 : decide (20000 < (N : Int)) = false := by simp; omega
  clear a1 a2 a3 a4 a5 a6 hprg T k v vc ho hb1
  generalize hPl : C.length = pl at *
  clear hPl
  have X0 := Lib.hid (show BK 27 ((w.alloc (.cells #[r, q, i, .int .i64 m.tk, o, .int .i64 m.pc, z, .int .i64 m.stop, y, .int .i64 m.jp, .int .i64 m.dl] 27)).alloc (.cells ZS 27)) w.heap.size #[r, q, i, .int .i64 m.tk, o, .int .i64 m.pc, z, .int .i64 m.stop, y, .int .i64 m.jp, .int .i64 m.dl] from BK.alloc (heap_alloc_new w _) _)
  have Y0 := Lib.hid (show BK 27 ((w.alloc (.cells #[r, q, i, .int .i64 m.tk, o, .int .i64 m.pc, z, .int .i64 m.stop, y, .int .i64 m.jp, .int .i64 m.dl] 27)).alloc (.cells ZS 27)) (w.heap.size + 1) ZS from by have h := heap_alloc_new (w.alloc (.cells #[r, q, i, .int .i64 m.tk, o, .int .i64 m.pc, z, .int .i64 m.stop, y, .int .i64 m.jp, .int .i64 m.dl] 27)) (.cells ZS 27); simpa [BK] using h)
  have G0 := Lib.hid (below_two w (.cells #[r, q, i, .int .i64 m.tk, o, .int .i64 m.pc, z, .int .i64 m.stop, y, .int .i64 m.jp, .int .i64 m.dl] 27) (.cells ZS 27))
  go_enter Tryz.func15, Tryz.ntmps15
  go_wp2_with fail
  refine (CP.out _ G0.out).mono ?_
  rintro e w1 ⟨rfl, b1⟩
  have X1 := Lib.hid (X0.out.below b1)
  have Y1 := Lib.hid (Y0.out.below b1)
  have G1 := Lib.hid (G0.out.trans (b1.mono (by simp; omega)))
  have T1 := Lib.hid (show w.heap.size + 2 ≤ w1.heap.size by have := b1.size; simp at this; omega)
  obtain ⟨q0, q1, q2, q3, q4, q5, q6, q7, q8, q9, q10⟩ := X1.out.c11
  have hl1 := X1.out.lt
  clear b1
  go_wp2_with fail
  refine (CK.out _ G1.out).mono ?_
  rintro e w2 ⟨rfl, b2⟩
  have X2 := Lib.hid (X1.out.below b2)
  have Y2 := Lib.hid (Y1.out.below b2)
  have G2 := Lib.hid (G1.out.trans (b2.mono (by have := T1.out; omega)))
  have T2 := Lib.hid (show w.heap.size + 2 ≤ w2.heap.size by have := b2.size; have := T1.out; omega)
  clear b2 q0 q1 q2 q3 q4 q5 q6 q7 q8 q9 q10 hl1
  obtain ⟨q0, q1, q2, q3, q4, q5, q6, q7, q8, q9, q10⟩ := X2.out.c11
  have hl1 := X2.out.lt
  go_wp2_with fail
  refine (CC.out _ G2.out).mono ?_
  rintro e w3 ⟨V, rfl, s3, b3⟩
  have Y3 := Lib.hid (Y2.out.below b3)
  have G3 := Lib.hid (G2.out.trans (b3.mono (by have := T2.out; omega)))
  have S3 := Lib.hid s3
  have T3 := Lib.hid (show w.heap.size + 2 ≤ w3.heap.size by have := b3.size; have := T2.out; omega)
  clear b3 s3 q0 q1 q2 q3 q4 q5 q6 q7 q8 q9 q10 hl1
  go_wp2_with (((with_reducible refine wpList_store_bk (T := 27) (op := ⟨none, .store 27 _ _, _, _, _, none⟩) rfl _ _ rfl Tryz.size27 (w.heap.size + 1) ZS (stCells m V) ?sx ?sy ?sb ?s1 ?s2 ?s3 ?_); (case sx => rfl); (case sy => rfl); (case s1 => rfl); (case s2 => rfl); (case s3 => exact st_one m V)))
  case sb => exact Y3.out
  intro w4 hbl hg hsz
  have L4 := Lib.hid (show Lp (w.heap.size + 1) (w.heap.size + 1) C m N w 0 w4 from ⟨m, V, Atc.zero KK.out, (S3.out.grown hg (by intro k hk; cases hk; have := T2.out; omega)).sa hbl (by have := T2.out; omega) (Nat.le_refl _), gb_below (B := w.heap.size) hg (by omega) (by have := T3.out; omega) |> G3.out.trans⟩)
  clear hbl hg hsz
  go_wp2_with fail
  go_loopg [7] N (fun gk dn wr2 => ∃ i : Nat, i ≤ N ∧ gk = N - i ∧ dn = .int .i64 i ∧ Lp (w.heap.size + 1) (w.heap.size + 1) C m N w i wr2)
  case atStart => exact ⟨0, by omega, rfl, rfl, L4.out⟩
  case round =>
    clear L4
    obtain ⟨i, hi, rfl, rfl, hlp⟩ := hrel
    obtain ⟨m1, V1, at1, sa1, bl1⟩ := hlp
    have AT := Lib.hid at1
    have SA1 := Lib.hid sa1
    have BL := Lib.hid bl1
    have k7 : wr.cell? ⟨w.heap.size + 1, 7, none⟩ = some (.int .i64 m1.stop) := sa1.cell 7
    have hlw := sa1.lt
    clear at1 sa1 bl1
    by_cases hlt : i < N
    · have hd : decide ((i : Int) < (N : Int)) = true := by simpa using hlt
      by_cases hs : m1.stop = 0
      · have hz : (m1.stop == 0) = true := by simpa using hs
        have HS := Lib.hid hs
        clear hs
        go_wp2_with (go_at_call 49; refine (SP.out (w.heap.size + 1) (w.heap.size + 1) m1 V1 _ BL.out (by omega) SA1.out AT.out.ok (by have := AT.out.out; have := HO.out; omega) HS.out).mono ?_; rintro e w5 ⟨rfl, ⟨V2, sa2⟩, b5⟩; have SA2 := Lib.hid sa2; have B5 := Lib.hid (BL.out.trans (b5.mono (by omega))); clear sa2 b5)
        go_roundg (N - (i + 1))
        case measure => omega
        case rel => exact ⟨i + 1, by omega, rfl, by go_num, cyc C m1, V2, AT.out.step VP.out HO.out hlt HS.out, SA2.out, B5.out⟩
      · have hz : (m1.stop == 0) = false := by simpa using hs
        have DN := Lib.hid (AT.out.done (.inr hs))
        clear hs
        as_aux_lemma =>
        obtain ⟨TB, hbk⟩ := SA1.out.bk
        have BK1 := Lib.hid (show BK TB wr (w.heap.size + 1) (stCells m1 V1) from hbk)
        clear hbk
        go_wp2_with (first | ((with_reducible refine wpList_load_bk2 (T := 27) (T' := TB) (op := ⟨some 40, .load 27 _, _, _, _, none⟩) rfl _ rfl Tryz.underlying27 Tryz.size27 (w.heap.size + 1) (stCells m1 V1) ?lx ?lb ?l1 ?_); (case lx => rfl); (case l1 => rfl); (case lb => exact BK1.out)) | ((with_reducible refine wpList_store_bk2 (T := 27) (T' := TB) (op := ⟨none, .store 27 _ _, _, _, _, none⟩) rfl _ _ rfl Tryz.size27 (w.heap.size + 1) (stCells m1 V1) (stCells m1 V1) ?sx ?sy ?sb ?s1 ?s2 ?s3 ?_); (case sx => rfl); (case sy => rfl); (case s1 => rfl); (case s2 => rfl); (case s3 => exact st_one m1 V1); (case sb => exact BK1.out)))
        intro w9 hbl hg hsz
        have LD := Lib.hid (hbl.load2 Tryz.underlying27 Tryz.size27 rfl)
        have SVF := Lib.hid ((SA1.out.srp hg).svn AT.out.ok.ok.R AT.out.ok.ok.mem |>.mono (Nat.le_succ _))
        have BF := Lib.hid (BL.out.trans (gb_below (B := w.heap.size) hg (by omega) (by have := BL.out.size; omega)))
        clear hbl hg hsz
        go_wp2_with fail
        refine bodyPost_ret (v := .tuple #[.agg (stCells m1 V1), .int .i64 i, .int .i64 0]) ?_ rfl ⟨_, by rw [DN.out], by rw [DN.out]; exact SVF.out, BF.out⟩
        rw [results_cell_two Tryz.results15]
        simp [asAddr, Result.andThen, LD.out]
    · have hd : decide ((i : Int) < (N : Int)) = false := by simp; omega
      have DN := Lib.hid (AT.out.done (.inl (by omega)))
      as_aux_lemma =>
      obtain ⟨TB, hbk⟩ := SA1.out.bk
      have BK1 := Lib.hid (show BK TB wr (w.heap.size + 1) (stCells m1 V1) from hbk)
      clear hbk
      go_wp2_with (first | ((with_reducible refine wpList_load_bk2 (T := 27) (T' := TB) (op := ⟨some 40, .load 27 _, _, _, _, none⟩) rfl _ rfl Tryz.underlying27 Tryz.size27 (w.heap.size + 1) (stCells m1 V1) ?lx ?lb ?l1 ?_); (case lx => rfl); (case l1 => rfl); (case lb => exact BK1.out)) | ((with_reducible refine wpList_store_bk2 (T := 27) (T' := TB) (op := ⟨none, .store 27 _ _, _, _, _, none⟩) rfl _ _ rfl Tryz.size27 (w.heap.size + 1) (stCells m1 V1) (stCells m1 V1) ?sx ?sy ?sb ?s1 ?s2 ?s3 ?_); (case sx => rfl); (case sy => rfl); (case s1 => rfl); (case s2 => rfl); (case s3 => exact st_one m1 V1); (case sb => exact BK1.out)))
      intro w9 hbl hg hsz
      have LD := Lib.hid (hbl.load2 Tryz.underlying27 Tryz.size27 rfl)
      have SVF := Lib.hid ((SA1.out.srp hg).svn AT.out.ok.ok.R AT.out.ok.ok.mem |>.mono (Nat.le_succ _))
      have BF := Lib.hid (BL.out.trans (gb_below (B := w.heap.size) hg (by omega) (by have := BL.out.size; omega)))
      clear hbl hg hsz
      go_wp2_with fail
      refine bodyPost_ret (v := .tuple #[.agg (stCells m1 V1), .int .i64 i, .int .i64 0]) ?_ rfl ⟨_, by rw [DN.out], by rw [DN.out]; exact SVF.out, BF.out⟩
      rw [results_cell_two Tryz.results15]
      simp [asAddr, Result.andThen, LD.out]
set_option maxRecDepth 20000 in
set_option maxHeartbeats 4000000 in
theorem cycle_ok (C : List (List In5)) (m : M) (pv sv : Value) (w : World) (hp : RdC w pv C) (vc : Vcc C) (h : SV w sv m) (k : Okc m) (T : Tab w) (ho : m.out.length + 4 ≤ 1000000) :
    Calls Tryz.prog 21 #[pv, sv] w (StepPost2 (runC C 1 m).1 w) := by
  have RN := Lib.hid (fun W (hb : Below w.heap.size w W) => run_ok C m pv sv 1 W (hp.keep hb) vc (h.below hb) k (T.below hb) (by omega) (by omega) (by simpa using ho))
  obtain ⟨A, c, rfl, _⟩ := hp
  obtain ⟨r, q, i, o, z, y, rfl, a1, a2, a3, a4, a5, a6⟩ := h
  clear a1 a2 a3 a4 a5 a6 T k vc ho
  generalize C.length = pl at *
  have X0 := Lib.hid (show BK 27 ((w.alloc (.cells #[r, q, i, .int .i64 m.tk, o, .int .i64 m.pc, z, .int .i64 m.stop, y, .int .i64 m.jp, .int .i64 m.dl] 27)).alloc (.cells ZS 27)) w.heap.size #[r, q, i, .int .i64 m.tk, o, .int .i64 m.pc, z, .int .i64 m.stop, y, .int .i64 m.jp, .int .i64 m.dl] from BK.alloc (heap_alloc_new w _) _)
  have Y0 := Lib.hid (show BK 27 ((w.alloc (.cells #[r, q, i, .int .i64 m.tk, o, .int .i64 m.pc, z, .int .i64 m.stop, y, .int .i64 m.jp, .int .i64 m.dl] 27)).alloc (.cells ZS 27)) (w.heap.size + 1) ZS from by have h := heap_alloc_new (w.alloc (.cells #[r, q, i, .int .i64 m.tk, o, .int .i64 m.pc, z, .int .i64 m.stop, y, .int .i64 m.jp, .int .i64 m.dl] 27)) (.cells ZS 27); simpa [BK] using h)
  have G0 := Lib.hid (below_two w (.cells #[r, q, i, .int .i64 m.tk, o, .int .i64 m.pc, z, .int .i64 m.stop, y, .int .i64 m.jp, .int .i64 m.dl] 27) (.cells ZS 27))
  go_enter Tryz.func21, Tryz.ntmps21
  go_wp2_with fail
  refine (RN.out _ G0.out).mono ?_
  rintro e w1 ⟨v1, rfl, s1, b1⟩
  have Y1 := Lib.hid (Y0.out.below b1)
  have T1 := Lib.hid (show w.heap.size + 2 ≤ w1.heap.size by have := b1.size; simp at this; omega)
  have G1 := Lib.hid (G0.out.trans (b1.mono (by simp; omega)))
  have S1 := Lib.hid s1
  obtain ⟨cs, rfl, hcs, hone⟩ := s1.sv.form
  have CZ := Lib.hid hcs
  have CO := Lib.hid hone
  clear s1 hcs hone b1
  go_wp2_with (((with_reducible refine wpList_store_bk (T := 27) (op := ⟨none, .store 27 _ _, _, _, _, none⟩) rfl _ _ rfl Tryz.size27 w1.heap.size ZS cs ?sx ?sy ?sb ?s1 ?s2 ?s3 ?_); (case sx => rfl); (case sy => rfl); (case s1 => rfl); (case s2 => exact CZ.out); (case s3 => exact CO.out); (case sb => exact heap_alloc_new w1 _)))
  intro w2 hbl hg hsz
  have X2 := Lib.hid hbl
  have Y2 := Lib.hid ((Y1.out.alloc (.cells ZS 27)).grown hg (by intro h; injection h; have := T1.out; omega))
  have BL2 := (below_new w1 (.cells ZS 27)).grown hg (by simp) (by intro k hk; cases hk; omega)
  have S2 := Lib.hid (S1.out.below BL2)
  have G2 := Lib.hid (G1.out.trans (BL2.mono (by have := T1.out; omega)))
  have T2 := Lib.hid (show w1.heap.size + 1 = w2.heap.size by rw [hsz])
  clear hbl hg hsz BL2
  go_wp2_with (first | ((with_reducible refine wpList_load_bk (T := 27) (op := ⟨some 16, .load 27 _, _, _, _, none⟩) rfl _ rfl Tryz.underlying27 Tryz.size27 w1.heap.size cs ?lx ?lb ?l1 ?_); (case lx => rfl); (case l1 => exact CZ.out); (case lb => exact X2.out)) | ((with_reducible refine wpList_store_bk (T := 27) (op := ⟨none, .store 27 _ _, _, _, _, none⟩) rfl _ _ rfl Tryz.size27 (w.heap.size + 1) ZS cs ?tx ?ty ?tb ?t1 ?t2 ?t3 ?_); (case tx => rfl); (case ty => rfl); (case t1 => rfl); (case t2 => exact CZ.out); (case t3 => exact CO.out); (case tb => exact Y2.out)))
  intro w9 hbl hg hsz
  have LD := Lib.hid (hbl.load Tryz.underlying27 Tryz.size27 CZ.out)
  have BL9 := gb_below (B := w.heap.size) hg (by omega) (by have := T1.out; have := T2.out; omega)
  have SF := Lib.hid (show SVN w.heap.size w9 (.agg cs) _ from (S2.out.grown hg (by simp)).mono (by simp; omega))
  have BF := Lib.hid (G2.out.trans BL9)
  clear hbl hg hsz BL9
  go_wp2_with fail
  refine bodyPost_ret (v := .tuple #[.agg cs, .int .i64 0]) ?_ rfl ⟨_, rfl, SF.out, BF.out⟩
  rw [results_cell_t Tryz.results21]
  simp [asAddr, Result.andThen, LD.out]
end
section
theorem svz {B p g : Nat} {w w' : World} {m : M} {V : Vs} {cs : Array Value} (h : SA B w p m V) (hb : BK 27 w g cs) (hg : w.grownBy w' (some g)) (k : Ok m) : SVN B w' (.agg (stCells m V)) m := by
  have hr : SR B w' m V := { h with
    hr := keep_row h.hr hg (ap_some (row_ne27 h.hr hb (by decide))), hm := keep_row h.hm hg (ap_some (row_ne27 h.hm hb (by decide))), hi := keep_row h.hi hg (ap_some (row_ne27 h.hi hb (by decide))), ho := keep_row h.ho hg (ap_some (row_ne27 h.ho hb (by decide))), hs := keep_row h.hs hg (ap_some (row_ne27 h.hs hb (by decide))), hf := keep_row h.hf hg (ap_some (row_ne27 h.hf hb (by decide))) }
  exact hr.svn k.R k.mem
set_option maxRecDepth 20000 in
set_option maxHeartbeats 4000000 in
theorem cycles_ok (C : List (List In5)) (m : M) (pv sv : Value) (n : Int) (w : World) (hp : RdC w pv C) (v : Vc C) (h : SV w sv m) (k : Okc m) (h0 : 0 ≤ n) (h1 : n ≤ 20000) (ho : m.out.length + 4 * n.toNat ≤ 1000000) :
    Calls Tryz.prog 18 #[pv, sv, .int .i64 n, .bool false] w (Run2Post (runC C n.toNat m) w) := by
  obtain ⟨N, rfl⟩ : ∃ N : Nat, n = N := ⟨n.toNat, by omega⟩
  rw [show ((N : Nat) : Int).toNat = N by omega] at ho ⊢
  have CC := Lib.hid (fun W (hb : Below w.heap.size w W) => copyState_any m sv W (h.below hb) k.ok)
  obtain ⟨A, c, rfl, hprg⟩ := hp
  have LP := Lib.hid (fun B p m V W (h : SA B W p m V) (k : Okc m) => lands_pg B p m V W h k.ok)
  have SP := Lib.hid (fun B p m V W (hb : Below w.heap.size w W) (hB : w.heap.size ≤ B) (h : SA B W p (land m) V) (k : Okc m) (ho : m.out.length + 4 ≤ 1000000) (hs : m.stop = 0) => issue_pg B p A c C m V W h k v ((hprg.keep hb).mono hB) ho hs)
  have VP := Lib.hid v
  have KK := Lib.hid k
  have HO := Lib.hid ho
  obtain ⟨r, q, i, o, z, y, rfl, a1, a2, a3, a4, a5, a6⟩ := h
  clear a1 a2 a3 a4 a5 a6 hprg v ho k
  generalize hPl : C.length = pl at *
  clear hPl
  have X0 := Lib.hid (show BK 27 ((w.alloc (.cells #[r, q, i, .int .i64 m.tk, o, .int .i64 m.pc, z, .int .i64 m.stop, y, .int .i64 m.jp, .int .i64 m.dl] 27)).alloc (.cells ZS 27)) w.heap.size #[r, q, i, .int .i64 m.tk, o, .int .i64 m.pc, z, .int .i64 m.stop, y, .int .i64 m.jp, .int .i64 m.dl] from BK.alloc (heap_alloc_new w _) _)
  have Y0 := Lib.hid (show BK 27 ((w.alloc (.cells #[r, q, i, .int .i64 m.tk, o, .int .i64 m.pc, z, .int .i64 m.stop, y, .int .i64 m.jp, .int .i64 m.dl] 27)).alloc (.cells ZS 27)) (w.heap.size + 1) ZS from by have h := heap_alloc_new (w.alloc (.cells #[r, q, i, .int .i64 m.tk, o, .int .i64 m.pc, z, .int .i64 m.stop, y, .int .i64 m.jp, .int .i64 m.dl] 27)) (.cells ZS 27); simpa [BK] using h)
  have G0 := Lib.hid (below_two w (.cells #[r, q, i, .int .i64 m.tk, o, .int .i64 m.pc, z, .int .i64 m.stop, y, .int .i64 m.jp, .int .i64 m.dl] 27) (.cells ZS 27))
  go_enter Tryz.func18, Tryz.ntmps18
  go_wp2_with fail
  refine (CC.out _ G0.out).mono ?_
  rintro e w3 ⟨V, rfl, s3, b3⟩
  have X3 := Lib.hid (X0.out.below b3)
  have Y3 := Lib.hid (Y0.out.below b3)
  have G3 := Lib.hid (G0.out.trans (b3.mono (by simp; omega)))
  have S3 := Lib.hid (show SR (w.heap.size + 2) w3 m V by simpa using s3)
  have T3 := Lib.hid (show w.heap.size + 2 ≤ w3.heap.size by have := b3.size; simp at this; omega)
  clear b3 s3
  go_wp2_with (((with_reducible refine wpList_store_bk (T := 27) (op := ⟨none, .store 27 _ _, _, _, _, none⟩) rfl _ _ rfl Tryz.size27 w.heap.size #[r, q, i, .int .i64 m.tk, o, .int .i64 m.pc, z, .int .i64 m.stop, y, .int .i64 m.jp, .int .i64 m.dl] (stCells m V) ?sx ?sy ?sb ?s1 ?s2 ?s3 ?_); (case sx => rfl); (case sy => rfl); (case s1 => rfl); (case s2 => rfl); (case s3 => exact st_one m V)))
  case sb => exact X3.out
  intro w4 hbl hg hsz
  have Y4 := Lib.hid (Y3.out.grown hg (by simp))
  have L4 := Lib.hid (show Lp w.heap.size w.heap.size C m N w 0 w4 ∧ BK 27 w4 (w.heap.size + 1) ZS from ⟨⟨m, V, Atc.zero KK.out, (S3.out.grown hg (by intro k hk; cases hk; omega)).sa hbl (by omega) (Nat.le_refl _), gb_below (B := w.heap.size) hg (by omega) (by have := T3.out; omega) |> G3.out.trans⟩, Y4.out⟩)
  clear hbl hg hsz
  go_wp2_with fail
  go_loopg [10] N (fun gk dn wr2 => ∃ i : Nat, i ≤ N ∧ gk = N - i ∧ dn = .int .i64 i ∧ Lp w.heap.size w.heap.size C m N w i wr2 ∧ BK 27 wr2 (w.heap.size + 1) ZS)
  case atStart => exact ⟨0, by omega, rfl, rfl, L4.out.1, L4.out.2⟩
  case round =>
    clear L4
    obtain ⟨i, hi, rfl, rfl, hlp, hbq⟩ := hrel
    have YQ := Lib.hid hbq
    clear hbq
    obtain ⟨m1, V1, at1, sa1, bl1⟩ := hlp
    have AT := Lib.hid at1
    have SA1 := Lib.hid sa1
    have BL := Lib.hid bl1
    have k7 : wr.cell? ⟨w.heap.size, 7, none⟩ = some (.int .i64 m1.stop) := sa1.cell 7
    have hlw := sa1.lt
    clear at1 sa1 bl1
    by_cases hlt : i < N
    · have hd : decide ((i : Int) < (N : Int)) = true := by simpa using hlt
      by_cases hs : m1.stop = 0
      · have hz : (m1.stop == 0) = true := by simpa using hs
        have HS := Lib.hid hs
        clear hs
        go_wp2_with (go_at_call 51; refine (LP.out w.heap.size w.heap.size m1 V1 _ SA1.out AT.out.ok).mono ?_; rintro e w5 ⟨rfl, ⟨⟨V2, sa2⟩, b5⟩, kq⟩; have SA2 := Lib.hid sa2; have B5 := Lib.hid (BL.out.trans b5); have Z5 := Lib.hid (show BK 27 w5 (w.heap.size + 1) ZS from kq _ _ (by omega) YQ.out); clear sa2 b5 kq)
        refine (SP.out w.heap.size w.heap.size m1 V2 _ B5.out (by omega) SA2.out AT.out.ok (by have := AT.out.out; have := HO.out; omega) HS.out).mono ?_
        rintro e w6 ⟨rfl, ⟨⟨V3, sa3⟩, b6⟩, kq⟩
        have SA3 := Lib.hid sa3
        have B6 := Lib.hid (B5.out.trans b6)
        have Z6 := Lib.hid (show BK 27 w6 (w.heap.size + 1) ZS from kq _ _ (by omega) Z5.out)
        clear sa3 b6 kq
        go_wp2_with fail
        go_roundg (N - (i + 1))
        case measure => omega
        case rel => exact ⟨i + 1, by omega, rfl, by go_num, ⟨cyc C m1, V3, AT.out.step VP.out HO.out hlt HS.out, SA3.out, B6.out⟩, Z6.out⟩
      · have hz : (m1.stop == 0) = false := by simpa using hs
        have DN := Lib.hid (AT.out.done (.inr hs))
        clear hs
        as_aux_lemma =>
        obtain ⟨TB, hbk⟩ := SA1.out.bk
        have BK1 := Lib.hid (show BK TB wr w.heap.size (stCells m1 V1) from hbk)
        clear hbk
        go_wp2_with (first | ((with_reducible refine wpList_load_bk2 (T := 27) (T' := TB) (op := ⟨some 34, .load 27 _, _, _, _, none⟩) rfl _ rfl Tryz.underlying27 Tryz.size27 w.heap.size (stCells m1 V1) ?lx ?lb ?l1 ?_); (case lx => rfl); (case l1 => rfl); (case lb => exact BK1.out)) | ((with_reducible refine wpList_store_bk (T := 27) (op := ⟨none, .store 27 _ _, _, _, _, none⟩) rfl _ _ rfl Tryz.size27 (w.heap.size + 1) ZS (stCells m1 V1) ?sx ?sy ?sb ?s1 ?s2 ?s3 ?_); (case sx => rfl); (case sy => rfl); (case s1 => rfl); (case s2 => rfl); (case s3 => exact st_one m1 V1); (case sb => exact YQ.out)))
        intro w9 hbl hg hsz
        have LD := Lib.hid (hbl.load Tryz.underlying27 Tryz.size27 rfl)
        have SVF := Lib.hid (svz SA1.out YQ.out hg AT.out.ok.ok)
        have BF := Lib.hid (BL.out.trans (gb_below (B := w.heap.size) hg (by omega) (by have := BL.out.size; omega)))
        clear hbl hg hsz
        go_wp2_with fail
        refine bodyPost_ret (v := .tuple #[.agg (stCells m1 V1), .int .i64 i]) ?_ rfl ⟨_, by rw [DN.out], by rw [DN.out]; exact SVF.out, BF.out⟩
        rw [results_cell_t Tryz.results18]
        simp [asAddr, Result.andThen, LD.out]
    · have hd : decide ((i : Int) < (N : Int)) = false := by simp; omega
      have DN := Lib.hid (AT.out.done (.inl (by omega)))
      as_aux_lemma =>
      obtain ⟨TB, hbk⟩ := SA1.out.bk
      have BK1 := Lib.hid (show BK TB wr w.heap.size (stCells m1 V1) from hbk)
      clear hbk
      go_wp2_with (first | ((with_reducible refine wpList_load_bk2 (T := 27) (T' := TB) (op := ⟨some 34, .load 27 _, _, _, _, none⟩) rfl _ rfl Tryz.underlying27 Tryz.size27 w.heap.size (stCells m1 V1) ?lx ?lb ?l1 ?_); (case lx => rfl); (case l1 => rfl); (case lb => exact BK1.out)) | ((with_reducible refine wpList_store_bk (T := 27) (op := ⟨none, .store 27 _ _, _, _, _, none⟩) rfl _ _ rfl Tryz.size27 (w.heap.size + 1) ZS (stCells m1 V1) ?sx ?sy ?sb ?s1 ?s2 ?s3 ?_); (case sx => rfl); (case sy => rfl); (case s1 => rfl); (case s2 => rfl); (case s3 => exact st_one m1 V1); (case sb => exact YQ.out)))
      intro w9 hbl hg hsz
      have LD := Lib.hid (hbl.load Tryz.underlying27 Tryz.size27 rfl)
      have SVF := Lib.hid (svz SA1.out YQ.out hg AT.out.ok.ok)
      have BF := Lib.hid (BL.out.trans (gb_below (B := w.heap.size) hg (by omega) (by have := BL.out.size; omega)))
      clear hbl hg hsz
      go_wp2_with fail
      refine bodyPost_ret (v := .tuple #[.agg (stCells m1 V1), .int .i64 i]) ?_ rfl ⟨_, by rw [DN.out], by rw [DN.out]; exact SVF.out, BF.out⟩
      rw [results_cell_t Tryz.results18]
      simp [asAddr, Result.andThen, LD.out]
end
end Go.Proofs.YtbgmdikcbglpiaaGreatDoor
