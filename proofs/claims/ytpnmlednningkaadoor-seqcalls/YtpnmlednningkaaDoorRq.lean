/-
  What both machines' Run leans on: programs as rows, states as values, whole blocks of a state loaded and stored. No condition.
-/
import Derived.Test.YtpnmlednningkaaDoorCpS
import Derived.Test.YtpnmlednningkaaDoorCk2
import Derived.Test.YtpnmlednningkaaDoorPr
import Derived.Test.YtpnmlednningkaaDoorRn
namespace Go.Proofs.YtpnmlednningkaaDoor
open Go.RowKit

section
variable {w w' : World} {g : Nat} {cs : Array Value} {T T' : TypeId}
theorem bk_row2 (h : BK T' w g cs) (cs' : Array Value) : BK T' (w.setRow g cs') g cs' ∧ w.grownBy (w.setRow g cs') (some g) ∧ (w.setRow g cs').heap.size = w.heap.size := bk_row h cs'
theorem BK.load2 (h : BK T' w g cs) {fs : Array Field} (hu : Tryd.prog.underlying T = some (.struct fs)) {n : Nat} (hi : (Tryd.prog.info? T).map (·.size) = some n) (hs : cs.size = n) : (loadVar T ⟨g, 0, none⟩).run Tryd.prog w = .ok (.agg cs) w :=
  run_loadVar_row w g T' T cs (0, 0) _ h hu rfl (by rw [hs]; exact hi)
theorem wpList_store_bk2 {ops : Array Oper} {rest : List Oper} {op : Oper} {a : Act} {Q : Exit → Act → World → Prop} (hgd : op.guard = none) (x y : Operand) (ho : op.op = .store T x y)
    {n : Nat} (hi : (Tryd.prog.info? T).map (·.size) = some n)
    (g : Nat) (cs cs' : Array Value) (hx : a.eval x = .pointer (some ⟨g, 0, none⟩)) (hy : a.eval y = .agg cs') (hb : BK T' w g cs) (hs : cs.size = n) (hs' : cs'.size = n) (h1 : cs'.all (·.oneCell') = true)
    (h : ∀ w', BK T' w' g cs' → w.grownBy w' (some g) → w'.heap.size = w.heap.size → wpList Tryd.prog ops Q rest (a.put op.dst undef) w') : wpList Tryd.prog ops Q (op :: rest) a w :=
  wpList_plain hgd fun _ hK => by
    obtain ⟨p1, p2, p3⟩ := bk_row hb cs'
    unfold Oper.wp execOp
    simp only [ho, hx, hy, Instr.storeAt, Instr.sureAddr, Sem.run_bind, Sem.run_pure, Result.andThen_ok, run_storeVar_row (P := Tryd.prog) w g T' T cs cs' hb (by rw [hs']; exact hi) (by rw [hs, hs']) h1]
    exact hK _ _ (h _ p1 p2 p3)
theorem wpList_load_bk2 {ops : Array Oper} {rest : List Oper} {op : Oper} {a : Act} {Q : Exit → Act → World → Prop} (hgd : op.guard = none) (x : Operand) (ho : op.op = .load T x)
    {fs : Array Field} (hu : Tryd.prog.underlying T = some (.struct fs)) {n : Nat} (hi : (Tryd.prog.info? T).map (·.size) = some n)
    (g : Nat) (cs : Array Value) (hx : a.eval x = .pointer (some ⟨g, 0, none⟩)) (hb : BK T' w g cs) (hs : cs.size = n)
    (h : wpList Tryd.prog ops Q rest (a.put op.dst (.agg cs)) w) : wpList Tryd.prog ops Q (op :: rest) a w :=
  wpList_plain hgd fun _ hK => by
    unfold Oper.wp execOp
    simp only [ho, hx, Instr.loadAt, Instr.sureAddr, Sem.run_bind, Sem.run_pure, Result.andThen_ok, hb.load2 hu hi hs]
    exact hK _ _ h
end
theorem results_cell_two {fn : Func} {p a b : Tmp} {ty : TypeId} (h : fn.results = #[.cell p ty, .tmp a, .tmp b]) (tmps : Array Value) (P : Program) (w : World) :
    (results fn tmps).run P w = ((asAddr (tmps.getD p undef)).run P w).andThen fun x w₁ => ((loadVar ty x).run P w₁).andThen fun v w₂ => .ok (.tuple #[v, tmps.getD a undef, tmps.getD b undef]) w₂ := by
  simp only [results, h]
  simp [Sem.run_bind, Result.andThen]
/-- An instruction of a program as it lies. -/
def In5.raw (x : In5) : In6 := ⟨x.o, x.d, x.a, x.b, x.m, ⟨#[]⟩⟩
theorem raw_cells (x : In5) : x.raw.cells = x.cells := rfl
/-- A slice that reads as a program. -/
def RdP (w : World) (v : Value) (P : List In5) : Prop := RdI w v (P.map In5.raw)
theorem RdP.keep {w w' : World} {v : Value} {P : List In5} (h : RdP w v P) (hb : Below w.heap.size w w') : RdP w' v P := RdI.keep h hb
theorem RdP.form {w : World} {v : Value} {P : List In5} (h : RdP w v P) : ∃ A c, v = .slice A P.length c ∧ Prg w.heap.size w A P := by
  obtain ⟨A, c, rfl, hr⟩ := h
  refine ⟨A, c, by rw [List.length_map], fun i hi => ?_⟩
  obtain ⟨ad, ha, hl, hx⟩ := hr (by rw [List.length_map]; omega)
  refine ⟨ad, ha, hl, fun j u hu => hx i (P.getD i zi).raw ?_ j u (by rw [raw_cells]; exact hu)⟩
  rw [List.getElem?_map, List.getD_eq_getElem?_getD, List.getElem?_eq_getElem hi]
  rfl
theorem Vi.raw {x : In5} (h : Vi x) : pB x.raw = true := by
  rw [pB_empty rfl]
  unfold iB In5.raw
  simp only
  rw [show ((x.o : Int)).toNat = x.o by omega, h.ins]
  have := h.o
  simp; omega
theorem Vp.raw {P : List In5} (h : Vp P) : pgB (P.map In5.raw) = true := by
  rw [pgB_ok (by rw [List.length_map]; exact h.1)]
  refine List.all_eq_true.2 fun x hx => ?_
  obtain ⟨y, hy, rfl⟩ := List.mem_map.1 hx
  exact (h.2 y hy).raw
theorem szs_raw (P : List In5) : szs (P.map In5.raw) := fun x hx => by
  obtain ⟨y, _, rfl⟩ := List.mem_map.1 hx
  exact Nat.zero_le _
theorem SV.drewN {w : World} {v : Value} {m : M} (h : SV w v m) (n : Nat) : SV (w.drewN n) v m := h
theorem SV.stB {w : World} {v : Value} {m : M} (_h : SV w v m) (k : Okk m) : stB m.R.length m.mem.length m.inp.length 0 m.tk m.pc m.stop 0 0 (m.st.map Int.ofNat) = true := by
  have h1 := k.ok.R
  have h2 := k.ok.mem
  have h3 := k.ok.inp
  have h4 := k.ok.tk
  have h5 := k.ok.pc
  have h6 := k.ok.st
  have h7 := k.s0
  have h8 := k.s5
  have h9 : allPl (m.st.map Int.ofNat) = true := List.all_eq_true.2 fun x hx => by
    obtain ⟨y, hy, rfl⟩ := List.mem_map.1 hx
    have := k.ok.wS y hy
    simp [plB]; omega
  unfold Go.Proofs.YtpnmlednningkaaDoor.stB szB plsB plB
  rw [h9]
  simp [h1, h2, h3, h4, h6, h7, h8]
  omega
theorem SA.srp {B p : Nat} {w w' : World} {m : M} {V : Vs} (h : SA B w p m V) (hg : w.grownBy w' (some p)) : SR B w' m V :=
  { h with
    hr := keep_row h.hr hg (ap_some (by simp [ob]; exact h.pr)), hm := keep_row h.hm hg (ap_some (by simp [ob]; exact h.pm)), hi := keep_row h.hi hg (ap_some h.pi), ho := keep_row h.ho hg (ap_some h.po), hs := keep_row h.hs hg (ap_some h.ps) }
theorem st_size (m : M) (V : Vs) : (stCells m V).size = 11 := rfl
theorem st_one (m : M) (V : Vs) : (stCells m V).all (·.oneCell') = true := by
  have e1 : ∀ x : Int, (Value.int .i64 x).oneCell' = true := fun _ => rfl
  have e2 : ∀ a n c, (Value.slice a n c).oneCell' = true := fun _ _ _ => rfl
  simp [stCells, e1, e2]
end Go.Proofs.YtpnmlednningkaaDoor
