/-
  Contracts of package seq's small calls: address, branch, take, ret, load, store. Conditions: the state lies behind the pointer, and may be; the instruction's registers are below 16.
-/
import Derived.Test.YtpnmlednningkaaDoorSt
import Derived.BigQuiet
import Derived.StillTailTactics
namespace Go.Proofs.YtpnmlednningkaaDoor
open Go.RowKit

def WordBelow (x : Int) (w : World) (e : Ending) (w' : World) : Prop := e = .returned (.int .u32 x) ∧ Below w.heap.size w w'
theorem wordb_mk {x x' : Int} {w w' : World} (h : x' = x) (hb : Below w.heap.size w w') : WordBelow x w (.returned (.int .u32 x')) w' := by subst h; exact ⟨rfl, hb⟩
def adr (m : M) (x : In5) : Nat := ((m.reg x.a + x.m) % 4294967296).toNat
theorem adr_eq (m : M) (x : In5) : ((adr m x : Nat) : Int) = (m.reg x.a + x.m) % 4294967296 := by unfold adr; omega

set_option maxHeartbeats 400000 in
theorem addr_any (gr cr : Nat) (x : In5) (m : M) (w : World) (ha : x.a < 16) (hc : w.cell? ⟨gr, x.a, none⟩ = some (.int .u32 (m.reg x.a))) : Calls Tryd.prog 77 #[.agg x.cells, .slice (some ⟨gr, 0, none⟩) 16 cr] w (WordBelow (adr m x : Nat) w) := by
  have E := Lib.hid (adr_eq m x)
  obtain ⟨o, d, a, b, im⟩ := x
  simp only [In5.cells] at *
  have i0 : (0 : Int) ≤ (a : Int) := by omega
  have i1 : (a : Int) < 16 := by omega
  have hlt := World.block_lt_of_cell? w _ hc
  simp only at hlt
  generalize m.reg a = v at *
  clear ha
  go_enter Tryd.func77, Tryd.ntmps77
  go_wp2_with fail
  go_quiet (fail)
  go_wp2
  go_ret
  refine wordb_mk ?_ ?_
  · rw [E.out]; simp
  · exact below_drewN (below_new _ _) _

set_option maxHeartbeats 400000 in
theorem branch_yes (B p : Nat) (x : In5) (m : M) (V : Vs) (w : World) (_h : SA B w p m V) : Calls Tryd.prog 78 #[.agg x.cells, .pointer (some ⟨p, 0, none⟩), .bool true] w (IntBelow x.m w) := by
  obtain ⟨o, d, a, b, im⟩ := x
  simp only [In5.cells]
  go_enter Tryd.func78, Tryd.ntmps78
  go_wp2
  go_ret
  exact ⟨rfl, below_new _ _⟩
set_option maxHeartbeats 400000 in
theorem branch_no (B p : Nat) (x : In5) (m : M) (V : Vs) (w : World) (h : SA B w p m V) (k : Ok m) : Calls Tryd.prog 78 #[.agg x.cells, .pointer (some ⟨p, 0, none⟩), .bool false] w (IntBelow (m.pc + 1 : Nat) w) := by
  obtain ⟨o, d, a, b, im⟩ := x
  simp only [In5.cells]
  have c5 : w.cell? ⟨p, 5, none⟩ = some (.int .i64 m.pc) := h.cell 5
  have hl := h.lt
  have hpc := k.pc
  generalize m.pc = pc at *
  clear h k
  go_enter Tryd.func78, Tryd.ntmps78
  go_wp2
  go_ret
  refine intb_mk ?_ (below_new _ _)
  go_num

/-- What 'take' tells and leaves. -/
def tak (m : M) : Int × M := if m.tk = m.inp.length then (0, m) else (m.input m.tk, { m with tk := m.tk + 1 })
def TakePost (B : Nat) (p : Nat) (x : Int) (m' : M) (V : Vs) (w : World) (e : Ending) (w' : World) : Prop := e = .returned (.int .u32 x) ∧ SA B w' p m' V ∧ Below B w w' ∧ w'.heap.size = w.heap.size
set_option maxHeartbeats 400000 in
theorem take_none (B p : Nat) (m : M) (V : Vs) (w : World) (h : SA B w p m V) (hk : m.tk = m.inp.length) : Calls Tryd.prog 59 #[.pointer (some ⟨p, 0, none⟩)] w (TakePost B p 0 m V w) := by
  have H := Lib.hid h
  have c3 : w.cell? ⟨p, 3, none⟩ = some (.int .i64 m.tk) := h.cell 3
  have c2 : w.cell? ⟨p, 2, none⟩ = some (.slice V.ai m.inp.length V.ci) := h.cell 2
  rw [hk] at c3
  have hq : ((m.inp.length : Int) == (m.inp.length : Int)) = true := by simp
  generalize V.ai = ai at c2
  generalize V.ci = ci at c2
  generalize m.inp.length = n at c2 c3 hq
  clear h hk
  go_enter Tryd.func59, Tryd.ntmps59
  go_wp2_with fail
  go_quiet (fail)
  go_wp2
  go_ret
  exact ⟨rfl, H.out.drewN _, below_drewN (Below.refl _ _) _, rfl⟩
set_option maxHeartbeats 400000 in
theorem take_some (B p : Nat) (m : M) (V : Vs) (w : World) (h : SA B w p m V) (k : Ok m) (hk : m.tk < m.inp.length) : Calls Tryd.prog 59 #[.pointer (some ⟨p, 0, none⟩)] w (TakePost B p (m.input m.tk) { m with tk := m.tk + 1 } V w) := by
  have H := Lib.hid h
  have c3 : w.cell? ⟨p, 3, none⟩ = some (.int .i64 m.tk) := h.cell 3
  have c2 : w.cell? ⟨p, 2, none⟩ = some (.slice V.ai m.inp.length V.ci) := h.cell 2
  have f3 := h.frozen 3
  have hpb := h.hp
  obtain ⟨g, hg, hgl, hgc⟩ := h.input hk
  have hgp : g ≠ p := by intro e; subst e; exact h.pi (by rw [hg]; rfl)
  rw [hg] at c2
  have hn := k.inp
  have hq : ((m.tk : Int) == (m.inp.length : Int)) = false := by simp; omega
  generalize V.ci = ci at c2
  generalize hv : m.input m.tk = v at hgc
  generalize hN : m.inp.length = n at c2 hq hn hk
  have e1 : m.tk + 1 - 1 = m.tk := by omega
  generalize ht : m.tk = t at *
  have HT := Lib.hid ht
  have i0 : (0 : Int) ≤ (t : Int) := by omega
  have i1 : (t : Int) < (n : Int) := by omega
  clear h k hN ht
  go_enter Tryd.func59, Tryd.ntmps59
  go_wp2_with fail
  go_quiet (fail)
  go_wp2_with fail
  go_quiet (fail)
  go_wp2
  go_ret
  refine ⟨rfl, ?_, below_drewN (((below_drewN (Below.refl _ _) _).setCell (by exact hpb) _)) _, by simp⟩
  rename_i nq1
  exact ((H.out.drewN nq1).setTk (t + 1)).drewN nq

def RetPost (B : Nat) (p : Nat) (x y : Int) (m' : M) (w : World) (e : Ending) (w' : World) : Prop := e = .returned (.tuple #[.int .i64 x, .int .i64 y]) ∧ Goes B w p m' w'
set_option maxHeartbeats 400000 in
theorem ret_none (B p : Nat) (m : M) (V : Vs) (w : World) (h : SA B w p m V) (hk : m.st = []) : Calls Tryd.prog 80 #[.pointer (some ⟨p, 0, none⟩)] w (RetPost B p 0 4 m w) := by
  have H := Lib.hid h
  have c6 : w.cell? ⟨p, 6, none⟩ = some (.slice V.az m.st.length V.cs) := h.cell 6
  rw [hk] at c6
  simp only [List.length_nil] at c6
  generalize V.az = az at c6
  generalize V.cs = cs at c6
  clear h hk
  go_enter Tryd.func80, Tryd.ntmps80
  go_wp2
  go_ret2
  exact ⟨rfl, ⟨_, H.out⟩, Below.refl _ _⟩
set_option maxHeartbeats 400000 in
theorem ret_some (B p : Nat) (m : M) (V : Vs) (w : World) (h : SA B w p m V) (k : Ok m) (n : Nat) (hk : m.st.length = n + 1) : Calls Tryd.prog 80 #[.pointer (some ⟨p, 0, none⟩)] w (RetPost B p (m.st.getD n 0 : Nat) 0 { m with st := m.st.take n } w) := by
  have H := Lib.hid h
  have c6 : w.cell? ⟨p, 6, none⟩ = some (.slice V.az m.st.length V.cs) := h.cell 6
  have f6 := h.frozen 6
  have hpb := h.hp
  obtain ⟨g, hg, hgl, hgc⟩ := h.ret (i := n) (by omega)
  have hgp : g ≠ p := by intro e; subst e; exact h.ps (by rw [hg]; rfl)
  rw [hg, hk] at c6
  have hn := k.st
  have hcs := h.caps
  have POP := Lib.hid (h.pop hg hk)
  generalize V.cs = cs at c6 hcs POP
  generalize m.st.getD n 0 = v at *
  rw [hk] at hn hcs
  obtain ⟨hc1, hc2⟩ := hcs
  have e1 : wrap64 ((n + 1 : Nat) - 1 : Int) = (n : Int) := by unfold wrap64; omega
  have i0 : (0 : Int) ≤ (n : Int) := by omega
  clear h k hk
  go_enter Tryd.func80, Tryd.ntmps80
  go_wp2
  go_ret2
  exact ⟨rfl, ⟨_, POP.out⟩, (Below.refl _ _).setCell (by exact hpb) _⟩
end Go.Proofs.YtpnmlednningkaaDoor
