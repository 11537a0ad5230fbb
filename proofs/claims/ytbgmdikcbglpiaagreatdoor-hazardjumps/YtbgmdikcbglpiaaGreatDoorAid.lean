/-
  Small things: places of memory, a word that a call tells, an instruction in a block of its own, append of one element as a step, what an input is. No condition.
-/
import Derived.Test.YtbgmdikcbglpiaaGreatDoorSt
import Derived.BigQuiet
import Derived.StillTailTactics
import Derived.Deep.RegionLaw
import Derived.Deep.RegionHeld3
namespace Go.Proofs.YtbgmdikcbglpiaaGreatDoor
open Go.RowKit

def WordBelow (x : Int) (w : World) (e : Ending) (w' : World) : Prop := e = .returned (.int .u32 x) ∧ Below w.heap.size w w'
theorem wordb_mk {x x' : Int} {w w' : World} (h : x' = x) (hb : Below w.heap.size w w') : WordBelow x w (.returned (.int .u32 x')) w' := by subst h; exact ⟨rfl, hb⟩
def adr (m : M) (x : In5) : Nat := ((m.reg x.a + x.m) % 4294967296).toNat
theorem adr_eq (m : M) (x : In5) : ((adr m x : Nat) : Int) = (m.reg x.a + x.m) % 4294967296 := by unfold adr; omega
/-- What 'take' tells and leaves. -/
def tak (m : M) : Int × M := if m.tk = m.inp.length then (0, m) else (m.input m.tk, { m with tk := m.tk + 1 })
theorem add_pos (x : Addr) (j : Nat) (h : j ≠ 0) : x.add j = ⟨x.block, x.off + j, none⟩ := by unfold Addr.add; simp [h]
theorem block_add (a : Addr) (n : Nat) : (a.add n).block = a.block := by unfold Addr.add; split <;> rfl
/-- An instruction lies in a block of its own. -/
structure Bx (w : World) (z : Nat) (x : In5) : Prop where
  blk : ∃ T, w.heap[z]? = some (.cells x.cells T (0, 0))
theorem Bx.c {w : World} {z : Nat} {x : In5} (h : Bx w z x) (j : Nat) : w.cell? ⟨z, j, none⟩ = x.cells[j]? := by obtain ⟨T, hb⟩ := h.blk; exact cell_of_row w z j _ T (0, 0) hb
theorem Bx.lt {w : World} {z : Nat} {x : In5} (h : Bx w z x) : z < w.heap.size := by obtain ⟨T, hb⟩ := h.blk; exact lt_of_heap hb
theorem bx_new (w : World) (x : In5) : Bx (w.alloc (.cells x.cells 55)) w.heap.size x := ⟨55, heap_alloc_new w _⟩
theorem Bx.below {w w' : World} {z : Nat} {x : In5} (h : Bx w z x) (hb : Below w.heap.size w w') : Bx w' z x := by obtain ⟨T, hz⟩ := h.blk; exact ⟨T, (hb.block z (lt_of_heap hz)).trans hz⟩
theorem Bx.drew {w : World} {z : Nat} {x : In5} (h : Bx w z x) : Bx w.drew z x := ⟨h.blk⟩
theorem SA.drew {B p : Nat} {w : World} {m : M} {V : Vs} (h : SA B w p m V) : SA B w.drew p m V := h.drewN 1
theorem Tryz.info3 : (Tryz.prog.info? 3).map (fun i => (i.zero, i.size, i.bytes)) = some (some (.int .i64 0), 1, 8) := by kernel_rfl
theorem Tryz.info69 : (Tryz.prog.info? 69).map (fun i => (i.zero, i.size, i.bytes)) = some (some (.int .u32 0), 1, 4) := by kernel_rfl
/-- append of one element to a row of one's own, as a step of a drawn region. -/
theorem step_app (t e : TypeId) (bytes : Nat) (z : Value) (hinfo : (Tryz.prog.info? e).map (fun i => (i.zero, i.size, i.bytes)) = some (some z, 1, bytes)) (hzs : z.cells.size = 1) (hby : bytes ≤ 16) (ht : Tryz.prog.underlying t = some (.slice e))
    {ops : Array Oper} {o : Oper} {a : Act} {K : Act → World → Prop} {Q : Exit → Act → World → Prop} {E : Prop} {W : World} {B n c : Nat} {va : Option Addr} {xs : List Value} {u : Value} (hu : u.oneCell' = true) (hgd : o.guard = none) (s x : Operand)
    (ho : o.op = .call { callee := .builtin .append, args := #[s, x], argTypes := #[t, t] }) (hs : a.eval s = .slice va n c) (gx : Nat) (hx : a.eval x = .slice (some ⟨gx, 0, none⟩) 1 1)
    (hnews : W.heap[gx]? = some (.cells #[u] e (0, 0))) (hown : W.ownsRow B e 1 (.slice va n c) n xs) (hn : n ≤ 2000000) (hB : B ≤ W.heap.size)
    (h : ∀ g cap w', w'.ownsRow B e 1 (.slice (some ⟨g, 0, none⟩) (n + 1) cap) (n + 1) (xs ++ [u]) → W.grownBy w' (ob va) → (ob va = some g ∨ g = W.heap.size) → g < w'.heap.size → K (a.put o.dst (.slice (some ⟨g, 0, none⟩) (n + 1) cap)) w') :
    if Region.wanted o (yielded ops a.tmps) = true then Oper.wp Tryz.prog o a W K Q else E := by
  obtain ⟨i, hi, he⟩ := Option.map_eq_some_iff.1 hinfo
  simp only [Prod.mk.injEq] at he
  refine step_append_lies W hgd s x t ho B e i _ 1 bytes ht hi he.1 he.2.1 he.2.2 hzs (by decide) (.slice va n c) n xs hs hown ⟨gx, 0, none⟩ 1 1 [u] hx rfl (World.news_of_block hnews) (fun y hy => by simp at hy; subst hy; exact hu) (by decide) (by unfold maxLen; omega) ?_ hB _ rfl ?_
  · have : (n + 1) * bytes ≤ 2000001 * 16 := Nat.mul_le_mul (by omega) hby
    omega
  · rw [own_ob]
    exact h
section
variable {B p g cap : Nat} {w W w7 : World} {m : M} {V : Vs}
theorem wrap_i64 (x : Int) (h1 : -9223372036854775808 ≤ x) (h2 : x ≤ 9223372036854775807) : IntKind.i64.wrap x = x := by
  simp only [IntKind.wrap, IntKind.bits, IntKind.signed]
  simp
  omega
theorem far7 (h : SA B W p m V) (hg : W.grownBy w7 (ob V.az)) : w7.cell? ⟨p, 6, none⟩ = some (.slice V.az m.st.length V.cs) ∧ w7.frozen? ⟨p, 6, none⟩ = false :=
  ⟨(hg.cell_far ⟨p, 6, none⟩ h.lt (fun e => h.ps e.symm)).trans (h.cell 6), (hg.frozen_far ⟨p, 6, none⟩ h.lt (fun e => h.ps e.symm)).trans (h.frozen 6)⟩
theorem push7 (h : SA B W p m V) {y : Int} {x : Nat} (e : y = (x : Int)) (hg : W.grownBy w7 (ob V.az)) (hr : w7.ownsRow B 3 1 (.slice (some ⟨g, 0, none⟩) (m.st.length + 1) cap) (m.st.length + 1) (m.st.map ni ++ [.int .i64 y])) (hat : ob V.az = some g ∨ g = W.heap.size) :
    SA B (w7.setCell ⟨p, 6, none⟩ (.slice (some ⟨g, 0, none⟩) (m.st.length + 1) cap)) p { m with st := m.st ++ [x] } { V with az := some ⟨g, 0, none⟩, cs := cap } := by
  subst e
  exact h.push hg hr hat
theorem below7 {o : Obj} (hb : Below B w W) (h : SA B W p m V) (hg : (W.alloc o).drew.grownBy w7 (ob V.az)) : Below B w w7 :=
  ((hb.alloc h.B_le o).drew).grown hg (by have := h.B_le; simp; omega) (fun k hk => (h.hs.lt k (by rw [own_ob]; exact hk)).1)
theorem faro7 (h : SA B W p m V) (hg : W.grownBy w7 (ob V.ao)) : w7.cell? ⟨p, 4, none⟩ = some (.slice V.ao m.out.length V.co) ∧ w7.frozen? ⟨p, 4, none⟩ = false :=
  ⟨(hg.cell_far ⟨p, 4, none⟩ h.lt (fun e => h.po e.symm)).trans (h.cell 4), (hg.frozen_far ⟨p, 4, none⟩ h.lt (fun e => h.po e.symm)).trans (h.frozen 4)⟩
theorem belowo7 {o : Obj} (hb : Below B w W) (h : SA B W p m V) (hg : (W.alloc o).drew.grownBy w7 (ob V.ao)) : Below B w w7 :=
  ((hb.alloc h.B_le o).drew).grown hg (by have := h.B_le; simp; omega) (fun k hk => (h.ho.lt k (by rw [own_ob]; exact hk)).1)
end
end Go.Proofs.YtbgmdikcbglpiaaGreatDoor
