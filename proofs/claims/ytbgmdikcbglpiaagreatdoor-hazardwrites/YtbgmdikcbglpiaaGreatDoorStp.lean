/-
  A step of the machine as a Lean function on states, and how so many of them go. No program is named here, no condition.
-/
import Derived.Test.YtbgmdikcbglpiaaGreatDoorAid
import Derived.Test.YtbgmdikcbglpiaaGreatDoorWOf
import Derived.Test.YtbgmdikcbglpiaaGreatDoorPOf
namespace Go.Proofs.YtbgmdikcbglpiaaGreatDoor
open Go.RowKit

/-- What ops of words, of pairs, and addi make of their operands. -/
def res (x : In5) (m : M) : Int :=
  if x.o = 22 then (m.reg x.a + x.m) % 4294967296
  else if 18 ≤ x.o then Pa.pV x.o (m.reg x.a) (m.reg x.b)
  else Wo.wV x.o (m.reg x.a) (m.reg x.b)
/-- Is it a division by nought? -/
def dz (x : In5) (m : M) : Bool := decide (16 ≤ x.o) && decide (x.o ≤ 17) && decide (m.reg x.b = 0)
def put (m : M) (d : Nat) (v : Int) : M := { m with R := m.R.set d v, pc := m.pc + 1 }
def stop (m : M) (k : Int) : M := { m with stop := k }
def goto (m : M) (k : Nat) : M := { m with pc := k }
/-- What an instruction does. -/
def stp (x : In5) (m : M) : M :=
  if x.o = 0 then goto m (m.pc + 1)
  else if x.o ≤ 22 then (if dz x m then stop m 3 else put m x.d (res x m))
  else if x.o = 23 then put m x.d (x.m % 4294967296)
  else if x.o = 24 then (if adr m x < 256 then put m x.d (m.word (adr m x)) else stop m 2)
  else if x.o = 25 then (if adr m x < 256 then goto { m with mem := m.mem.set (adr m x) (m.reg x.b) } (m.pc + 1) else stop m 2)
  else if x.o = 26 then put (tak m).2 x.d (tak m).1
  else if x.o = 27 then goto { m with out := m.out ++ [m.reg x.a] } (m.pc + 1)
  else if x.o = 28 then goto m x.m.toNat
  else if x.o = 29 then goto m (if m.reg x.a = 0 then x.m.toNat else m.pc + 1)
  else if x.o = 30 then goto m (if m.reg x.a = 0 then m.pc + 1 else x.m.toNat)
  else if x.o = 31 then (if m.st.length = 16 then stop m 4 else goto { m with st := m.st ++ [m.pc + 1] } x.m.toNat)
  else if x.o = 32 then (if m.st.length = 0 then stop m 4 else goto { m with st := m.st.take (m.st.length - 1) } (m.st.getD (m.st.length - 1) 0))
  else stop m 1
def zi : In5 := ⟨0, 0, 0, 0, 0⟩
/-- A step of a program. -/
def stepP (P : List In5) (m : M) : M := if P.length ≤ m.pc then stop m 5 else stp (P.getD m.pc zi) m
/-- Up to so many, and how many they were. -/
def runP (P : List In5) : Nat → M → M × Nat
  | 0, m => (m, 0)
  | n + 1, m => if m.stop = 0 then ((runP P n (stepP P m)).1, (runP P n (stepP P m)).2 + 1) else (m, 0)

variable {x : In5}
/-- An instruction that may be. -/
structure Vi (x : In5) : Prop where
  o : x.o < 34
  ins : insB x.o x.d x.a x.b x.m ⟨#[]⟩ = true
theorem fits_lt {h : Bool} {d : Nat} (e : fitsB h d = true) : d < 16 := by
  unfold fitsB at e
  cases h <;> simp at e <;> omega
theorem ins_parts {n : Nat} {d a b m : Int} {s : ByteArray} (h : insB n d a b m s = true) : fitsB (sd (fm n)) d = true ∧ fitsB (sa (fm n)) a = true ∧ fitsB (sb (fm n)) b = true ∧ restB n m s = true := by
  unfold insB at h
  simpa [and_assoc] using h
theorem Vi.d (h : Vi x) : x.d < 16 := fits_lt (ins_parts h.ins).1
theorem Vi.a (h : Vi x) : x.a < 16 := fits_lt (ins_parts h.ins).2.1
theorem Vi.b (h : Vi x) : x.b < 16 := fits_lt (ins_parts h.ins).2.2.1
theorem stg_of : ∀ n : Fin 34, 28 ≤ n.1 → n.1 ≤ 31 → stg (fm n.1) = true := by decide
theorem Vi.tg (h : Vi x) (h1 : 28 ≤ x.o) (h2 : x.o ≤ 31) : 0 ≤ x.m ∧ x.m ≤ 1023 := by
  have h3 := (ins_parts h.ins).2.2.2
  rw [rest_imm rfl] at h3
  unfold immB at h3
  rw [stg_of ⟨x.o, h.o⟩ h1 h2] at h3
  simpa [numB] using h3
/-- What the next state is held to: bounds alone. -/
theorem Ok.goto {m : M} (k : Ok m) {n : Nat} (h : n ≤ 1024) : Ok (goto m n) := { k with pc := h }
theorem Ok.stop {m : M} (k : Ok m) (n : Int) : Ok (stop m n) := { k with }
theorem mem_set {l : List Int} {d : Nat} {v : Int} (h : ∀ y ∈ l, 0 ≤ y ∧ y ≤ 4294967295) (hv : 0 ≤ v ∧ v ≤ 4294967295) : ∀ y ∈ l.set d v, 0 ≤ y ∧ y ≤ 4294967295 := by
  intro y hy
  rcases List.mem_or_eq_of_mem_set hy with h1 | h1
  · exact h y h1
  · rw [h1]; exact hv
theorem Ok.put {m : M} (k : Ok m) (d : Nat) {v : Int} (hv : 0 ≤ v ∧ v ≤ 4294967295) (h : m.pc < 1024) : Ok (put m d v) := { k with R := by show (m.R.set d v).length = 16; rw [List.length_set]; exact k.R, pc := h, wR := mem_set k.wR hv }
section
variable {m : M}
theorem stp0 (h : x.o = 0) : stp x m = goto m (m.pc + 1) := by unfold stp; rw [if_pos h]
theorem stpA (h1 : 1 ≤ x.o) (h2 : x.o ≤ 22) : stp x m = (if dz x m then stop m 3 else put m x.d (res x m)) := by unfold stp; rw [if_neg (by omega), if_pos h2]
theorem stp23 (h : x.o = 23) : stp x m = put m x.d (x.m % 4294967296) := by unfold stp; rw [if_neg (by omega), if_neg (by omega), if_pos h]
theorem stp24 (h : x.o = 24) : stp x m = (if adr m x < 256 then put m x.d (m.word (adr m x)) else stop m 2) := by unfold stp; rw [if_neg (by omega), if_neg (by omega), if_neg (by omega), if_pos h]
theorem stp25 (h : x.o = 25) : stp x m = (if adr m x < 256 then goto { m with mem := m.mem.set (adr m x) (m.reg x.b) } (m.pc + 1) else stop m 2) := by unfold stp; rw [if_neg (by omega), if_neg (by omega), if_neg (by omega), if_neg (by omega), if_pos h]
theorem stp26 (h : x.o = 26) : stp x m = put (tak m).2 x.d (tak m).1 := by unfold stp; rw [if_neg (by omega), if_neg (by omega), if_neg (by omega), if_neg (by omega), if_neg (by omega), if_pos h]
theorem stp27 (h : x.o = 27) : stp x m = goto { m with out := m.out ++ [m.reg x.a] } (m.pc + 1) := by unfold stp; rw [if_neg (by omega), if_neg (by omega), if_neg (by omega), if_neg (by omega), if_neg (by omega), if_neg (by omega), if_pos h]
theorem stp28 (h : x.o = 28) : stp x m = goto m x.m.toNat := by unfold stp; rw [if_neg (by omega), if_neg (by omega), if_neg (by omega), if_neg (by omega), if_neg (by omega), if_neg (by omega), if_neg (by omega), if_pos h]
theorem stp29 (h : x.o = 29) : stp x m = goto m (if m.reg x.a = 0 then x.m.toNat else m.pc + 1) := by unfold stp; rw [if_neg (by omega), if_neg (by omega), if_neg (by omega), if_neg (by omega), if_neg (by omega), if_neg (by omega), if_neg (by omega), if_neg (by omega), if_pos h]
theorem stp30 (h : x.o = 30) : stp x m = goto m (if m.reg x.a = 0 then m.pc + 1 else x.m.toNat) := by unfold stp; rw [if_neg (by omega), if_neg (by omega), if_neg (by omega), if_neg (by omega), if_neg (by omega), if_neg (by omega), if_neg (by omega), if_neg (by omega), if_neg (by omega), if_pos h]
theorem stp31 (h : x.o = 31) : stp x m = (if m.st.length = 16 then stop m 4 else goto { m with st := m.st ++ [m.pc + 1] } x.m.toNat) := by unfold stp; rw [if_neg (by omega), if_neg (by omega), if_neg (by omega), if_neg (by omega), if_neg (by omega), if_neg (by omega), if_neg (by omega), if_neg (by omega), if_neg (by omega), if_neg (by omega), if_pos h]
theorem stp32 (h : x.o = 32) : stp x m = (if m.st.length = 0 then stop m 4 else goto { m with st := m.st.take (m.st.length - 1) } (m.st.getD (m.st.length - 1) 0)) := by unfold stp; rw [if_neg (by omega), if_neg (by omega), if_neg (by omega), if_neg (by omega), if_neg (by omega), if_neg (by omega), if_neg (by omega), if_neg (by omega), if_neg (by omega), if_neg (by omega), if_neg (by omega), if_pos h]
theorem stp33 (h : x.o = 33) : stp x m = stop m 1 := by unfold stp; rw [if_neg (by omega), if_neg (by omega), if_neg (by omega), if_neg (by omega), if_neg (by omega), if_neg (by omega), if_neg (by omega), if_neg (by omega), if_neg (by omega), if_neg (by omega), if_neg (by omega), if_neg (by omega)]
theorem op_ways (h : x.o < 34) : x.o = 0 ∨ (1 ≤ x.o ∧ x.o ≤ 22) ∨ x.o = 23 ∨ x.o = 24 ∨ x.o = 25 ∨ x.o = 26 ∨ x.o = 27 ∨ x.o = 28 ∨ x.o = 29 ∨ x.o = 30 ∨ x.o = 31 ∨ x.o = 32 ∨ x.o = 33 := by omega
end
theorem wrap_bd (x : Int) : 0 ≤ IntKind.u32.wrap x ∧ IntKind.u32.wrap x ≤ 4294967295 := by rw [IntKind.wrap_u32]; omega
theorem shr_in (a : Int) (n : Nat) (h1 : 0 ≤ a) (h2 : a ≤ 4294967295) : 0 ≤ a / 2 ^ n ∧ a / 2 ^ n ≤ 4294967295 := by
  have h3 : (0 : Int) < 2 ^ n := Int.pow_pos (by omega)
  have h4 := Int.ediv_nonneg h1 (Int.le_of_lt h3)
  have h5 := Int.ediv_le_self (2 ^ n) h1
  omega
theorem wV_in (o a b : Int) (ha : Wo.U32 a) : 0 ≤ Wo.wV o a b ∧ Wo.wV o a b ≤ 4294967295 := by
  obtain ⟨h1, h2⟩ := ha
  unfold Wo.wV
  by_cases c : o = 1; · rw [if_pos c]; omega
  rw [if_neg c]; clear c
  by_cases c : o = 2; · rw [if_pos c]; omega
  rw [if_neg c]; clear c
  by_cases c : o = 3; · rw [if_pos c]; exact wrap_bd _
  rw [if_neg c]; clear c
  by_cases c : o = 4; · rw [if_pos c]; exact wrap_bd _
  rw [if_neg c]; clear c
  by_cases c : o = 5; · rw [if_pos c]; exact wrap_bd _
  rw [if_neg c]; clear c
  by_cases c : o = 6; · rw [if_pos c]; omega
  rw [if_neg c]; clear c
  by_cases c : o = 7; · rw [if_pos c]; exact shr_in _ _ h1 h2
  rw [if_neg c]; clear c
  by_cases c : o = 8; · rw [if_pos c]; omega
  rw [if_neg c]; clear c
  by_cases c : o = 9; · rw [if_pos c]; split <;> omega
  rw [if_neg c]; clear c
  by_cases c : o = 10; · rw [if_pos c]; split <;> omega
  rw [if_neg c]; clear c
  by_cases c : o = 11; · rw [if_pos c]; split <;> omega
  rw [if_neg c]; clear c
  by_cases c : o = 12; · rw [if_pos c]; omega
  rw [if_neg c]; clear c
  by_cases c : o = 13; · rw [if_pos c]; omega
  rw [if_neg c]; clear c
  by_cases c : o = 14; · rw [if_pos c]; omega
  rw [if_neg c]; clear c
  by_cases c : o = 15; · rw [if_pos c]; omega
  rw [if_neg c]; clear c
  by_cases c : o = 16; · rw [if_pos c]; split <;> omega
  rw [if_neg c]; clear c
  by_cases c : o = 17; · rw [if_pos c]; split <;> omega
  rw [if_neg c]; omega
theorem res_in {m : M} (k : Ok m) {x : In5} (ha : x.a < 16) : 0 ≤ res x m ∧ res x m ≤ 4294967295 := by
  unfold res
  by_cases c : x.o = 22
  · rw [if_pos c]; omega
  rw [if_neg c]
  by_cases c2 : 18 ≤ x.o
  · rw [if_pos c2]; exact Pa.pV_in _ _ _
  rw [if_neg c2]
  exact wV_in _ _ _ (k.reg ha)
theorem Ok.tak {m : M} (k : Ok m) : Ok (tak m).2 ∧ 0 ≤ (tak m).1 ∧ (tak m).1 ≤ 4294967295 ∧ (tak m).2.pc = m.pc := by
  unfold Go.Proofs.YtbgmdikcbglpiaaGreatDoor.tak
  split
  · exact ⟨k, by simp, by simp, rfl⟩
  · have := k.tk
    have h := getD_mem (P := fun y => 0 ≤ y ∧ y ≤ 4294967295) (l := m.inp) (i := m.tk) (by omega) k.wI
    exact ⟨{ k with tk := by show m.tk + 1 ≤ m.inp.length; omega }, h.1, h.2, rfl⟩
theorem getD_memN {P : Nat → Prop} {l : List Nat} {i : Nat} (hi : i < l.length) (h : ∀ x ∈ l, P x) : P (l.getD i 0) := by
  rw [List.getD_eq_getElem?_getD, List.getElem?_eq_getElem hi]; exact h _ (List.getElem_mem hi)
theorem Ok.setMem {m : M} (k : Ok m) (j : Nat) {v : Int} (hv : 0 ≤ v ∧ v ≤ 4294967295) : Ok { m with mem := m.mem.set j v } := { k with mem := by show (m.mem.set j v).length = 256; rw [List.length_set]; exact k.mem, wM := mem_set k.wM hv }
theorem Ok.setOut {m : M} (k : Ok m) (v : Int) (h : m.out.length < 1000000) : Ok { m with out := m.out ++ [v] } := { k with out := by show (m.out ++ [v]).length ≤ 1000000; simp; omega }
theorem mem_pushN {l : List Nat} {n : Nat} (h : ∀ y ∈ l, y ≤ 1024) (hn : n ≤ 1024) : ∀ y ∈ l ++ [n], y ≤ 1024 := by
  intro y hy
  rcases List.mem_append.1 hy with h1 | h1
  · exact h y h1
  · simp at h1; omega
theorem Ok.push {m : M} (k : Ok m) (h : m.st.length < 16) (hp : m.pc < 1024) : Ok { m with st := m.st ++ [m.pc + 1] } :=
  { k with st := by show (m.st ++ [m.pc + 1]).length ≤ 16; simp; omega, wS := mem_pushN k.wS hp }
theorem Ok.pop {m : M} (k : Ok m) (n : Nat) : Ok { m with st := m.st.take n } := { k with st := by show (m.st.take n).length ≤ 16; have := k.st; rw [List.length_take]; omega, wS := fun y hy => k.wS y (List.mem_of_mem_take (show y ∈ m.st.take n from hy)) }
/-- A step of a state that may be leads to one that may be. -/
theorem Ok.stp {m : M} (k : Ok m) {x : In5} (v : Vi x) (hp : m.pc < 1024) (ho : m.out.length < 1000000) : Ok (stp x m) := by
  rcases op_ways v.o with h | ⟨h1, h2⟩ | h | h | h | h | h | h | h | h | h | h | h
  · rw [stp0 h]; exact k.goto hp
  · rw [stpA h1 h2]
    split
    · exact k.stop _
    · exact k.put _ (res_in k v.a) hp
  · rw [stp23 h]; exact k.put _ (by omega) hp
  · rw [stp24 h]
    split
    · exact k.put _ (k.word (by assumption)) hp
    · exact k.stop _
  · rw [stp25 h]
    split
    · exact (k.setMem _ (k.reg v.b)).goto hp
    · exact k.stop _
  · rw [stp26 h]
    obtain ⟨k1, h1, h2, h3⟩ := k.tak
    exact k1.put _ ⟨h1, h2⟩ (by omega)
  · rw [stp27 h]
    exact (k.setOut _ ho).goto hp
  · have := v.tg (by omega) (by omega); rw [stp28 h]; exact k.goto (by omega)
  · have := v.tg (by omega) (by omega); rw [stp29 h]; exact k.goto (by split <;> omega)
  · have := v.tg (by omega) (by omega); rw [stp30 h]; exact k.goto (by split <;> omega)
  · have := v.tg (by omega) (by omega)
    rw [stp31 h]
    split
    · exact k.stop _
    · have h16 := k.st
      exact (k.push (by omega) hp).goto (by omega)
  · rw [stp32 h]
    split
    · exact k.stop _
    · have h16 := k.st
      exact (k.pop _).goto (getD_memN (by omega) k.wS)
  · rw [stp33 h]; exact k.stop _
theorem out_stp (x : In5) (m : M) (v : Vi x) : (stp x m).out.length ≤ m.out.length + 1 := by
  rcases op_ways v.o with h | ⟨h1, h2⟩ | h | h | h | h | h | h | h | h | h | h | h
  · rw [stp0 h]; simp [goto]
  · rw [stpA h1 h2]; split <;> simp [put, stop]
  · rw [stp23 h]; simp [put]
  · rw [stp24 h]; split <;> simp [put, stop]
  · rw [stp25 h]; split <;> simp [goto, stop]
  · rw [stp26 h]; simp only [put, tak]; split <;> simp
  · rw [stp27 h]; simp [goto]
  · rw [stp28 h]; simp [goto]
  · rw [stp29 h]; simp [goto]
  · rw [stp30 h]; simp [goto]
  · rw [stp31 h]; split <;> simp [goto, stop]
  · rw [stp32 h]; split <;> simp [goto, stop]
  · rw [stp33 h]; simp [stop]
/-- All instructions of a program may be. -/
def Vp (P : List In5) : Prop := P.length ≤ 1024 ∧ ∀ x ∈ P, Vi x
theorem Vp.at_ {P : List In5} (h : Vp P) {i : Nat} (hi : i < P.length) : Vi (P.getD i zi) := by
  rw [List.getD_eq_getElem?_getD, List.getElem?_eq_getElem hi]; exact h.2 _ (List.getElem_mem hi)
theorem Ok.step {m : M} (k : Ok m) {P : List In5} (v : Vp P) (ho : m.out.length < 1000000) : Ok (stepP P m) := by
  unfold stepP
  split
  · exact k.stop _
  · exact k.stp (v.at_ (by omega)) (by have := v.1; omega) ho
theorem out_step {P : List In5} (v : Vp P) (m : M) : (stepP P m).out.length ≤ m.out.length + 1 := by
  unfold stepP
  split
  · unfold stop; simp
  · exact out_stp _ _ (v.at_ (by omega))
end Go.Proofs.YtbgmdikcbglpiaaGreatDoor
