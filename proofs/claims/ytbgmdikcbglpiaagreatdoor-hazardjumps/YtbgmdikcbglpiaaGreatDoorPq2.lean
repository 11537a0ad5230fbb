/-
  Contracts of the page's Latency, and of its call do as a slot has it: what a slot does is what the Lean function slot tells. Conditions: the state lies behind the pointer, and may be; the instruction may be.
-/
import Derived.Test.YtbgmdikcbglpiaaGreatDoorPq1
namespace Go.Proofs.YtbgmdikcbglpiaaGreatDoor
open Go.RowKit

theorem rlat_any (n : Nat) (w : World) (h : n < 34) : Calls Tryz.prog 38 #[.int .i64 n] w (IntPost (lt n) w) := by
  obtain rfl | rfl | rfl | rfl | rfl | rfl | rfl | rfl | rfl | rfl | rfl | rfl | rfl | rfl | rfl | rfl | rfl | rfl | rfl | rfl | rfl | rfl | rfl | rfl | rfl | rfl | rfl | rfl | rfl | rfl | rfl | rfl | rfl | rfl : n = 0 ∨ n = 1 ∨ n = 2 ∨ n = 3 ∨ n = 4 ∨ n = 5 ∨ n = 6 ∨ n = 7 ∨ n = 8 ∨ n = 9 ∨ n = 10 ∨ n = 11 ∨ n = 12 ∨ n = 13 ∨ n = 14 ∨ n = 15 ∨ n = 16 ∨ n = 17 ∨ n = 18 ∨ n = 19 ∨ n = 20 ∨ n = 21 ∨ n = 22 ∨ n = 23 ∨ n = 24 ∨ n = 25 ∨ n = 26 ∨ n = 27 ∨ n = 28 ∨ n = 29 ∨ n = 30 ∨ n = 31 ∨ n = 32 ∨ n = 33 := by omega
  all_goals
    clear h
    go_enter Tryz.func38, Tryz.ntmps38
    go_wp2
    go_ret
    exact int_mk (by decide)
/-- What is left to do behind a deed. -/
def fin (has : Bool) (v : Int) (j : Bool) (tt : Int) (x : In5) (m' : M) : M :=
  bif j then jmp (bif has then fly m' x v else m') tt.toNat else (bif has then fly m' x v else m')
structure Deed (B p : Nat) (x : In5) (m : M) (has : Bool) (v : Int) (j : Bool) (tt st : Int) (m' : M) : Prop where
  c : ∀ W V, SA B W p m V → Calls Tryz.prog 78 #[.pointer (some ⟨p, 0, none⟩), .agg x.cells, .int .u32 (m.reg x.a), .int .u32 (m.reg x.b), .int .i64 ((min (m.pc + 3) 1024 : Nat) : Int)] W (DoPost B p V has v j tt st m' W)
  pc : m'.pc = m.pc
  R : m'.R = m.R
  fl : m'.fl = m.fl
  stp : st ≠ 0 → slot x m = (m', false, st)
  goo : st = 0 → slot x m = (fin has v j tt x m', j, 0)
  jj : j = true → 0 ≤ tt
  hj : has = true → j = false
theorem tak_R0 (m : M) : (tak m).2.R = m.R ∧ (tak m).2.pc = m.pc := by unfold tak; split <;> exact ⟨rfl, rfl⟩
theorem adr_pg {m : M} {x : In5} : (m.reg x.a + x.m % 4294967296) % 4294967296 = ((adr m x : Nat) : Int) := by rw [adr_eq]; omega
theorem do_in (B p : Nat) (x : In5) (a b back : Int) (m : M) (V : Vs) (w : World) (h : SA B w p m V) (k : Ok m) (ho : x.o = 26) : Calls Tryz.prog 78 #[.pointer (some ⟨p, 0, none⟩), .agg x.cells, .int .u32 a, .int .u32 b, .int .i64 back] w (DoPost B p V true (tak m).1 false 0 0 (tak m).2 w) := by
  unfold tak
  by_cases hk : m.tk = m.inp.length
  · rw [if_pos hk]; exact do_in0 B p x a b back m V w h ho hk
  · rw [if_neg hk]; exact do_in1 B p x a b back m V w h k ho (by have := k.tk; omega)
theorem deed_any (B p : Nat) (x : In5) (m : M) (k : Ok m) (v : Vi x) : ∃ has vv j tt st m', Deed B p x m has vv j tt st m' := by
  have Ua := k.reg v.a
  have Ub := k.reg v.b
  have hpc := k.pc
  rcases op_ways v.o with ho | ⟨h1, h2⟩ | ho | ho | ho | ho | ho | ho | ho | ho | ho | ho | ho
  · exact ⟨_, _, _, _, _, m, fun W V hW => do_nop B p x _ _ _ m V W hW ho, rfl, rfl, rfl, fun h => absurd rfl h, fun _ => by unfold slot; rw [if_pos ho]; rfl, by simp, by simp⟩
  · have e : slot x m = (if dz x m then (m, false, 3) else (fly m x (res x m), false, 0)) := by unfold slot; rw [if_neg (by omega), if_pos h2]
    cases hz : dz x m
    · rw [hz] at e
      refine ⟨true, res x m, false, 0, 0, m, fun W V hW => ?_, rfl, rfl, rfl, fun h => absurd rfl h, fun _ => e, by simp, by simp⟩
      unfold res
      by_cases c22 : x.o = 22
      · rw [if_pos c22, ← u_add]; exact do_addi B p x _ _ _ m V W hW c22
      rw [if_neg c22]
      by_cases c18 : 18 ≤ x.o
      · rw [if_pos c18]; exact do_pair B p x _ _ _ m V W hW c18 (by omega) Ua Ub
      rw [if_neg c18]
      refine do_word B p x _ _ _ m V W hW h1 (by omega) Ua Ub ?_
      rintro ⟨h3, h4⟩
      simp [dz, h4] at hz
      omega
    · rw [hz] at e
      simp only [dz, Bool.and_eq_true, decide_eq_true_eq] at hz
      obtain ⟨⟨h3, h4⟩, h5⟩ := hz
      exact ⟨_, _, _, _, _, m, fun W V hW => do_dz B p x _ _ _ m V W hW h3 h4 Ua h5, rfl, rfl, rfl, fun _ => e, fun h => absurd h (by decide), by simp, by simp⟩
  · exact ⟨_, _, _, _, _, m, fun W V hW => do_li B p x _ _ _ m V W hW ho, rfl, rfl, rfl, fun h => absurd rfl h, fun _ => by unfold slot; rw [if_neg (by omega), if_neg (by omega), if_pos ho]; rfl, by simp, by simp⟩
  · have e : slot x m = (if adr m x < 256 then (fly m x (m.word (adr m x)), false, 0) else (m, false, 2)) := by unfold slot; rw [if_neg (by omega), if_neg (by omega), if_neg (by omega), if_pos ho]
    by_cases hin : adr m x < 256
    · rw [if_pos hin] at e
      exact ⟨_, _, _, _, _, m, fun W V hW => do_ld B p x _ _ _ m V W hW k ho _ adr_pg hin, rfl, rfl, rfl, fun h => absurd rfl h, fun _ => e, by simp, by simp⟩
    · rw [if_neg hin] at e
      exact ⟨_, _, _, _, _, m, fun W V hW => do_ldbad B p x _ _ _ m V W hW ho _ adr_pg (by omega), rfl, rfl, rfl, fun _ => e, fun h => absurd h (by decide), by simp, by simp⟩
  · have e : slot x m = (if adr m x < 256 then ({ m with mem := m.mem.set (adr m x) (m.reg x.b) }, false, 0) else (m, false, 2)) := by unfold slot; rw [if_neg (by omega), if_neg (by omega), if_neg (by omega), if_neg (by omega), if_pos ho]
    by_cases hin : adr m x < 256
    · rw [if_pos hin] at e
      exact ⟨_, _, _, _, _, { m with mem := m.mem.set (adr m x) (m.reg x.b) }, fun W V hW => do_st B p x _ _ _ m V W hW k ho _ adr_pg hin, rfl, rfl, rfl, fun h => absurd rfl h, fun _ => e, by simp, by simp⟩
    · rw [if_neg hin] at e
      exact ⟨_, _, _, _, _, m, fun W V hW => do_stbad B p x _ _ _ m V W hW ho _ adr_pg (by omega), rfl, rfl, rfl, fun _ => e, fun h => absurd h (by decide), by simp, by simp⟩
  · exact ⟨_, _, _, _, _, (tak m).2, fun W V hW => do_in B p x _ _ _ m V W hW k ho, (tak_R0 m).2, (tak_R0 m).1, tak_fl0 m, fun h => absurd rfl h, fun _ => by unfold slot; rw [if_neg (by omega), if_neg (by omega), if_neg (by omega), if_neg (by omega), if_neg (by omega), if_pos ho]; rfl, by simp, by simp⟩
  · exact ⟨_, _, _, _, _, { m with out := m.out ++ [m.reg x.a] }, fun W V hW => do_out B p x _ _ _ m V W hW k ho, rfl, rfl, rfl, fun h => absurd rfl h, fun _ => by unfold slot; rw [if_neg (by omega), if_neg (by omega), if_neg (by omega), if_neg (by omega), if_neg (by omega), if_neg (by omega), if_pos ho]; rfl, by simp, by simp⟩
  · have ht := v.tg (by omega) (by omega)
    exact ⟨_, _, _, _, _, m, fun W V hW => do_jmp B p x _ _ _ m V W hW ho, rfl, rfl, rfl, fun h => absurd rfl h, fun _ => by unfold slot; rw [if_neg (by omega), if_neg (by omega), if_neg (by omega), if_neg (by omega), if_neg (by omega), if_neg (by omega), if_neg (by omega), if_pos ho]; rfl, fun _ => ht.1, by simp⟩
  · have ht := v.tg (by omega) (by omega)
    have e : slot x m = (if m.reg x.a = 0 then (jmp m x.m.toNat, true, 0) else (m, false, 0)) := by unfold slot; rw [if_neg (by omega), if_neg (by omega), if_neg (by omega), if_neg (by omega), if_neg (by omega), if_neg (by omega), if_neg (by omega), if_neg (by omega), if_pos ho]
    refine ⟨_, _, _, _, _, m, fun W V hW => do_bz B p x _ _ _ m V W hW ho, rfl, rfl, rfl, fun h => absurd rfl h, fun _ => ?_, fun _ => ht.1, by simp⟩
    rw [e]
    by_cases hr : m.reg x.a = 0
    · rw [if_pos hr, show (m.reg x.a == 0) = true by simpa using hr]; rfl
    · rw [if_neg hr, show (m.reg x.a == 0) = false by simpa using hr]; rfl
  · have ht := v.tg (by omega) (by omega)
    have e : slot x m = (if m.reg x.a = 0 then (m, false, 0) else (jmp m x.m.toNat, true, 0)) := by unfold slot; rw [if_neg (by omega), if_neg (by omega), if_neg (by omega), if_neg (by omega), if_neg (by omega), if_neg (by omega), if_neg (by omega), if_neg (by omega), if_neg (by omega), if_pos ho]
    refine ⟨_, _, _, _, _, m, fun W V hW => do_bnz B p x _ _ _ m V W hW ho, rfl, rfl, rfl, fun h => absurd rfl h, fun _ => ?_, fun _ => ht.1, by simp⟩
    rw [e]
    by_cases hr : m.reg x.a = 0
    · rw [if_pos hr, show (m.reg x.a != 0) = false by simpa using hr]; rfl
    · rw [if_neg hr, show (m.reg x.a != 0) = true by simpa using hr]; rfl
  · have ht := v.tg (by omega) (by omega)
    have e : slot x m = (if m.st.length = 16 then (m, false, 4) else (jmp { m with st := m.st ++ [min (m.pc + 3) 1024] } x.m.toNat, true, 0)) := by unfold slot; rw [if_neg (by omega), if_neg (by omega), if_neg (by omega), if_neg (by omega), if_neg (by omega), if_neg (by omega), if_neg (by omega), if_neg (by omega), if_neg (by omega), if_neg (by omega), if_pos ho]
    by_cases hf : m.st.length = 16
    · rw [if_pos hf] at e
      exact ⟨_, _, _, _, _, m, fun W V hW => do_callfull B p x _ _ _ m V W hW ho hf, rfl, rfl, rfl, fun _ => e, fun h => absurd h (by decide), by simp, by simp⟩
    · rw [if_neg hf] at e
      exact ⟨_, _, _, _, _, { m with st := m.st ++ [min (m.pc + 3) 1024] }, fun W V hW => do_call B p x _ _ _ m V W hW k ho (by have := k.st; omega) (min (m.pc + 3) 1024) rfl, rfl, rfl, rfl, fun h => absurd rfl h, fun _ => e, fun _ => ht.1, by simp⟩
  · have e : slot x m = (if m.st.length = 0 then (m, false, 4) else (jmp { m with st := m.st.take (m.st.length - 1) } (m.st.getD (m.st.length - 1) 0), true, 0)) := by unfold slot; rw [if_neg (by omega), if_neg (by omega), if_neg (by omega), if_neg (by omega), if_neg (by omega), if_neg (by omega), if_neg (by omega), if_neg (by omega), if_neg (by omega), if_neg (by omega), if_neg (by omega), if_pos ho]
    by_cases hf : m.st.length = 0
    · rw [if_pos hf] at e
      exact ⟨_, _, _, _, _, m, fun W V hW => do_retnone B p x _ _ _ m V W hW ho (List.length_eq_zero_iff.1 hf), rfl, rfl, rfl, fun _ => e, fun h => absurd h (by decide), by simp, by simp⟩
    · rw [if_neg hf] at e
      exact ⟨_, _, _, _, _, { m with st := m.st.take (m.st.length - 1) }, fun W V hW => do_ret B p x _ _ _ m V W hW k ho _ _ (by omega) rfl, rfl, rfl, rfl, fun h => absurd rfl h, fun _ => e, fun _ => (by omega), by simp⟩
  · exact ⟨_, _, _, _, _, m, fun W V hW => do_halt B p x _ _ _ m V W hW ho, rfl, rfl, rfl, fun _ => by unfold slot; rw [if_neg (by omega), if_neg (by omega), if_neg (by omega), if_neg (by omega), if_neg (by omega), if_neg (by omega), if_neg (by omega), if_neg (by omega), if_neg (by omega), if_neg (by omega), if_neg (by omega), if_neg (by omega)], fun h => absurd h (by decide), by simp, by simp⟩
end Go.Proofs.YtbgmdikcbglpiaaGreatDoor
