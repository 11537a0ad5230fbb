/-
  The page's call step: of a program whose instructions may be, at a state that may be, the state behind it is the one that the Lean function stepP tells. Conditions: the program lies in old memory; the state lies behind the pointer, and may be.
-/
import Derived.Test.YtpnmlednningkaaDoorPg3
namespace Go.Proofs.YtpnmlednningkaaDoor
open Go.RowKit

theorem tak_R (m : M) : (tak m).2.R = m.R := by unfold tak; split <;> rfl
theorem tak_pc' (m : M) : (tak m).2.pc = m.pc := by unfold tak; split <;> rfl
theorem int_nat {y : Int} (h : 0 ≤ y) : y = (y.toNat : Int) := by omega
theorem adr_pg {m : M} {x : In5} : (m.reg x.a + x.m % 4294967296) % 4294967296 = ((adr m x : Nat) : Int) := by rw [adr_eq]; omega
theorem do_in (B p : Nat) (x : In5) (a b back : Int) (m : M) (V : Vs) (w : World) (h : SA B w p m V) (k : Ok m) (ho : x.o = 26) : Calls Tryd.prog 62 #[.pointer (some ⟨p, 0, none⟩), .agg x.cells, .int .u32 a, .int .u32 b, .int .i64 back] w (DoPost B p V true (tak m).1 false 0 0 (tak m).2 w) := by
  unfold tak
  by_cases hk : m.tk = m.inp.length
  · rw [if_pos hk]; exact do_in0 B p x a b back m V w h ho hk
  · rw [if_neg hk]; exact do_in1 B p x a b back m V w h k ho (by have := k.tk; omega)
theorem pstep_ins (B p : Nat) (ad : Addr) (n c : Nat) (x : In5) (m : M) (V : Vs) (w : World) (v : Vi x) (hx : InAt w ad m.pc x) (hbl : ad.block < B) (h : SA B w p m V) (k : Ok m) (hpc : m.pc < n) (hn : n ≤ 1024) : Calls Tryd.prog 48 #[.slice (some ad) n c, .pointer (some ⟨p, 0, none⟩)] w (PStepPost B p (stp x m) w) := by
  have Ua := k.reg v.a
  have Ub := k.reg v.b
  have hpw : m.pc < 1024 := by omega
  rcases op_ways v.o with ho | ⟨h1, h2⟩ | ho | ho | ho | ho | ho | ho | ho | ho | ho | ho | ho
  · rw [stp0 ho]; exact pstep_next B p ad n c x m V w hx hbl h k hpc hn v.a v.b _ m rfl rfl fun W hW => do_nop B p x _ _ _ m V W hW ho
  · rw [stpA h1 h2]
    cases hz : dz x m
    · refine pstep_has B p ad n c x m V w hx hbl h k hpc hn v.a v.b (res x m) v.d m rfl rfl (fun W hW => ?_) k
      unfold res
      by_cases c22 : x.o = 22
      · rw [if_pos c22, ← u_add]; exact do_addi B p x _ _ _ m V W hW c22
      rw [if_neg c22]
      by_cases c18 : 18 ≤ x.o
      · rw [if_pos c18]; exact do_pair B p x _ _ _ m V W hW c18 (by omega) Ua Ub
      rw [if_neg c18]
      refine do_word B p x _ _ _ m V W hW h1 (by omega) Ua Ub ?_
      rintro ⟨h3, h4⟩
      simp [dz, h4] at hz
      omega
    · simp only [dz, Bool.and_eq_true, decide_eq_true_eq] at hz
      obtain ⟨⟨h3, h4⟩, h5⟩ := hz
      exact pstep_stop B p ad n c x m V w hx hbl h k hpc hn v.a v.b 3 (by decide) m rfl rfl fun W hW => do_dz B p x _ _ _ m V W hW h3 h4 Ua h5
  · rw [stp23 ho]; exact pstep_has B p ad n c x m V w hx hbl h k hpc hn v.a v.b _ v.d m rfl rfl (fun W hW => do_li B p x _ _ _ m V W hW ho) k
  · rw [stp24 ho]
    by_cases hin : adr m x < 256
    · rw [if_pos hin]; exact pstep_has B p ad n c x m V w hx hbl h k hpc hn v.a v.b _ v.d m rfl rfl (fun W hW => do_ld B p x _ _ _ m V W hW k ho _ adr_pg hin) k
    · rw [if_neg hin]; exact pstep_stop B p ad n c x m V w hx hbl h k hpc hn v.a v.b 2 (by decide) m rfl rfl fun W hW => do_ldbad B p x _ _ _ m V W hW ho _ adr_pg (by omega)
  · rw [stp25 ho]
    by_cases hin : adr m x < 256
    · rw [if_pos hin]; exact pstep_next B p ad n c x m V w hx hbl h k hpc hn v.a v.b _ { m with mem := m.mem.set (adr m x) (m.reg x.b) } rfl rfl fun W hW => do_st B p x _ _ _ m V W hW k ho _ adr_pg hin
    · rw [if_neg hin]; exact pstep_stop B p ad n c x m V w hx hbl h k hpc hn v.a v.b 2 (by decide) m rfl rfl fun W hW => do_stbad B p x _ _ _ m V W hW ho _ adr_pg (by omega)
  · rw [stp26 ho]; exact pstep_has B p ad n c x m V w hx hbl h k hpc hn v.a v.b _ v.d (tak m).2 (tak_pc' m) (tak_R m) (fun W hW => do_in B p x _ _ _ m V W hW k ho) k.tak.1
  · rw [stp27 ho]; exact pstep_next B p ad n c x m V w hx hbl h k hpc hn v.a v.b _ { m with out := m.out ++ [m.reg x.a] } rfl rfl fun W hW => do_out B p x _ _ _ m V W hW k ho
  · rw [stp28 ho]
    have ht := v.tg (by omega) (by omega)
    refine pstep_jump B p ad n c x m V w hx hbl h k hpc hn v.a v.b _ m rfl rfl fun W hW => ?_
    rw [← int_nat ht.1]
    exact do_jmp B p x _ _ _ m V W hW ho
  · rw [stp29 ho]
    have ht := v.tg (by omega) (by omega)
    by_cases hr : m.reg x.a = 0
    · rw [if_pos hr]
      refine pstep_jump B p ad n c x m V w hx hbl h k hpc hn v.a v.b _ m rfl rfl fun W hW => ?_
      rw [← int_nat ht.1]
      have h1 := do_bz B p x (m.reg x.a) (m.reg x.b) ((m.pc : Int) + 1) m V W hW ho
      rw [show (m.reg x.a == 0) = true by simpa using hr] at h1
      exact h1
    · rw [if_neg hr]
      refine pstep_next B p ad n c x m V w hx hbl h k hpc hn v.a v.b x.m m rfl rfl fun W hW => ?_
      have h1 := do_bz B p x (m.reg x.a) (m.reg x.b) ((m.pc : Int) + 1) m V W hW ho
      rw [show (m.reg x.a == 0) = false by simpa using hr] at h1
      exact h1
  · rw [stp30 ho]
    have ht := v.tg (by omega) (by omega)
    by_cases hr : m.reg x.a = 0
    · rw [if_pos hr]
      refine pstep_next B p ad n c x m V w hx hbl h k hpc hn v.a v.b x.m m rfl rfl fun W hW => ?_
      have h1 := do_bnz B p x (m.reg x.a) (m.reg x.b) ((m.pc : Int) + 1) m V W hW ho
      rw [show (m.reg x.a != 0) = false by simpa using hr] at h1
      exact h1
    · rw [if_neg hr]
      refine pstep_jump B p ad n c x m V w hx hbl h k hpc hn v.a v.b _ m rfl rfl fun W hW => ?_
      rw [← int_nat ht.1]
      have h1 := do_bnz B p x (m.reg x.a) (m.reg x.b) ((m.pc : Int) + 1) m V W hW ho
      rw [show (m.reg x.a != 0) = true by simpa using hr] at h1
      exact h1
  · rw [stp31 ho]
    have ht := v.tg (by omega) (by omega)
    by_cases hf : m.st.length = 16
    · rw [if_pos hf]
      exact pstep_stop B p ad n c x m V w hx hbl h k hpc hn v.a v.b 4 (by decide) m rfl rfl fun W hW => do_callfull B p x _ _ _ m V W hW ho hf
    · rw [if_neg hf]
      refine pstep_jump B p ad n c x m V w hx hbl h k hpc hn v.a v.b _ { m with st := m.st ++ [m.pc + 1] } rfl rfl fun W hW => ?_
      rw [← int_nat ht.1]
      exact do_call B p x _ _ _ m V W hW k ho (by have := k.st; omega) (m.pc + 1) (by omega)
  · rw [stp32 ho]
    by_cases hf : m.st.length = 0
    · rw [if_pos hf]
      exact pstep_stop B p ad n c x m V w hx hbl h k hpc hn v.a v.b 4 (by decide) m rfl rfl fun W hW => do_retnone B p x _ _ _ m V W hW ho (List.length_eq_zero_iff.1 hf)
    · rw [if_neg hf]
      exact pstep_jump B p ad n c x m V w hx hbl h k hpc hn v.a v.b _ { m with st := m.st.take (m.st.length - 1) } rfl rfl fun W hW => do_ret B p x _ _ _ m V W hW k ho _ _ (by omega) rfl
  · rw [stp33 ho]
    exact pstep_stop B p ad n c x m V w hx hbl h k hpc hn v.a v.b 1 (by decide) m rfl rfl fun W hW => do_halt B p x _ _ _ m V W hW ho
theorem pstep_any (B p : Nat) (A : Option Addr) (c : Nat) (P : List In5) (m : M) (V : Vs) (w : World) (v : Vp P) (hP : Prg B w A P) (h : SA B w p m V) (k : Ok m) : Calls Tryd.prog 48 #[.slice A P.length c, .pointer (some ⟨p, 0, none⟩)] w (PStepPost B p (stepP P m) w) := by
  unfold stepP
  by_cases hp : P.length ≤ m.pc
  · rw [if_pos hp]; exact pstep_end B p A P.length c m V w h hp
  · rw [if_neg hp]
    obtain ⟨ad, rfl, hbl, hx⟩ := hP m.pc (by omega)
    exact pstep_ins B p ad P.length c _ m V w (v.at_ (by omega)) hx hbl h k (by omega) v.1
end Go.Proofs.YtpnmlednningkaaDoor
