/-
  Contracts of package seq's call step: in, out, and all ops together. Conditions: the program lies in old memory; the state lies behind the pointer, and may be.
-/
import Derived.Test.YtpnmlednningkaaDoorSq6
import Derived.Deep.RegionHeld3
import Derived.Deep.RegionLaw
namespace Go.Proofs.YtpnmlednningkaaDoor
open Go.RowKit

/-- 'take' once more, with what it leaves alone. -/
def TkPost (B : Nat) (p : Nat) (x : Int) (m' : M) (V : Vs) (w : World) (e : Ending) (w' : World) : Prop := e = .returned (.int .u32 x) ∧ SA B w' p m' V ∧ Below B w w' ∧ (∀ q : Addr, q.block ≠ p → w'.cell? q = w.cell? q) ∧ w'.heap.size = w.heap.size
set_option maxHeartbeats 400000 in
theorem tk_none (B p : Nat) (m : M) (V : Vs) (w : World) (h : SA B w p m V) (hk : m.tk = m.inp.length) : Calls Tryd.prog 59 #[.pointer (some ⟨p, 0, none⟩)] w (TkPost B p 0 m V w) := by
  have H := Lib.hid h
  have c3 : w.cell? ⟨p, 3, none⟩ = some (.int .i64 m.tk) := h.cell 3
  have c2 : w.cell? ⟨p, 2, none⟩ = some (.slice V.ai m.inp.length V.ci) := h.cell 2
  rw [hk] at c3
  have hq : ((m.inp.length : Int) == (m.inp.length : Int)) = true := by simp
  generalize V.ai = ai at c2
  generalize V.ci = ci at c2
  generalize m.inp.length = n at c2 c3 hq
  clear h hk
  go_enter Tryd.func59, Tryd.ntmps59
  go_wp2_with fail
  go_quiet (fail)
  go_wp2
  go_ret
  exact ⟨rfl, H.out.drewN _, below_drewN (Below.refl _ _) _, fun _ _ => rfl, rfl⟩
set_option maxHeartbeats 400000 in
theorem tk_some (B p : Nat) (m : M) (V : Vs) (w : World) (h : SA B w p m V) (k : Ok m) (hk : m.tk < m.inp.length) : Calls Tryd.prog 59 #[.pointer (some ⟨p, 0, none⟩)] w (TkPost B p (m.input m.tk) { m with tk := m.tk + 1 } V w) := by
  have H := Lib.hid h
  have c3 : w.cell? ⟨p, 3, none⟩ = some (.int .i64 m.tk) := h.cell 3
  have c2 : w.cell? ⟨p, 2, none⟩ = some (.slice V.ai m.inp.length V.ci) := h.cell 2
  have f3 := h.frozen 3
  have hpb := h.hp
  obtain ⟨g, hg, hgl, hgc⟩ := h.input hk
  have hgp : g ≠ p := by intro e; subst e; exact h.pi (by rw [hg]; rfl)
  rw [hg] at c2
  have hn := k.inp
  have hq : ((m.tk : Int) == (m.inp.length : Int)) = false := by simp; omega
  generalize V.ci = ci at c2
  generalize hv : m.input m.tk = v at hgc
  generalize hN : m.inp.length = n at c2 hq hn hk
  have e1 : m.tk + 1 - 1 = m.tk := by omega
  generalize ht : m.tk = t at *
  have HT := Lib.hid ht
  have i0 : (0 : Int) ≤ (t : Int) := by omega
  have i1 : (t : Int) < (n : Int) := by omega
  clear h k hN ht
  go_enter Tryd.func59, Tryd.ntmps59
  go_wp2_with fail
  go_quiet (fail)
  go_wp2_with fail
  go_quiet (fail)
  go_wp2
  go_ret
  refine ⟨rfl, ?_, below_drewN (((below_drewN (Below.refl _ _) _).setCell (by exact hpb) _)) _, ?_, by simp⟩
  · rename_i nq1
    exact ((H.out.drewN nq1).setTk (t + 1)).drewN nq
  · intro q hq'
    exact World.cell?_setCell_other _ _ _ _ (fun e => hq' (by rw [← e]))
theorem tk_any (B p : Nat) (m : M) (V : Vs) (w : World) (h : SA B w p m V) (k : Ok m) : Calls Tryd.prog 59 #[.pointer (some ⟨p, 0, none⟩)] w (TkPost B p (tak m).1 (tak m).2 V w) := by
  unfold tak
  by_cases hk : m.tk = m.inp.length
  · rw [if_pos hk]; exact tk_none B p m V w h hk
  · rw [if_neg hk]; exact tk_some B p m V w h k (by have := k.tk; omega)
theorem tak_stop (m : M) : (tak m).2.stop = m.stop := by unfold tak; split <;> rfl
theorem tak_pc (m : M) : (tak m).2.pc = m.pc := by unfold tak; split <;> rfl
set_option maxRecDepth 20000 in
set_option maxHeartbeats 2000000 in
theorem step_in (B p : Nat) (ad : Addr) (n c : Nat) (x : In5) (m : M) (V : Vs) (w : World) (hx : InAt w ad m.pc x) (hbl : ad.block < B) (h : SA B w p m V) (_k : Ok m) (_hs : m.stop = 0) (hpc : m.pc < n) (hn : n ≤ 1024) (ho : x.o = 26) (hd : x.d < 16) (tm : Int × M) (TK0 : ∀ W, SA B W p m V → Calls Tryd.prog 59 #[.pointer (some ⟨p, 0, none⟩)] W (TkPost B p tm.1 tm.2 V W)) (kt : Ok tm.2) (ts : tm.2.stop = 0) (tp : tm.2.pc = m.pc) : Calls Tryd.prog 46 #[.slice (some ad) n c, .pointer (some ⟨p, 0, none⟩)] w (StepPost B p (put tm.2 x.d tm.1) w) := by
  have t0 : ((x.o : Int) == 0) = false := by simp; omega
  have t23 : ((x.o : Int) == 23) = false := by simp; omega
  have t24 : ((x.o : Int) == 24) = false := by simp; omega
  have t25 : ((x.o : Int) == 25) = false := by simp; omega
  have t26 : ((x.o : Int) == 26) = true := by simp; omega
  have t27 : ((x.o : Int) == 27) = false := by simp; omega
  have t28 : ((x.o : Int) == 28) = false := by simp; omega
  have t29 : ((x.o : Int) == 29) = false := by simp; omega
  have t30 : ((x.o : Int) == 30) = false := by simp; omega
  have t31 : ((x.o : Int) == 31) = false := by simp; omega
  have t32 : ((x.o : Int) == 32) = false := by simp; omega
  have t33 : ((x.o : Int) == 33) = false := by simp; omega
  clear ho
  obtain ⟨k0, k1, k2, k3, k4, k5⟩ := hx.k
  have dpc : decide ((n : Int) ≤ (m.pc : Int)) = false := by simp; omega
  have p0 : (0 : Int) ≤ (m.pc : Int) := by omega
  have p1 : (m.pc : Int) < (n : Int) := by omega
  have c5 : w.cell? ⟨p, 5, none⟩ = some (.int .i64 m.pc) := h.cell 5
  have hpw := h.lt
  have hadw : (ad.add (m.pc * 6)).block < w.heap.size := by rw [block_add]; have := h.B_le; omega
  clear hx
  go_enter Tryd.func46, Tryd.ntmps46
  go_wp2_with fail
  generalize hW : w.alloc (.cells #[.int .i64 x.o, .int .i64 x.d, .int .i64 x.a, .int .i64 x.b, .int .i64 x.m, .string ByteArray.empty] 54) = W
  have BX := Lib.hid (show Bx W w.heap.size x by rw [← hW]; exact bx_new w x)
  have SW := Lib.hid (show SA B W p m V by rw [← hW]; exact h.alloc _)
  have HB := Lib.hid (show Below B w W by rw [← hW]; exact (below_new w _).mono h.B_le)
  have hzz : w.heap.size < W.heap.size := BX.out.lt
  have hpl : p < W.heap.size := SW.out.lt
  have hpz : p ≠ w.heap.size := Nat.ne_of_lt h.lt
  have hrz : V.gr ≠ w.heap.size := Nat.ne_of_lt h.gr_lt.2
  clear hW k0 k1 k2 k3 k4 k5 c5 hpw hadw p0 p1 dpc
  have q0 : W.cell? ⟨w.heap.size, 0, none⟩ = some (.int .i64 x.o) := BX.out.c 0
  have q1 : W.cell? ⟨w.heap.size, 1, none⟩ = some (.int .i64 x.d) := BX.out.c 1
  have q2 : W.cell? ⟨w.heap.size, 2, none⟩ = some (.int .i64 x.a) := BX.out.c 2
  have q3 : W.cell? ⟨w.heap.size, 3, none⟩ = some (.int .i64 x.b) := BX.out.c 3
  have q4 : W.cell? ⟨w.heap.size, 4, none⟩ = some (.int .i64 x.m) := BX.out.c 4
  have q5 : W.cell? ⟨w.heap.size, 5, none⟩ = some (.string ByteArray.empty) := BX.out.c 5
  have d0 : W.cell? ⟨p, 0, none⟩ = some (.slice (some ⟨V.gr, 0, none⟩) 16 V.cr) := SW.out.cell 0
  have i2 : (0 : Int) ≤ (x.d : Int) := by omega
  have i3 : (x.d : Int) < 16 := by omega
  have TK := Lib.hid (TK0 W.drew SW.out.drew)
  have K2 := Lib.hid kt
  have TR := Lib.hid ts
  have EQ := Lib.hid (show (m.pc : Int) + 1 = ((tm.2.pc + 1 : Nat) : Int) by omega)
  clear tp ts kt TK0
  go_region_law (go_simp; go_at_call 59; refine TK.out.mono ?_; rintro e W2 ⟨rfl, S2, hb2, hoth, hsz⟩; have z1 : W2.cell? ⟨w.heap.size, 1, none⟩ = some (.int .i64 x.d) := (hoth ⟨w.heap.size, 1, none⟩ hpz.symm).trans q1; have z0 : W2.cell? ⟨p, 0, none⟩ = some (.slice (some ⟨V.gr, 0, none⟩) 16 V.cr) := S2.cell 0; have rd := S2.reg K2.out hd; have rf := S2.regF x.d; have hg2 := S2.gr_lt.2; have hp2 := S2.lt; have f7 := S2.frozen 7; have f5 := S2.frozen 5; have e7 : W2.cell? ⟨p, 7, none⟩ = some (.int .i64 tm.2.stop) := S2.cell 7; have e5 : W2.cell? ⟨p, 5, none⟩ = some (.int .i64 tm.2.pc) := S2.cell 5; have hgp : V.gr ≠ p := S2.pr; have SX := Lib.hid (S2.setR x.d tm.1); have BX2 := Lib.hid ((HB.out.drew.trans hb2).setCell (p := ⟨V.gr, x.d, none⟩) (by exact S2.gr_lt.1) (.int .u32 tm.1)); clear hoth hsz hb2 S2)
  all_goals go_wp2
  all_goals go_end0
  all_goals exact ⟨rfl, fin_go SX.out TR.out EQ.out, fin_b2 BX2.out SX.out.hp _ _⟩
section
variable {B p g cap : Nat} {w W w7 : World} {m : M} {V : Vs}
theorem faroJ (h : SA B W p m V) (hg : W.grownBy w7 (ob V.ao)) (j : Nat) {u : Value} (hu : (stCells m V)[j]? = some u) : w7.cell? ⟨p, j, none⟩ = some u ∧ w7.frozen? ⟨p, j, none⟩ = false :=
  ⟨((hg.cell_far ⟨p, j, none⟩ h.lt (fun e => h.po e.symm)).trans (h.cell j)).trans hu, (hg.frozen_far ⟨p, j, none⟩ h.lt (fun e => h.po e.symm)).trans (h.frozen j)⟩
end
set_option maxRecDepth 20000 in
set_option maxHeartbeats 2000000 in
theorem step_out (B p : Nat) (ad : Addr) (n c : Nat) (x : In5) (m : M) (V : Vs) (w : World) (hx : InAt w ad m.pc x) (hbl : ad.block < B) (h : SA B w p m V) (k : Ok m) (hs : m.stop = 0) (hpc : m.pc < n) (hn : n ≤ 1024) (ho : x.o = 27) (ha : x.a < 16) : Calls Tryd.prog 46 #[.slice (some ad) n c, .pointer (some ⟨p, 0, none⟩)] w (StepPost B p (goto { m with out := m.out ++ [m.reg x.a] } (m.pc + 1)) w) := by
  have t0 : ((x.o : Int) == 0) = false := by simp; omega
  have t23 : ((x.o : Int) == 23) = false := by simp; omega
  have t24 : ((x.o : Int) == 24) = false := by simp; omega
  have t25 : ((x.o : Int) == 25) = false := by simp; omega
  have t26 : ((x.o : Int) == 26) = false := by simp; omega
  have t27 : ((x.o : Int) == 27) = true := by simp; omega
  have t28 : ((x.o : Int) == 28) = false := by simp; omega
  have t29 : ((x.o : Int) == 29) = false := by simp; omega
  have t30 : ((x.o : Int) == 30) = false := by simp; omega
  have t31 : ((x.o : Int) == 31) = false := by simp; omega
  have t32 : ((x.o : Int) == 32) = false := by simp; omega
  have t33 : ((x.o : Int) == 33) = false := by simp; omega
  clear ho
  obtain ⟨k0, k1, k2, k3, k4, k5⟩ := hx.k
  have HS := Lib.hid hs
  have dpc : decide ((n : Int) ≤ (m.pc : Int)) = false := by simp; omega
  have p0 : (0 : Int) ≤ (m.pc : Int) := by omega
  have p1 : (m.pc : Int) < (n : Int) := by omega
  have c5 : w.cell? ⟨p, 5, none⟩ = some (.int .i64 m.pc) := h.cell 5
  have hpw := h.lt
  have hadw : (ad.add (m.pc * 6)).block < w.heap.size := by rw [block_add]; have := h.B_le; omega
  clear hx hs
  go_enter Tryd.func46, Tryd.ntmps46
  go_wp2_with fail
  generalize hW : w.alloc (.cells #[.int .i64 x.o, .int .i64 x.d, .int .i64 x.a, .int .i64 x.b, .int .i64 x.m, .string ByteArray.empty] 54) = W
  have BX := Lib.hid (show Bx W w.heap.size x by rw [← hW]; exact bx_new w x)
  have SW := Lib.hid (show SA B W p m V by rw [← hW]; exact h.alloc _)
  have HB := Lib.hid (show Below B w W by rw [← hW]; exact (below_new w _).mono h.B_le)
  have hzz : w.heap.size < W.heap.size := BX.out.lt
  have hpl : p < W.heap.size := SW.out.lt
  have hpz : p ≠ w.heap.size := Nat.ne_of_lt h.lt
  have hrz : V.gr ≠ w.heap.size := Nat.ne_of_lt h.gr_lt.2
  clear hW k0 k1 k2 k3 k4 k5 c5 hpw hadw p0 p1 dpc
  have q0 : W.cell? ⟨w.heap.size, 0, none⟩ = some (.int .i64 x.o) := BX.out.c 0
  have q1 : W.cell? ⟨w.heap.size, 1, none⟩ = some (.int .i64 x.d) := BX.out.c 1
  have q2 : W.cell? ⟨w.heap.size, 2, none⟩ = some (.int .i64 x.a) := BX.out.c 2
  have q3 : W.cell? ⟨w.heap.size, 3, none⟩ = some (.int .i64 x.b) := BX.out.c 3
  have q4 : W.cell? ⟨w.heap.size, 4, none⟩ = some (.int .i64 x.m) := BX.out.c 4
  have q5 : W.cell? ⟨w.heap.size, 5, none⟩ = some (.string ByteArray.empty) := BX.out.c 5
  have d0 : W.cell? ⟨p, 0, none⟩ = some (.slice (some ⟨V.gr, 0, none⟩) 16 V.cr) := SW.out.cell 0
  have d4 : W.cell? ⟨p, 4, none⟩ = some (.slice V.ao m.out.length V.co) := SW.out.cell 4
  have i0 : (0 : Int) ≤ (x.a : Int) := by omega
  have i1 : (x.a : Int) < 16 := by omega
  have ra := SW.out.reg k ha
  have hol := k.out
  have f4 := SW.out.frozen 4
  go_region_law ((with_reducible refine step_app 23 60 4 (.int .u32 0) Tryd.info60 rfl (by decide) Tryd.underlying23 (o := ⟨some 85, _, _, _, _, none⟩) (B := B) (n := m.out.length) (c := V.co) (va := V.ao) (xs := m.out.map ui) (u := .int .u32 (m.reg x.a)) rfl rfl _ _ rfl ?_ ?_ ?_ ?_ ?_ ?_ ?_ ?_); (· rfl); rotate_left; (· rfl); (· exact heap_alloc_new W _); (· exact (SW.out.alloc _).drew.ho); (· omega); (· exact (SW.out.alloc _).drew.B_le); intro g cap w7 hown7 hg7 hat7 hlt7; have F4 := faroJ (SW.out.alloc _).drew hg7 4 rfl; have F5 := faroJ (SW.out.alloc _).drew hg7 5 rfl; have F7 := faroJ (SW.out.alloc _).drew hg7 7 rfl; obtain ⟨x4, y4⟩ := F4; obtain ⟨x5, y5⟩ := F5; obtain ⟨x7, y7⟩ := F7; have L7 : p < w7.heap.size := World.block_lt_of_cell? w7 _ x4; have P7 := Lib.hid ((SW.out.alloc _).drew.app hg7 hown7 hat7); have B7 := Lib.hid (belowo7 HB.out SW.out hg7); clear hown7 hg7 hat7)
  all_goals go_wp2
  all_goals go_end0
  all_goals exact ⟨rfl, fin_go P7.out HS.out (by omega), fin_b2 (B7.out.setCell (by exact SW.out.hp) _) SW.out.hp _ _⟩

theorem nat_of {y : Int} (h : 0 ≤ y) : y = (y.toNat : Int) := by omega
/-- All ops. -/
theorem step_ins (B p : Nat) (ad : Addr) (n c : Nat) (x : In5) (m : M) (V : Vs) (w : World) (v : Vi x) (hx : InAt w ad m.pc x) (hbl : ad.block < B) (h : SA B w p m V) (k : Ok m) (hs : m.stop = 0) (hpc : m.pc < n) (hn : n ≤ 1024) : Calls Tryd.prog 46 #[.slice (some ad) n c, .pointer (some ⟨p, 0, none⟩)] w (StepPost B p (stp x m) w) := by
  rcases op_ways v.o with ho | ⟨h1, h2⟩ | ho | ho | ho | ho | ho | ho | ho | ho | ho | ho | ho
  · rw [stp0 ho]; exact step_nop B p ad n c x m V w hx hbl h k hs hpc hn ho
  · rw [stpA h1 h2]
    cases hz : dz x m
    · exact step_alu B p ad n c x m V w hx hbl h k hs hpc hn ⟨h1, h2⟩ v.a v.d v.b hz
    · exact step_dz B p ad n c x m V w hx hbl h k hs hpc hn ⟨h1, h2⟩ v.a v.b hz
  · rw [stp23 ho]; exact step_li B p ad n c x m V w hx hbl h k hs hpc hn ho v.d
  · rw [stp24 ho]
    by_cases hin : adr m x < 256
    · rw [if_pos hin]; exact step_ld B p ad n c x m V w hx hbl h k hs hpc hn ho v.a v.d v.b hin
    · rw [if_neg hin]; exact step_ldbad B p ad n c x m V w hx hbl h k hs hpc hn ho v.a (by omega)
  · rw [stp25 ho]
    by_cases hin : adr m x < 256
    · rw [if_pos hin]; exact step_st B p ad n c x m V w hx hbl h k hs hpc hn ho v.a v.d v.b hin
    · rw [if_neg hin]; exact step_stbad B p ad n c x m V w hx hbl h k hs hpc hn ho v.a (by omega)
  · rw [stp26 ho]; exact step_in B p ad n c x m V w hx hbl h k hs hpc hn ho v.d (tak m) (fun W hW => tk_any B p m V W hW k) k.tak.1 ((tak_stop m).trans hs) (tak_pc m)
  · rw [stp27 ho]; exact step_out B p ad n c x m V w hx hbl h k hs hpc hn ho v.a
  · rw [stp28 ho]
    have ht := v.tg (by omega) (by omega)
    refine step_go28 B p ad n c x m V w hx hbl h k hs hpc hn ho m _ hs fun W hW => ?_
    rw [← nat_of ht.1]
    exact jump_jmp B p x m V W hW ho
  · rw [stp29 ho]
    have ht := v.tg (by omega) (by omega)
    refine step_go29 B p ad n c x m V w hx hbl h k hs hpc hn ho m _ hs fun W hW => ?_
    by_cases hr : m.reg x.a = 0
    · rw [if_pos hr, ← nat_of ht.1]; exact jump_bz_yes B p x m V W hW k ho v.a hr
    · rw [if_neg hr]; exact jump_bz_no B p x m V W hW k ho v.a hr
  · rw [stp30 ho]
    have ht := v.tg (by omega) (by omega)
    refine step_go30 B p ad n c x m V w hx hbl h k hs hpc hn ho m _ hs fun W hW => ?_
    by_cases hr : m.reg x.a = 0
    · rw [if_pos hr]; exact jump_bnz_no B p x m V W hW k ho v.a hr
    · rw [if_neg hr, ← nat_of ht.1]; exact jump_bnz_yes B p x m V W hW k ho v.a hr
  · rw [stp31 ho]
    have ht := v.tg (by omega) (by omega)
    by_cases hf : m.st.length = 16
    · rw [if_pos hf]
      exact step_stop31 B p ad n c x m V w hx hbl h k hs hpc hn ho fun W hW => jump_call B p x m V W hW _ _ _ (fun W' hW' => call_full B p x m V W' hW' hf) ho
    · rw [if_neg hf]
      refine step_go31 B p ad n c x m V w hx hbl h k hs hpc hn ho { m with st := m.st ++ [m.pc + 1] } _ hs fun W hW => ?_
      rw [← nat_of ht.1]
      exact jump_call B p x m V W hW _ _ _ (fun W' hW' => call_ok B p x m V W' hW' k (by have := k.st; omega)) ho
  · rw [stp32 ho]
    by_cases hf : m.st.length = 0
    · rw [if_pos hf]
      exact step_stop32 B p ad n c x m V w hx hbl h k hs hpc hn ho fun W hW => jump_ret B p x m V W hW _ _ _ (fun W' hW' => ret_none B p m V W' hW' (List.length_eq_zero_iff.1 hf)) ho
    · rw [if_neg hf]
      exact step_go32 B p ad n c x m V w hx hbl h k hs hpc hn ho { m with st := m.st.take (m.st.length - 1) } _ hs fun W hW => jump_ret B p x m V W hW _ _ _ (fun W' hW' => ret_some B p m V W' hW' k _ (by omega)) ho
  · rw [stp33 ho]
    exact step_stop33 B p ad n c x m V w hx hbl h k hs hpc hn ho fun W hW => jump_halt B p x m V W hW ho
theorem step_any (B p : Nat) (A : Option Addr) (c : Nat) (P : List In5) (m : M) (V : Vs) (w : World) (v : Vp P) (hP : Prg B w A P) (h : SA B w p m V) (k : Ok m) (hs : m.stop = 0) : Calls Tryd.prog 46 #[.slice A P.length c, .pointer (some ⟨p, 0, none⟩)] w (StepPost B p (stepP P m) w) := by
  unfold stepP
  by_cases hp : P.length ≤ m.pc
  · rw [if_pos hp]; exact step_end B p A P.length c m V w h hp
  · rw [if_neg hp]
    obtain ⟨ad, rfl, hbl, hx⟩ := hP m.pc (by omega)
    exact step_ins B p ad P.length c _ m V w (v.at_ (by omega)) hx hbl h k hs (by omega) v.1
end Go.Proofs.YtpnmlednningkaaDoor
