/-
  Contracts of the page's calls that tell whether rows, and states, are the same: where they are. Conditions: both read as the same lists, nil or not, of at most 1,000,000 numbers.
-/
import Derived.Test.YtbgmdikcbglpiaaGreatDoorFlC
import Derived.Deep.LoopGhost
namespace Go.Proofs.YtbgmdikcbglpiaaGreatDoor
open Go.RowKit

theorem Rd.drewN {k : IntKind} {w : World} {v : Value} {xs : List Int} (h : Rd k w v xs) (n : Nat) : Rd k (w.drewN n) v xs := h
set_option maxHeartbeats 1000000 in
theorem eq_w (xs : List Int) (v1 v2 : Value) (w : World) (h1 : Rd .u32 w v1 xs) (h2 : Rd .u32 w v2 xs) (hl : xs.length ≤ 1000000) : Calls Tryz.prog 30 #[v1, v2] w (QuietBool true w) := by
  obtain ⟨A1, c1, rfl, r1⟩ := h1
  obtain ⟨A2, c2, rfl, r2⟩ := h2
  have R1 := Lib.hid r1
  have R2 := Lib.hid r2
  clear r1 r2
  generalize hn : xs.length = n at *
  have HN := Lib.hid hn
  clear hn
  have hne : ((n : Int) != (n : Int)) = false := by simp
  go_enter Tryz.func30, Tryz.ntmps30
  go_wp2
  go_loopw [5] (fun o wr2 => ∃ (i m : Nat), i ≤ n ∧ o = .int .i64 i ∧ wr2 = w.drewN m) (fun o _ => n - (intOf o).toNat)
  case atStart => exact ⟨0, 0, by omega, rfl, rfl⟩
  case round =>
    obtain ⟨i, m, hi, rfl, rfl⟩ := hrel
    by_cases hlt : i < n
    · have hd : decide ((i : Int) < (n : Int)) = true := by simpa using hlt
      have i0 : (0 : Int) ≤ (i : Int) := by omega
      have i1 : (i : Int) < (n : Int) := by omega
      obtain ⟨g1, rfl, hg1, q1⟩ := R1.out (by omega)
      obtain ⟨g2, rfl, hg2, q2⟩ := R2.out (by omega)
      have hz := map_get (k := .u32) (xs := xs) (j := i) (by have := HN.out; omega)
      generalize xs[i]'(by have := HN.out; omega) = z at hz
      have k1 := q1 i _ hz
      have k2 := q2 i _ hz
      have hzz : (z != z) = false := by simp
      clear q1 q2 hz hg1 hg2
      go_wp2_with fail
      go_quiet (fail)
      go_wp2
      go_roundw
      case rel => exact ⟨i + 1, _, by omega, by go_num, rfl⟩
      case measure => simp [intOf]; omega
    · have hd : decide ((i : Int) < (n : Int)) = false := by simp; omega
      go_wp2
      go_ret
      exact ⟨rfl, m, rfl⟩
set_option maxHeartbeats 1000000 in
theorem eq_n (xs : List Int) (v1 v2 : Value) (w : World) (h1 : Rd .i64 w v1 xs) (h2 : Rd .i64 w v2 xs) (hl : xs.length ≤ 1000000) : Calls Tryz.prog 54 #[v1, v2] w (QuietBool true w) := by
  obtain ⟨A1, c1, rfl, r1⟩ := h1
  obtain ⟨A2, c2, rfl, r2⟩ := h2
  have R1 := Lib.hid r1
  have R2 := Lib.hid r2
  clear r1 r2
  generalize hn : xs.length = n at *
  have HN := Lib.hid hn
  clear hn
  have hne : ((n : Int) != (n : Int)) = false := by simp
  go_enter Tryz.func54, Tryz.ntmps54
  go_wp2
  go_loopw [5] (fun o wr2 => ∃ (i m : Nat), i ≤ n ∧ o = .int .i64 i ∧ wr2 = w.drewN m) (fun o _ => n - (intOf o).toNat)
  case atStart => exact ⟨0, 0, by omega, rfl, rfl⟩
  case round =>
    obtain ⟨i, m, hi, rfl, rfl⟩ := hrel
    by_cases hlt : i < n
    · have hd : decide ((i : Int) < (n : Int)) = true := by simpa using hlt
      have i0 : (0 : Int) ≤ (i : Int) := by omega
      have i1 : (i : Int) < (n : Int) := by omega
      obtain ⟨g1, rfl, hg1, q1⟩ := R1.out (by omega)
      obtain ⟨g2, rfl, hg2, q2⟩ := R2.out (by omega)
      have hz := map_get (k := .i64) (xs := xs) (j := i) (by have := HN.out; omega)
      generalize xs[i]'(by have := HN.out; omega) = z at hz
      have k1 := q1 i _ hz
      have k2 := q2 i _ hz
      have hzz : (z != z) = false := by simp
      clear q1 q2 hz hg1 hg2
      go_wp2_with fail
      go_quiet (fail)
      go_wp2
      go_roundw
      case rel => exact ⟨i + 1, _, by omega, by go_num, rfl⟩
      case measure => simp [intOf]; omega
    · have hd : decide ((i : Int) < (n : Int)) = false := by simp; omega
      go_wp2
      go_ret
      exact ⟨rfl, m, rfl⟩
/-- A state's value reads as the data m. -/
def SV (w : World) (v : Value) (m : M) : Prop := ∃ r q i o z y, v = .agg #[r, q, i, .int .i64 m.tk, o, .int .i64 m.pc, z, .int .i64 m.stop, y, .int .i64 m.jp, .int .i64 m.dl] ∧ Rd .u32 w r m.R ∧ Rd .u32 w q m.mem ∧ Rd .u32 w i m.inp ∧ Rd .u32 w o m.out ∧ Rd .i64 w z (m.st.map Int.ofNat) ∧ RdF w y m.fl
theorem SV.below {w w' : World} {v : Value} {m : M} (h : SV w v m) (hb : Below w.heap.size w w') : SV w' v m := by
  obtain ⟨r, q, i, o, z, y, hv, h1, h2, h3, h4, h5, h6⟩ := h
  exact ⟨r, q, i, o, z, y, hv, h1.below hb, h2.below hb, h3.below hb, h4.below hb, h5.below hb, h6.below hb⟩
set_option maxRecDepth 20000 in
set_option maxHeartbeats 2000000 in
theorem eqst_same (m : M) (v1 v2 : Value) (w : World) (h1 : SV w v1 m) (h2 : SV w v2 m) (k : Ok m) : Calls Tryz.prog 19 #[v1, v2] w (BoolBelow true w) := by
  obtain ⟨r, q, i, o, z, y, rfl, a1, a2, a3, a4, a5, a6⟩ := h1
  obtain ⟨r', q', i', o', z', y', rfl, b1, b2, b3, b4, b5, b6⟩ := h2
  have E1 := Lib.hid (fun n => eq_w m.R r r' _ (((a1.alloc (.cells #[r, q, i, .int .i64 m.tk, o, .int .i64 m.pc, z, .int .i64 m.stop, y, .int .i64 m.jp, .int .i64 m.dl] 27)).alloc (.cells #[r', q', i', .int .i64 m.tk, o', .int .i64 m.pc, z', .int .i64 m.stop, y', .int .i64 m.jp, .int .i64 m.dl] 27)).drewN n) (((b1.alloc _).alloc _).drewN n) (by have := k.R; omega))
  have E2 := Lib.hid (fun n => eq_w m.mem q q' _ (((a2.alloc (.cells #[r, q, i, .int .i64 m.tk, o, .int .i64 m.pc, z, .int .i64 m.stop, y, .int .i64 m.jp, .int .i64 m.dl] 27)).alloc (.cells #[r', q', i', .int .i64 m.tk, o', .int .i64 m.pc, z', .int .i64 m.stop, y', .int .i64 m.jp, .int .i64 m.dl] 27)).drewN n) (((b2.alloc _).alloc _).drewN n) (by have := k.mem; omega))
  have E3 := Lib.hid (fun n => eq_w m.inp i i' _ (((a3.alloc (.cells #[r, q, i, .int .i64 m.tk, o, .int .i64 m.pc, z, .int .i64 m.stop, y, .int .i64 m.jp, .int .i64 m.dl] 27)).alloc (.cells #[r', q', i', .int .i64 m.tk, o', .int .i64 m.pc, z', .int .i64 m.stop, y', .int .i64 m.jp, .int .i64 m.dl] 27)).drewN n) (((b3.alloc _).alloc _).drewN n) (by have := k.inp; omega))
  have E4 := Lib.hid (fun n => eq_w m.out o o' _ (((a4.alloc (.cells #[r, q, i, .int .i64 m.tk, o, .int .i64 m.pc, z, .int .i64 m.stop, y, .int .i64 m.jp, .int .i64 m.dl] 27)).alloc (.cells #[r', q', i', .int .i64 m.tk, o', .int .i64 m.pc, z', .int .i64 m.stop, y', .int .i64 m.jp, .int .i64 m.dl] 27)).drewN n) (((b4.alloc _).alloc _).drewN n) k.out)
  have E5 := Lib.hid (fun n => eq_n (m.st.map Int.ofNat) z z' _ (((a5.alloc (.cells #[r, q, i, .int .i64 m.tk, o, .int .i64 m.pc, z, .int .i64 m.stop, y, .int .i64 m.jp, .int .i64 m.dl] 27)).alloc (.cells #[r', q', i', .int .i64 m.tk, o', .int .i64 m.pc, z', .int .i64 m.stop, y', .int .i64 m.jp, .int .i64 m.dl] 27)).drewN n) (((b5.alloc _).alloc _).drewN n) (by have := k.st; simp; omega))
  have E6 := Lib.hid (fun n => eq_f m.fl y y' _ (((a6.alloc (.cells #[r, q, i, .int .i64 m.tk, o, .int .i64 m.pc, z, .int .i64 m.stop, y, .int .i64 m.jp, .int .i64 m.dl] 27)).alloc (.cells #[r', q', i', .int .i64 m.tk, o', .int .i64 m.pc, z', .int .i64 m.stop, y', .int .i64 m.jp, .int .i64 m.dl] 27)).drewN n) (((b6.alloc _).alloc _).drewN n) k.fl)
  have t1 : ((m.tk : Int) == (m.tk : Int)) = true := by simp
  have t2 : ((m.pc : Int) == (m.pc : Int)) = true := by simp
  have t3 : (m.stop == m.stop) = true := by simp
  have t4 : ((m.jp : Int) == (m.jp : Int)) = true := by simp
  have t5 : ((m.dl : Int) == (m.dl : Int)) = true := by simp
  clear a1 a2 a3 a4 a5 a6 b1 b2 b3 b4 b5 b6 k
  go_enter Tryz.func19, Tryz.ntmps19
  go_wp2_with fail
  refine (E1.out 0).mono ?_
  rintro e W1 ⟨rfl, n1, rfl⟩
  go_wp2_with fail
  refine (E2.out _).mono ?_
  rintro e W1 ⟨rfl, n2, rfl⟩
  go_wp2_with fail
  refine (E3.out _).mono ?_
  rintro e W1 ⟨rfl, n3, rfl⟩
  go_wp2_with fail
  refine (E4.out _).mono ?_
  rintro e W1 ⟨rfl, n4, rfl⟩
  go_wp2_with fail
  refine (E5.out _).mono ?_
  rintro e W1 ⟨rfl, n5, rfl⟩
  go_wp2_with fail
  refine (E6.out _).mono ?_
  rintro e W1 ⟨rfl, n6, rfl⟩
  go_wp2
  go_ret
  exact ⟨rfl, below_drewN (below_two _ _ _) _⟩
end Go.Proofs.YtbgmdikcbglpiaaGreatDoor
