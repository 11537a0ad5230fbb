/-
  Contract of package pipe's isFlight, where what flies may be. Condition: the row reads as a list of results that may fly.
-/
import Derived.Test.YtbkikibdnpffpaaGreatDoorCk
import Derived.Test.YtbkikibdnpffpaaGreatDoorCpO
namespace Go.Proofs.YtbkikibdnpffpaaGreatDoor
open Go.RowKit

/-- How many have so many cycles left. -/
def cn (l : List Fl) (k : Nat) : Nat := l.countP fun f => decide (f.k = k)
/-- The five counts. -/
def cns (l : List Fl) : Array Value := #[.int .i64 (cn l 0 : Nat), .int .i64 (cn l 1 : Nat), .int .i64 (cn l 2 : Nat), .int .i64 (cn l 3 : Nat), .int .i64 (cn l 4 : Nat)]
theorem cn_take {l : List Fl} {i : Nat} (hi : i < l.length) (k : Nat) : cn (l.take (i + 1)) k = cn (l.take i) k + (if l[i].k = k then 1 else 0) := by
  unfold cn
  rw [List.take_succ_eq_append_getElem hi, List.countP_append]
  by_cases h : l[i].k = k
  · simp [h]
  · simp [h]
/-- How many have so many cycles left, or more. -/
def cge (l : List Fl) (k : Nat) : Nat := l.countP fun f => decide (k ≤ f.k)
theorem cge_succ (l : List Fl) (k : Nat) : cge l k = cge l (k + 1) + cn l k := by
  unfold cge cn
  induction l with
  | nil => rfl
  | cons f l ih =>
    simp only [List.countP_cons, decide_eq_true_eq]
    rw [ih]
    by_cases h1 : f.k = k
    · rw [if_pos (by omega), if_neg (by omega), if_pos h1]
      omega
    · by_cases h2 : k + 1 ≤ f.k
      · rw [if_pos (by omega), if_pos h2, if_neg h1]
        omega
      · rw [if_neg (by omega), if_neg h2, if_neg h1]
        omega
theorem cge_five {l : List Fl} (h : ∀ f ∈ l, f.k ≤ 4) : cge l 5 = 0 := by
  unfold cge
  rw [List.countP_eq_zero]
  intro f hf
  have := h f hf
  simp; omega
def cnt (l : List Fl) (i : Nat) : Nat := cge l (5 - i)
set_option maxRecDepth 100000 in
set_option maxHeartbeats 4000000 in
theorem isFlight_good (l : List Fl) (v : Value) (w : World) (h : RdF w v l) (hl : l.length ≤ 1000) (hf : Fb 4 l) : Calls Tryz.prog 32 #[v] w (BoolBelow true w) := by
  obtain ⟨A, c, rfl, r⟩ := h
  have R := Lib.hid r
  have FB := Lib.hid hf
  clear r hf
  generalize hn : l.length = n at *
  have HN := Lib.hid hn
  clear hn
  have NIL := Lib.hid (show cns (l.take 0) = #[.int .i64 0, .int .i64 0, .int .i64 0, .int .i64 0, .int .i64 0] from rfl)
  go_enter Tryz.func32, Tryz.ntmps32
  go_wp2_with fail
  go_loopg [10] n (fun gk o wr2 => ∃ i : Nat, i ≤ n ∧ gk = n - i ∧ o = .int .i64 i ∧ Below w.heap.size w wr2 ∧ BK 76 wr2 w.heap.size (cns (l.take i)))
  case atStart => exact ⟨0, by omega, rfl, rfl, below_new _ _, by rw [NIL.out]; exact heap_alloc_new _ _⟩
  case round =>
    obtain ⟨i, hi, rfl, rfl, hb, hk⟩ := hrel
    have HB := Lib.hid hb
    have KK := Lib.hid hk
    have hs0 := hk.lt
    clear hb hk
    by_cases hlt : i < n
    · have hd : decide ((i : Int) < (n : Int)) = true := by simpa using hlt
      have i0 : (0 : Int) ≤ (i : Int) := by omega
      have i1 : (i : Int) < (n : Int) := by omega
      have hil : i < l.length := by have := HN.out; omega
      obtain ⟨ad, rfl, hg, q0, q1, q2⟩ := RdF.at_ (w := wr) (by rw [HN.out]; intro h0; obtain ⟨ad, ha, hb, hc⟩ := R.out h0; exact ⟨ad, ha, by omega, fun j u hu => (HB.out.cell (by rw [block_add]; exact hb)).trans (hc j u hu)⟩) hil
      have CT := Lib.hid (fun k => cn_take hil k)
      obtain ⟨f0, f1, f2, f3⟩ := FB.out.1 l[i] (List.getElem_mem hil)
      generalize l[i] = f at q0 q1 q2 CT f0 f1 f2 f3
      obtain ⟨fr, fv, fk⟩ := f
      simp only at q0 q1 q2 CT f0 f1 f2 f3
      have k1 := KK.out.cell 0
      have k2 := KK.out.cell 1
      have k3 := KK.out.cell 2
      have k4 := KK.out.cell 3
      have k5 := KK.out.cell 4
      have z0 := KK.out.frozen 0
      have z1 := KK.out.frozen 1
      have z2 := KK.out.frozen 2
      have z3 := KK.out.frozen 3
      have z4 := KK.out.frozen 4
      have b0 := (show ∀ k, cn (l.take i) k < 1001 from fun k => by unfold cn; have h1 := List.countP_le_length (p := fun f : Fl => decide (f.k = k)) (l := l.take i); have h2 := List.length_take_le i l; have := HN.out; omega)
      have b00 := b0 0
      have b01 := b0 1
      have b02 := b0 2
      have b03 := b0 3
      have b04 := b0 4
      clear b0 hil
      unfold cns at k1 k2 k3 k4 k5
      simp at k1 k2 k3 k4 k5
      have d0 : decide ((fr : Int) < 0) = false := by simp
      have d1 : decide ((fr : Int) ≥ 16) = false := by simp; omega
      have d1' : decide ((16 : Int) ≤ (fr : Int)) = false := by simp; omega
      obtain rfl | rfl | rfl | rfl | rfl : fk = 0 ∨ fk = 1 ∨ fk = 2 ∨ fk = 3 ∨ fk = 4 := by omega
      · have e : cns (l.take (i + 1)) = (cns (l.take i)).setIfInBounds 0 (.int .i64 ((cn (l.take i) 0 : Nat) + 1)) := by
          unfold cns
          simp [CT.out]
        have S := Lib.hid e
        clear e
        go_wp2_with fail
        go_roundg (n - (i + 1))
        case measure => omega
        case rel =>
          refine ⟨i + 1, by omega, rfl, by go_num, (HB.out.setCell (by simp) _).alloc (by simp; omega) _, ?_⟩
          rw [S.out]
          exact (KK.out.set _ _).alloc _
      · have e : cns (l.take (i + 1)) = (cns (l.take i)).setIfInBounds 1 (.int .i64 ((cn (l.take i) 1 : Nat) + 1)) := by
          unfold cns
          simp [CT.out]
        have S := Lib.hid e
        clear e
        go_wp2_with fail
        go_roundg (n - (i + 1))
        case measure => omega
        case rel =>
          refine ⟨i + 1, by omega, rfl, by go_num, (HB.out.setCell (by simp) _).alloc (by simp; omega) _, ?_⟩
          rw [S.out]
          exact (KK.out.set _ _).alloc _
      · have e : cns (l.take (i + 1)) = (cns (l.take i)).setIfInBounds 2 (.int .i64 ((cn (l.take i) 2 : Nat) + 1)) := by
          unfold cns
          simp [CT.out]
        have S := Lib.hid e
        clear e
        go_wp2_with fail
        go_roundg (n - (i + 1))
        case measure => omega
        case rel =>
          refine ⟨i + 1, by omega, rfl, by go_num, (HB.out.setCell (by simp) _).alloc (by simp; omega) _, ?_⟩
          rw [S.out]
          exact (KK.out.set _ _).alloc _
      · have e : cns (l.take (i + 1)) = (cns (l.take i)).setIfInBounds 3 (.int .i64 ((cn (l.take i) 3 : Nat) + 1)) := by
          unfold cns
          simp [CT.out]
        have S := Lib.hid e
        clear e
        go_wp2_with fail
        go_roundg (n - (i + 1))
        case measure => omega
        case rel =>
          refine ⟨i + 1, by omega, rfl, by go_num, (HB.out.setCell (by simp) _).alloc (by simp; omega) _, ?_⟩
          rw [S.out]
          exact (KK.out.set _ _).alloc _
      · have e : cns (l.take (i + 1)) = (cns (l.take i)).setIfInBounds 4 (.int .i64 ((cn (l.take i) 4 : Nat) + 1)) := by
          unfold cns
          simp [CT.out]
        have S := Lib.hid e
        clear e
        go_wp2_with fail
        go_roundg (n - (i + 1))
        case measure => omega
        case rel =>
          refine ⟨i + 1, by omega, rfl, by go_num, (HB.out.setCell (by simp) _).alloc (by simp; omega) _, ?_⟩
          rw [S.out]
          exact (KK.out.set _ _).alloc _
    · have hd : decide ((i : Int) < (n : Int)) = false := by simp; omega
      obtain rfl : i = n := by omega
      have TK := Lib.hid (show l.take i = l from List.take_of_length_le (by have := HN.out; omega))
      have ZR := Lib.hid (cge_five (l := l) fun f hf => (FB.out.1 f hf).2.2.2)
      go_wp2_with fail
      go_loopg [6, 7] 5 (fun gk s k wr3 => ∃ j sN : Nat, j ≤ 5 ∧ gk = 5 - j ∧ s = .int .i64 (sN : Nat) ∧ sN = cge l (5 - j) ∧ (∃ z : Int, k = .int .i64 z ∧ z = 4 - (j : Int)) ∧ Below w.heap.size w wr3 ∧ BK 76 wr3 w.heap.size (cns l))
      case atStart => exact ⟨0, 0, by omega, rfl, rfl, ZR.out.symm, ⟨_, rfl, by omega⟩, HB.out, by rw [← TK.out]; exact KK.out⟩
      case round =>
        obtain ⟨j, sN, hj, rfl, rfl, hsN, ⟨z, rfl, hz⟩, hb2, hk2⟩ := hrel
        have HB2 := Lib.hid hb2
        have KK2 := Lib.hid hk2
        have hs2 := hk2.lt
        have k1 := KK2.out.cell 0
        have k2 := KK2.out.cell 1
        have k3 := KK2.out.cell 2
        have k4 := KK2.out.cell 3
        have k5 := KK2.out.cell 4
        unfold cns at k1 k2 k3 k4 k5
        simp at k1 k2 k3 k4 k5
        clear hb2 hk2
        obtain rfl | rfl | rfl | rfl | rfl | rfl : j = 0 ∨ j = 1 ∨ j = 2 ∨ j = 3 ∨ j = 4 ∨ j = 5 := by omega
        · obtain rfl : z = 4 := by omega
          have B := FB.out.2 4 (by omega)
          have E : cge l 4 = cge l 5 + cn l 4 := cge_succ l 4
          have hs : sN = cge l 5 := hsN
          have k9 := k5
          clear k1 k2 k3 k4 k5
          have B2 : cge l 4 ≤ 4 := B
          have EE := Lib.hid (show sN + cn l 4 = cge l 4 by omega)
          have x1 : sN < 2000 := by omega
          have x2 : cn l 4 < 2000 := by omega
          have x3 : sN + cn l 4 ≤ 4 := by omega
          clear B B2 E hs hsN
          generalize cn l 4 = cN at k9 EE x2 x3
          have d1 : decide ((4 : Int) < (sN : Int) + (cN : Int)) = false := by simp; omega
          have d2 : decide ((sN : Int) + (cN : Int) ≤ 4) = true := by simp; omega
          clear hz hj
          go_wp2_with fail
          go_roundg (5 - (0 + 1))
          case measure => omega
          case rel => exact ⟨0 + 1, sN + cN, by omega, rfl, by go_num, EE.out, ⟨_, by go_num, by omega⟩, HB2.out, KK2.out⟩
        · obtain rfl : z = 3 := by omega
          have B := FB.out.2 3 (by omega)
          have E : cge l 3 = cge l 4 + cn l 3 := cge_succ l 3
          have hs : sN = cge l 4 := hsN
          have k9 := k4
          clear k1 k2 k3 k4 k5
          have B2 : cge l 3 ≤ 8 := B
          have EE := Lib.hid (show sN + cn l 3 = cge l 3 by omega)
          have x1 : sN < 2000 := by omega
          have x2 : cn l 3 < 2000 := by omega
          have x3 : sN + cn l 3 ≤ 8 := by omega
          clear B B2 E hs hsN
          generalize cn l 3 = cN at k9 EE x2 x3
          have d1 : decide ((8 : Int) < (sN : Int) + (cN : Int)) = false := by simp; omega
          have d2 : decide ((sN : Int) + (cN : Int) ≤ 8) = true := by simp; omega
          clear hz hj
          go_wp2_with fail
          go_roundg (5 - (1 + 1))
          case measure => omega
          case rel => exact ⟨1 + 1, sN + cN, by omega, rfl, by go_num, EE.out, ⟨_, by go_num, by omega⟩, HB2.out, KK2.out⟩
        · obtain rfl : z = 2 := by omega
          have B := FB.out.2 2 (by omega)
          have E : cge l 2 = cge l 3 + cn l 2 := cge_succ l 2
          have hs : sN = cge l 3 := hsN
          have k9 := k3
          clear k1 k2 k3 k4 k5
          have B2 : cge l 2 ≤ 12 := B
          have EE := Lib.hid (show sN + cn l 2 = cge l 2 by omega)
          have x1 : sN < 2000 := by omega
          have x2 : cn l 2 < 2000 := by omega
          have x3 : sN + cn l 2 ≤ 12 := by omega
          clear B B2 E hs hsN
          generalize cn l 2 = cN at k9 EE x2 x3
          have d1 : decide ((12 : Int) < (sN : Int) + (cN : Int)) = false := by simp; omega
          have d2 : decide ((sN : Int) + (cN : Int) ≤ 12) = true := by simp; omega
          clear hz hj
          go_wp2_with fail
          go_roundg (5 - (2 + 1))
          case measure => omega
          case rel => exact ⟨2 + 1, sN + cN, by omega, rfl, by go_num, EE.out, ⟨_, by go_num, by omega⟩, HB2.out, KK2.out⟩
        · obtain rfl : z = 1 := by omega
          have B := FB.out.2 1 (by omega)
          have E : cge l 1 = cge l 2 + cn l 1 := cge_succ l 1
          have hs : sN = cge l 2 := hsN
          have k9 := k2
          clear k1 k2 k3 k4 k5
          have B2 : cge l 1 ≤ 16 := B
          have EE := Lib.hid (show sN + cn l 1 = cge l 1 by omega)
          have x1 : sN < 2000 := by omega
          have x2 : cn l 1 < 2000 := by omega
          have x3 : sN + cn l 1 ≤ 16 := by omega
          clear B B2 E hs hsN
          generalize cn l 1 = cN at k9 EE x2 x3
          have d1 : decide ((16 : Int) < (sN : Int) + (cN : Int)) = false := by simp; omega
          have d2 : decide ((sN : Int) + (cN : Int) ≤ 16) = true := by simp; omega
          clear hz hj
          go_wp2_with fail
          go_roundg (5 - (3 + 1))
          case measure => omega
          case rel => exact ⟨3 + 1, sN + cN, by omega, rfl, by go_num, EE.out, ⟨_, by go_num, by omega⟩, HB2.out, KK2.out⟩
        · obtain rfl : z = 0 := by omega
          have B := FB.out.2 0 (by omega)
          have E : cge l 0 = cge l 1 + cn l 0 := cge_succ l 0
          have hs : sN = cge l 1 := hsN
          have k9 := k1
          clear k1 k2 k3 k4 k5
          have B2 : cge l 0 ≤ 20 := B
          have EE := Lib.hid (show sN + cn l 0 = cge l 0 by omega)
          have x1 : sN < 2000 := by omega
          have x2 : cn l 0 < 2000 := by omega
          have x3 : sN + cn l 0 ≤ 20 := by omega
          clear B B2 E hs hsN
          generalize cn l 0 = cN at k9 EE x2 x3
          have d1 : decide ((20 : Int) < (sN : Int) + (cN : Int)) = false := by simp; omega
          have d2 : decide ((sN : Int) + (cN : Int) ≤ 20) = true := by simp; omega
          clear hz hj
          go_wp2_with fail
          go_roundg (5 - (4 + 1))
          case measure => omega
          case rel => exact ⟨4 + 1, sN + cN, by omega, rfl, by go_num, EE.out, ⟨_, by go_num, by omega⟩, HB2.out, KK2.out⟩
        · obtain rfl : z = -1 := by omega
          go_wp2_with fail
          go_ret
          exact ⟨rfl, HB2.out⟩
end Go.Proofs.YtbkikibdnpffpaaGreatDoor
