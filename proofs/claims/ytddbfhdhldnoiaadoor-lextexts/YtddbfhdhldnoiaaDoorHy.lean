/-
  Contracts of the statements calls that weigh an input: a number, or true or false; they make no memory but a box.
-/
import Derived.Test.YtddbfhdhldnoiaaDoorSh2
import Derived.BigQuiet
namespace Go.Proofs.YtddbfhdhldnoiaaDoor
open Go.RowKit

def AnyI (w : World) (e : Ending) (w' : World) : Prop := ∃ x : Int, e = .returned (.int .i64 x) ∧ w' = w
/-- The weight of strings, as the statements reckon it: no more is told once it is great. -/
def twl : List ByteArray → Int → Int
  | [], x => x
  | s :: r, x => if x < 1048576 then twl r (wrap64 (x + s.size)) else x
theorem twl_big (l : List ByteArray) {x : Int} (h : ¬ x < 1048576) : twl l x = x := by
  cases l with
  | nil => rfl
  | cons s r => rw [twl, if_neg h]
set_option maxHeartbeats 1000000 in
set_option maxRecDepth 4000 in
theorem texts_any (ss : List ByteArray) (v : Value) (w : World) (h : RdS w v ss) (hS : ∀ s ∈ ss, s.size ≤ maxLen) (hl : ss.length ≤ maxLen) : Calls Tryd.prog 21 #[v] w (IntPost (twl ss ss.length) w) := by
  generalize hX : twl ss ss.length = X
  have HX := Lib.hid hX
  clear hX
  obtain ⟨A, c, rfl, r⟩ := h
  have R := Lib.hid r
  have SM := Lib.hid hS
  clear r hS
  generalize hn : ss.length = n at *
  have HN := Lib.hid hn
  clear hn
  unfold maxLen at hl
  go_enter Tryd.func21, Tryd.ntmps21
  go_wp2_with fail
  go_loop [3, 4] (fun a o => ∃ (i : Nat) (x : Int), i ≤ n ∧ o = .int .i64 i ∧ a = .int .i64 x ∧ twl (ss.drop i) x = X) (fun _ o => n - (intOf o).toNat)
  case atStart => exact ⟨0, n, Nat.zero_le _, rfl, rfl, HX.out⟩
  case round =>
    obtain ⟨i, x, hi, rfl, rfl, hx⟩ := hrel
    have XX := Lib.hid hx
    clear hx
    by_cases hlt : i < n
    · have hd : decide ((i : Int) < (n : Int)) = true := by simpa using hlt
      by_cases hb : x < 1048576
      · have hd2 : decide (x < 1048576) = true := by simpa using hb
        have i0 : (0 : Int) ≤ (i : Int) := by omega
        have i1 : (i : Int) < (n : Int) := by omega
        have hil : i < ss.length := by have := HN.out; omega
        obtain ⟨ad, rfl, hg, hc⟩ := R.out (by omega)
        have k0 := hc i _ (List.getElem?_eq_getElem hil)
        have XY := Lib.hid (show twl (ss.drop (i + 1)) (wrap64 (x + (ss[i]).size)) = X by
          have h := XX.out
          rw [List.drop_eq_getElem_cons hil, twl, if_pos hb] at h
          exact h)
        have hsz := SM.out _ (List.getElem_mem hil)
        generalize ss[i] = f at k0 hsz XY
        unfold maxLen at hsz
        clear hil hc
        go_wp2_with fail
        go_round
        case rel => exact ⟨i + 1, _, by omega, by go_num, rfl, XY.out⟩
        case measure => simp [intOf]; omega
      · have hd2 : decide (x < 1048576) = false := by simpa using hb
        have XZ := Lib.hid ((twl_big _ hb).symm.trans XX.out)
        go_wp2_with fail
        go_ret
        exact int_mk XZ.out
    · have hd : decide ((i : Int) < (n : Int)) = false := by simp; omega
      have XZ := Lib.hid (show x = X by have h := XX.out; rwa [List.drop_of_length_le (by have := HN.out; omega)] at h)
      go_wp2_with fail
      go_ret
      exact int_mk XZ.out
set_option maxHeartbeats 1000000 in
set_option maxRecDepth 4000 in
theorem tweight_any (xs : List Tk) (v : Value) (w : World) (h : RdT w v xs) (hS : Small xs) (hl : xs.length ≤ maxLen) : Calls Tryd.prog 22 #[v] w (AnyI w) := by
  obtain ⟨A, c, rfl, r⟩ := h
  have R := Lib.hid r
  have SM := Lib.hid hS
  clear r hS
  generalize hn : xs.length = n at *
  have HN := Lib.hid hn
  clear hn
  unfold maxLen at hl
  go_enter Tryd.func22, Tryd.ntmps22
  go_wp2_with fail
  go_loop [3, 4] (fun a o => ∃ (i : Nat) (x : Int), i ≤ n ∧ o = .int .i64 i ∧ a = .int .i64 x) (fun _ o => n - (intOf o).toNat)
  case atStart => exact ⟨0, n, Nat.zero_le _, rfl, rfl⟩
  case round =>
    obtain ⟨i, x, hi, rfl, rfl⟩ := hrel
    by_cases hlt : i < n
    · have hd : decide ((i : Int) < (n : Int)) = true := by simpa using hlt
      by_cases hb : x < 1048576
      · have hd2 : decide (x < 1048576) = true := by simpa using hb
        have i0 : (0 : Int) ≤ (i : Int) := by omega
        have i1 : (i : Int) < (n : Int) := by omega
        have hil : i < xs.length := by have := HN.out; omega
        obtain ⟨ad, rfl, hg, q0, q1, q2, q3⟩ := RdT.at_ (by rw [HN.out]; exact R.out) hil
        have hsz := (SM.out _ (List.getElem_mem hil)).1
        generalize xs[i] = f at q0 q1 q2 q3 hsz
        unfold maxLen at hsz
        clear hil
        go_wp2_with fail
        go_round
        case rel => exact ⟨i + 1, _, by omega, by go_num, rfl⟩
        case measure => simp [intOf]; omega
      · have hd2 : decide (x < 1048576) = false := by simpa using hb
        go_wp2_with fail
        go_ret
        exact ⟨x, rfl, rfl⟩
    · have hd : decide ((i : Int) < (n : Int)) = false := by simp; omega
      go_wp2_with fail
      go_ret
      exact ⟨x, rfl, rfl⟩
theorem RdS.drewN {w : World} {v : Value} {ss : List ByteArray} (h : RdS w v ss) (n : Nat) : RdS (w.drewN n) v ss := h
theorem quietAt {P : Program} {f : FuncId} {args : Array Value} {x : Int} {w : World} (h : ∀ n, Calls P f args (w.drewN n) (IntPost x (w.drewN n))) (n : Nat) :
    Calls P f args (w.drewN n) fun e w'' => e = .returned (.int .i64 x) ∧ ∃ m, w'' = w.drewN m := (h _).mono fun _ _ ⟨he, hm⟩ => ⟨he, n, hm.symm⟩
def HvP (w : World) (e : Ending) (w' : World) : Prop := ∃ b : Bool, e = .returned (.bool b) ∧ Below w.heap.size w w'
theorem TIn.below {w w' : World} {A : Option Addr} {n : Nat} (h : TIn w A n) (hb : Below w.heap.size w w') : TIn w' A n := fun i hi => by
  obtain ⟨ad, v, xs, h1, h2, h3, h4, h5, h6⟩ := h i hi
  exact ⟨ad, v, xs, h1, Nat.lt_of_lt_of_le h2 hb.size, (hb.cell (p := ad.add i) (by rw [block_add]; exact h2)).trans h3, h4.below hb, h5, h6⟩
set_option maxHeartbeats 1000000 in
set_option maxRecDepth 4000 in
theorem heavy_any (A1 A2 : Option Addr) (c1 n2 c2 : Nat) (ss : List ByteArray) (w : World) (h : RdS w (.slice A1 ss.length c1) ss) (hS : ∀ s ∈ ss, s.size ≤ maxLen) (hl : ss.length ≤ maxLen) (hT : TIn w A2 n2) (hl2 : n2 ≤ maxLen) :
    Calls Tryd.prog 7 #[.agg #[.slice A1 ss.length c1, .slice A2 n2 c2]] w (HvP w) := by
  have B0 := Lib.hid (below_new w (.cells #[.slice A1 ss.length c1, .slice A2 n2 c2] 25))
  have TX := Lib.hid (fun n => texts_any ss (.slice A1 ss.length c1) ((w.alloc (.cells #[.slice A1 ss.length c1, .slice A2 n2 c2] 25)).drewN n) ((h.below B0.out).drewN n) hS hl)
  generalize twl ss ss.length = X at TX
  have TT := Lib.hid (hT.below B0.out)
  have KB := Lib.hid (show BK 25 (w.alloc (.cells #[.slice A1 ss.length c1, .slice A2 n2 c2] 25)) w.heap.size #[.slice A1 ss.length c1, .slice A2 n2 c2] from heap_alloc_new w _)
  clear h hS hl hT
  unfold maxLen at hl2
  generalize ss.length = n1 at *
  go_enter Tryd.func7, Tryd.ntmps7
  go_wp2_with fail
  generalize w.alloc (.cells #[.slice A1 n1 c1, .slice A2 n2 c2] 25) = w1 at *
  have k0 := KB.out.cell 0
  have k1 := KB.out.cell 1
  go_quiet ((go_at_call 21; exact quietAt TX.out _))
  have B2 := Lib.hid (below_drewN B0.out nq)
  have T2 := Lib.hid (show TIn (w1.drewN nq) A2 n2 from TT.out)
  have K2 := Lib.hid (show BK 25 (w1.drewN nq) w.heap.size #[.slice A1 n1 c1, .slice A2 n2 c2] from KB.out)
  generalize hY : wrap64 ((n2 : Int) + wrap64 (X.tdiv 8)) = Y
  clear k0 k1 TX TT KB B0 hY
  generalize w1.drewN nq = w2 at *
  have k0 := K2.out.cell 0
  have k1 := K2.out.cell 1
  go_wp2_with fail
  go_loop [3, 4] (fun a o => ∃ (i : Nat) (x : Int), i ≤ n2 ∧ o = .int .i64 i ∧ a = .int .i64 x) (fun _ o => n2 - (intOf o).toNat)
  case atStart => exact ⟨0, Y, Nat.zero_le _, rfl, rfl⟩
  case round =>
    obtain ⟨i, x, hi, rfl, rfl⟩ := hrel
    by_cases hlt : i < n2
    · have hd : decide ((i : Int) < (n2 : Int)) = true := by simpa using hlt
      by_cases hb : x < 1048576
      · have hd2 : decide (x < 1048576) = true := by simpa using hb
        have i0 : (0 : Int) ≤ (i : Int) := by omega
        have i1 : (i : Int) < (n2 : Int) := by omega
        obtain ⟨ad, v, xs, rfl, hg, hc, h1, h2, h3⟩ := T2.out i hlt
        have TW := Lib.hid (tweight_any xs v w2 h1 h2 h3)
        clear h1 h2 h3
        go_wp2_with (go_at_call 22; refine TW.out.mono ?_; rintro e w3 ⟨z, rfl, rfl⟩)
        go_round
        case rel => exact ⟨i + 1, _, by omega, by go_num, rfl⟩
        case measure => simp [intOf]; omega
      · have hd2 : decide (x < 1048576) = false := by simpa using hb
        go_wp2_with fail
        go_ret
        exact ⟨_, rfl, B2.out⟩
    · have hd : decide ((i : Int) < (n2 : Int)) = false := by simp; omega
      go_wp2_with fail
      go_ret
      exact ⟨_, rfl, B2.out⟩
end Go.Proofs.YtddbfhdhldnoiaaDoor
