/-
  Contracts: equality of two rows of words that are the same; whether a word may be; the text of a word. They make new memory alone. The table of powers lies in the world.
-/
import Derived.Test.YtddbfhdhldnoiaaDoorLi
import Derived.Lib.ItoaLen
import Derived.Lib.AppendIntMem
namespace Go.Proofs.YtddbfhdhldnoiaaDoor
open Go.RowKit

def QuietBool (b : Bool) (w : World) (e : Ending) (w' : World) : Prop := e = .returned (.bool b) ∧ ∃ k, w' = w.drewN k
theorem RdT.drewN {w : World} {v : Value} {xs : List Tk} (h : RdT w v xs) (n : Nat) : RdT (w.drewN n) v xs := h
set_option maxHeartbeats 1000000 in
theorem eqt_same (xs : List Tk) (v1 v2 : Value) (w : World) (h1 : RdT w v1 xs) (h2 : RdT w v2 xs) (hl : xs.length ≤ 1000000000) : Calls Tryd.prog 14 #[v1, v2] w (QuietBool true w) := by
  obtain ⟨A1, c1, rfl, r1⟩ := h1
  obtain ⟨A2, c2, rfl, r2⟩ := h2
  have R1 := Lib.hid r1
  have R2 := Lib.hid r2
  clear r1 r2
  generalize hn : xs.length = n at *
  have HN := Lib.hid hn
  clear hn
  have hne : ((n : Int) != (n : Int)) = false := by simp
  go_enter Tryd.func14, Tryd.ntmps14
  go_wp2
  go_loopw [5] (fun o wr2 => ∃ (i m : Nat), i ≤ n ∧ o = .int .i64 i ∧ wr2 = w.drewN m) (fun o _ => n - (intOf o).toNat)
  case atStart => exact ⟨0, 0, by omega, rfl, rfl⟩
  case round =>
    obtain ⟨i, m, hi, rfl, rfl⟩ := hrel
    by_cases hlt : i < n
    · have hd : decide ((i : Int) < (n : Int)) = true := by simpa using hlt
      have i0 : (0 : Int) ≤ (i : Int) := by omega
      have i1 : (i : Int) < (n : Int) := by omega
      have hil : i < xs.length := by have := HN.out; omega
      obtain ⟨ad1, rfl, hg1, q0, q1, q2, q3⟩ := RdT.at_ (by rw [HN.out]; exact R1.out) hil
      obtain ⟨ad2, rfl, hg2, s0, s1, s2, s3⟩ := RdT.at_ (by rw [HN.out]; exact R2.out) hil
      generalize xs[i] = f at q0 q1 q2 q3 s0 s1 s2 s3
      clear hil
      go_wp2_with fail
      go_quiet (fail)
      go_wp2
      go_roundw
      case rel => exact ⟨i + 1, _, by omega, by go_num, rfl⟩
      case measure => simp [intOf]; omega
    · have hd : decide ((i : Int) < (n : Int)) = false := by simp; omega
      go_wp2
      go_ret
      exact ⟨rfl, m, rfl⟩
/-- The table that strconv.Itoa reads lies in the world. -/
structure Tab (w : World) : Prop where
  pow : Lib.TabIs Tryd.prog w "internal/strconv.uint64pow10" .u64 Lib.pow10Tab
  big : 1 < w.heap.size
theorem Tab.keep {w w' : World} (h : Tab w) (hs : w.heap.size ≤ w'.heap.size) (hk : ∀ k, k < w.heap.size → w'.heap[k]? = w.heap[k]?) : Tab w' := by
  have hb := h.big
  refine ⟨?_, by omega⟩
  have hg : Tryd.prog.globalNamed "internal/strconv.uint64pow10" = some 1 := by kernel_rfl
  have := h.pow
  unfold Lib.TabIs World.var? at this ⊢
  rw [hg] at this ⊢
  simp only [Option.bind_some] at this ⊢
  rw [hk 1 (by omega)]
  exact this
theorem Tab.below {w w' : World} (h : Tab w) (hb : Below w.heap.size w w') : Tab w' := h.keep hb.size hb.block
theorem Tab.alloc {w : World} (h : Tab w) (o : Obj) : Tab (w.alloc o) := h.below (below_new w o)
def StrBelow (s : ByteArray) (w : World) (e : Ending) (w' : World) : Prop := e = .returned (.string s) ∧ Below w.heap.size w w'
theorem strb_mk {s s' : ByteArray} {w w' : World} (h : s' = s) (hb : Below w.heap.size w w') : StrBelow s w (.returned (.string s')) w' := by subst h; exact ⟨rfl, hb⟩
def itoa (x : Int) : List UInt8 := Lib.itoa x
theorem itoa_any (x : Int) (w : World) (h0 : -9223372036854775808 ≤ x) (h1 : x ≤ 9223372036854775807) (H : Tab w) : Calls Tryd.prog 26 #[.int .i64 x] w (StrBelow ⟨(itoa x).toArray⟩ w) :=
  (Tryd.strconv_Itoa x h0 h1 w H.pow).mono fun _ _ ⟨he, k, os, hw⟩ => ⟨he, by subst hw; exact Lib.below_grow _ w (Nat.le_refl _) k os⟩
/-- May a word be? -/
def mayB (t : Tk) : Bool := if t.k = 2 then t.t.isEmpty && (decide (0 ≤ t.n) && decide (t.n ≤ 2147483647)) else !t.t.isEmpty && (decide ((wdT t.t 0).k = t.k) && ((wdT t.t 0).t == t.t) && decide ((wdT t.t 0).n = t.n))
/-- A word's text. -/
def txT (t : Tk) : List UInt8 := if t.k = 2 then itoa t.n else t.t
set_option maxHeartbeats 1000000 in
theorem text1_any (t : Tk) (w : World) (H : Tab w) (h0 : -9223372036854775808 ≤ t.n) (h1 : t.n ≤ 9223372036854775807) : Calls Tryd.prog 23 #[.agg t.cells] w (StrBelow ⟨(txT t).toArray⟩ w) := by
  have T := Lib.hid (H.alloc (.cells t.cells 47))
  have B0 := Lib.hid (below_new w (.cells t.cells 47))
  simp only [Tk.cells] at *
  by_cases hk : t.k = 2
  · have e : (t.k == 2) = true := by simpa using hk
    have E := Lib.hid (show txT t = itoa t.n by unfold txT; rw [if_pos hk])
    clear hk H
    go_enter Tryd.func23, Tryd.ntmps23
    go_wp2_with (go_at_call 26; refine (itoa_any _ _ h0 h1 T.out).mono ?_; rintro e w1 ⟨rfl, b1⟩)
    go_ret
    exact strb_mk (by rw [E.out]) (B0.out.trans (b1.mono B0.out.size))
  · have e : (t.k == 2) = false := by simpa using hk
    have E := Lib.hid (show txT t = t.t by unfold txT; rw [if_neg hk])
    clear hk H
    go_enter Tryd.func23, Tryd.ntmps23
    go_wp2
    go_ret
    exact strb_mk (by rw [E.out]) B0.out
theorem boolb_mk {b b' : Bool} {w w' : World} (h : b' = b) (hb : Below w.heap.size w w') : BoolBelow b w (.returned (.bool b')) w' := by subst h; exact ⟨rfl, hb⟩
theorem str_ne_nil {l : List UInt8} (h : l ≠ []) : ¬ (⟨l.toArray⟩ : ByteArray).toList = [] := by rw [ByteArray.toList_eq]; simpa using h
theorem str_isE {l : List UInt8} (h : l ≠ []) : (⟨l.toArray⟩ : ByteArray).toList.isEmpty = false := by
  have := str_ne_nil h
  cases hl : (⟨l.toArray⟩ : ByteArray).toList with
  | nil => exact absurd hl this
  | cons a r => rfl
theorem wdT_a0 (l : List UInt8) : (wdT l 0).a = 0 := by
  unfold wdT
  cases wd1 (l.drop 0) with
  | none => rfl
  | some x => rfl
set_option maxHeartbeats 1000000 in
theorem maybe_any (t : Tk) (w : World) (hs : t.t.length ≤ maxLen) : Calls Tryd.prog 27 #[.agg t.cells] w (BoolBelow (mayB t) w) := by
  have B0 := Lib.hid (below_new w (.cells t.cells 47))
  have WA := Lib.hid (fun W (h0 : 0 < t.t.length) => word_any ⟨t.t.toArray⟩ 0 W (by show t.t.toArray.size ≤ maxLen; simpa using hs) (by show 0 < t.t.toArray.size; simpa using h0))
  simp only [Tk.cells] at *
  by_cases hk : t.k = 2
  · have e : (t.k == 2) = true := by simpa using hk
    by_cases ht : t.t = []
    · by_cases hn0 : 0 ≤ t.n
      · by_cases hn1 : t.n ≤ 2147483647
        · have E := Lib.hid (show mayB t = true by unfold mayB; rw [if_pos hk, ht]; simp [hn0, hn1])
          rw [ht] at B0 ⊢
          clear hk ht WA
          go_enter Tryd.func27, Tryd.ntmps27
          go_wp2
          go_ret
          exact boolb_mk E.out.symm B0.out
        · have E := Lib.hid (show mayB t = false by unfold mayB; rw [if_pos hk, ht]; simp [hn1])
          have e2 : decide (t.n ≤ 2147483647) = false := by simpa using hn1
          rw [ht] at B0 ⊢
          clear hk ht WA hn1
          go_enter Tryd.func27, Tryd.ntmps27
          go_wp2
          go_ret
          exact boolb_mk E.out.symm B0.out
      · have E := Lib.hid (show mayB t = false by unfold mayB; rw [if_pos hk, ht]; simp [hn0])
        have e2 : decide (0 ≤ t.n) = false := by simpa using hn0
        rw [ht] at B0 ⊢
        clear hk ht WA hn0
        go_enter Tryd.func27, Tryd.ntmps27
        go_wp2
        go_ret
        exact boolb_mk E.out.symm B0.out
    · have E := Lib.hid (show mayB t = false by unfold mayB; rw [if_pos hk]; simp [ht])
      have e1 := str_ne_nil ht
      have e2 := str_isE ht
      have e4 : t.t.isEmpty = false := by simpa using ht
      clear hk WA
      go_enter Tryd.func27, Tryd.ntmps27
      go_wp2
      go_ret
      exact boolb_mk E.out.symm B0.out
  · have e : (t.k == 2) = false := by simpa using hk
    by_cases ht : t.t = []
    · have E := Lib.hid (show mayB t = false by unfold mayB; rw [if_neg hk, ht]; simp)
      rw [ht] at B0 ⊢
      clear hk ht WA
      go_enter Tryd.func27, Tryd.ntmps27
      go_wp2
      go_ret
      exact boolb_mk E.out.symm B0.out
    · have E := Lib.hid (show mayB t = (decide ((wdT t.t 0).k = t.k) && ((wdT t.t 0).t == t.t) && decide ((wdT t.t 0).n = t.n)) by unfold mayB; rw [if_neg hk]; simp [ht])
      have e1 := str_ne_nil ht
      have e2 := str_isE ht
      have e4 : t.t.isEmpty = false := by simpa using ht
      have WC := Lib.hid (fun W => WA.out W (by have := List.length_pos_iff.2 ht; omega))
      clear hk WA
      go_enter Tryd.func27, Tryd.ntmps27
      go_wp2_with fail
      have HA := wdT_a0 t.t
      have W0 := WC.out
      rw [show ((0 : Nat) : Int) = 0 from rfl] at W0
      generalize wdT t.t 0 = T at *
      obtain ⟨k', t', n', a'⟩ := T
      simp only at HA E
      subst HA
      by_cases h1 : k' = t.k
      · subst h1
        by_cases h2 : t' = t.t
        · subst h2
          by_cases h3 : n' = t.n
          · subst h3
            have EE := Lib.hid (show mayB t = true by rw [E.out]; simp)
            refine (W0 _).mono ?_
            clear W0 WC
            rintro en w1 ⟨rfl, b1⟩
            obtain ⟨q, hz, hB⟩ := box_cells b1
            have q0 : w1.cell? ⟨w.heap.size, 0, none⟩ = some (.int .i64 t.k) := q 0
            have q1 : w1.cell? ⟨w.heap.size, 1, none⟩ = some (.string ⟨t.t.toArray⟩) := q 1
            have q2 : w1.cell? ⟨w.heap.size, 2, none⟩ = some (.int .i64 t.n) := q 2
            have q3 : w1.cell? ⟨w.heap.size, 3, none⟩ = some (.int .i64 0) := q 3
            have B1 := Lib.hid hB
            clear q hB b1 B0
            simp only [Tk.cells]
            go_wp2_with fail
            go_ret
            exact boolb_mk EE.out.symm (B1.out.trans ((below_new w1 _).mono B1.out.size))
          · have EE := Lib.hid (show mayB t = false by rw [E.out]; simp [h3])
            have f3 : (n' == t.n) = false := by simpa using h3
            clear h3
            refine (W0 _).mono ?_
            clear W0 WC
            rintro en w1 ⟨rfl, b1⟩
            obtain ⟨q, hz, hB⟩ := box_cells b1
            have q0 : w1.cell? ⟨w.heap.size, 0, none⟩ = some (.int .i64 t.k) := q 0
            have q1 : w1.cell? ⟨w.heap.size, 1, none⟩ = some (.string ⟨t.t.toArray⟩) := q 1
            have q2 : w1.cell? ⟨w.heap.size, 2, none⟩ = some (.int .i64 t.n) := q 2
            have q3 : w1.cell? ⟨w.heap.size, 3, none⟩ = some (.int .i64 0) := q 3
            have B1 := Lib.hid hB
            clear q hB b1 B0
            simp only [Tk.cells]
            go_wp2_with fail
            go_ret
            exact boolb_mk EE.out.symm (B1.out.trans ((below_new w1 _).mono B1.out.size))
        · have EE := Lib.hid (show mayB t = false by rw [E.out]; simp [h2])
          have f2 : (t' == t.t) = false := by simpa using h2
          have f3 : ((⟨t'.toArray⟩ : ByteArray).toList == (⟨t.t.toArray⟩ : ByteArray).toList) = false := by rw [ByteArray.toList_eq, ByteArray.toList_eq]; simpa using h2
          clear h2
          refine (W0 _).mono ?_
          clear W0 WC
          rintro en w1 ⟨rfl, b1⟩
          obtain ⟨q, hz, hB⟩ := box_cells b1
          have q0 : w1.cell? ⟨w.heap.size, 0, none⟩ = some (.int .i64 t.k) := q 0
          have q1 : w1.cell? ⟨w.heap.size, 1, none⟩ = some (.string ⟨t.t.toArray⟩) := q 1
          have q2 : w1.cell? ⟨w.heap.size, 2, none⟩ = some (.int .i64 t.n) := q 2
          have q3 : w1.cell? ⟨w.heap.size, 3, none⟩ = some (.int .i64 0) := q 3
          have B1 := Lib.hid hB
          clear q hB b1 B0
          simp only [Tk.cells]
          go_wp2_with fail
          go_ret
          exact boolb_mk EE.out.symm (B1.out.trans ((below_new w1 _).mono B1.out.size))
      · have EE := Lib.hid (show mayB t = false by rw [E.out]; simp [h1])
        have f1 : (k' == t.k) = false := by simpa using h1
        clear h1
        refine (W0 _).mono ?_
        clear W0 WC
        rintro en w1 ⟨rfl, b1⟩
        obtain ⟨q, hz, hB⟩ := box_cells b1
        have q0 : w1.cell? ⟨w.heap.size, 0, none⟩ = some (.int .i64 t.k) := q 0
        have q1 : w1.cell? ⟨w.heap.size, 1, none⟩ = some (.string ⟨t.t.toArray⟩) := q 1
        have q2 : w1.cell? ⟨w.heap.size, 2, none⟩ = some (.int .i64 t.n) := q 2
        have q3 : w1.cell? ⟨w.heap.size, 3, none⟩ = some (.int .i64 0) := q 3
        have B1 := Lib.hid hB
        clear q hB b1 B0
        simp only [Tk.cells]
        go_wp2_with fail
        go_ret
        exact boolb_mk EE.out.symm (B1.out.trans ((below_new w1 _).mono B1.out.size))
end Go.Proofs.YtddbfhdhldnoiaaDoor
