/-
  Rows in memory: a slice value that reads as a list; that it stays so where memory only grows; equality of two rows of numbers, a number's place in one, a string's place in one. Conditions: at most 100 elements.
-/
import Derived.Test.YtgaoelpgdianiaaDoorPure
import Derived.Deep.AppendLies
import Derived.Laws.OwnMore
import Derived.Lib.SmallJoins
namespace Go.Proofs.YtgaoelpgdianiaaDoor
open Go.RowKit

/-- The value is a slice that reads as the list; it lies below the block's number. -/
def RowAt {α : Type} (enc : α → Value) (w : World) (v : Value) (xs : List α) : Prop :=
  ∃ A c, v = .slice A xs.length c ∧ (0 < xs.length → ∃ g, A = some ⟨g, 0, none⟩ ∧ g < w.heap.size ∧ ∀ j x, xs[j]? = some x → w.cell? ⟨g, j, none⟩ = some (enc x))
section
variable {α : Type} {enc : α → Value} {w w' : World} {v : Value} {xs : List α}
theorem RowAt.keep (h : RowAt enc w v xs) (hs : w.heap.size ≤ w'.heap.size) (hk : ∀ p : Addr, p.block < w.heap.size → w'.cell? p = w.cell? p) : RowAt enc w' v xs := by
  obtain ⟨A, c, rfl, hh⟩ := h
  refine ⟨A, c, rfl, fun h0 => ?_⟩
  obtain ⟨g, rfl, hg, hc⟩ := hh h0
  exact ⟨g, rfl, by omega, fun j x hx => (hk ⟨g, j, none⟩ hg).trans (hc j x hx)⟩
theorem RowAt.below (h : RowAt enc w v xs) (hb : Below w.heap.size w w') : RowAt enc w' v xs := h.keep hb.size fun _ hp => hb.cell hp
theorem RowAt.alloc (h : RowAt enc w v xs) (o : Obj) : RowAt enc (w.alloc o) v xs := h.keep (by simp) fun p hp => World.cell?_alloc_lt w o p hp
theorem RowAt.drewN (h : RowAt enc w v xs) (n : Nat) : RowAt enc (w.drewN n) v xs := h
theorem RowAt.of_own {base : Nat} {e : TypeId} (h : w.ownsRow base e 1 v xs.length (xs.map enc)) : RowAt enc w v xs := by
  rcases Nat.eq_zero_or_pos xs.length with h0 | h0
  · rcases h.2 with ⟨rfl, _⟩ | ⟨g, cap, cur, rfl, _⟩
    · exact ⟨none, 0, by rw [h0], fun h1 => absurd h1 (by omega)⟩
    · exact ⟨_, _, rfl, fun h1 => absurd h1 (by omega)⟩
  · obtain ⟨g, cap, rfl, hb, hlt⟩ := h.form h0
    refine ⟨_, _, rfl, fun _ => ⟨g, rfl, hlt, fun j x hx => ?_⟩⟩
    have hj : j < xs.length := (List.getElem?_eq_some_iff.1 hx).1
    rw [h.cellAt j (by omega), List.getElem?_map, hx]
    rfl
theorem RowAt.nil (w : World) : RowAt enc w (.slice none 0 0) [] := ⟨none, 0, rfl, fun h => absurd h (by simp)⟩
end
abbrev Nums := RowAt (Value.int .i64)
abbrev Strs := RowAt Value.string
theorem at_get {α : Type} {l : List α} {j : Nat} (h : j < l.length) : l[j]? = some l[j] := List.getElem?_eq_getElem h
theorem below_drewN {B : Nat} {a w : World} (h : Below B a w) (n : Nat) : Below B a (w.drewN n) := ⟨h.os, h.tape, h.output, h.size, h.block⟩

def QuietBool (b : Bool) (w : World) (e : Ending) (w' : World) : Prop := e = .returned (.bool b) ∧ ∃ k, w' = w.drewN k
set_option maxHeartbeats 400000 in
theorem eq_same (zs : List Int) (v1 v2 : Value) (w : World) (h1 : Nums w v1 zs) (h2 : Nums w v2 zs) (hl : zs.length ≤ 100) : Calls Tryd.prog 17 #[v1, v2] w (QuietBool true w) := by
  obtain ⟨A1, c1, rfl, r1⟩ := h1
  obtain ⟨A2, c2, rfl, r2⟩ := h2
  have R1 := Lib.hid r1
  have R2 := Lib.hid r2
  clear r1 r2
  generalize hn : zs.length = n at *
  have HN := Lib.hid hn
  clear hn
  have hne : ((n : Int) != (n : Int)) = false := by simp
  go_enter Tryd.func17, Tryd.ntmps17
  go_wp2
  go_loopw [5] (fun o wr2 => ∃ (i m : Nat), i ≤ n ∧ o = .int .i64 i ∧ wr2 = w.drewN m) (fun o _ => n - (intOf o).toNat)
  case atStart => exact ⟨0, 0, by omega, rfl, rfl⟩
  case round =>
    obtain ⟨i, m, hi, rfl, rfl⟩ := hrel
    by_cases hlt : i < n
    · have hd : decide ((i : Int) < (n : Int)) = true := by simpa using hlt
      have i0 : (0 : Int) ≤ (i : Int) := by omega
      have i1 : (i : Int) < (n : Int) := by omega
      obtain ⟨g1, rfl, hg1, q1⟩ := R1.out (by omega)
      obtain ⟨g2, rfl, hg2, q2⟩ := R2.out (by omega)
      have hz := at_get (l := zs) (j := i) (by have := HN.out; omega)
      generalize zs[i]'(by have := HN.out; omega) = z at hz
      have k1 := q1 i z hz
      have k2 := q2 i z hz
      have hzz : (z != z) = false := by simp
      clear q1 q2 hz hg1 hg2
      go_wp2_with fail
      go_quiet (fail)
      go_wp2
      go_roundw
      case rel => exact ⟨i + 1, _, by omega, by go_num, rfl⟩
      case measure => simp [intOf]; omega
    · have hd : decide ((i : Int) < (n : Int)) = false := by simp; omega
      go_wp2
      go_ret
      exact ⟨rfl, m, rfl⟩

/-- The place of a number, or below nought: its sign tells whether it is there. -/
def InPost (b : Bool) (w : World) (e : Ending) (w' : World) : Prop := ∃ i : Int, decide (0 ≤ i) = b ∧ e = .returned (.int .i64 i) ∧ w = w'
set_option maxHeartbeats 400000 in
theorem in_any (zs : List Int) (x : Int) (v : Value) (w : World) (h : Nums w v zs) (hl : zs.length ≤ 100) : Calls Tryd.prog 42 #[v, .int .i64 x] w (InPost (decide (x ∈ zs)) w) := by
  obtain ⟨A, c, rfl, r⟩ := h
  have R := Lib.hid r
  clear r
  generalize hn : zs.length = n at *
  have HN := Lib.hid hn
  clear hn
  go_enter Tryd.func42, Tryd.ntmps42
  go_wp2
  go_loop [5] (fun o => ∃ i : Nat, i ≤ n ∧ o = .int .i64 i ∧ x ∉ zs.take i) (fun o => n - (intOf o).toNat)
  case atStart => exact ⟨0, by omega, rfl, by simp⟩
  case round =>
    obtain ⟨i, hi, rfl, hx⟩ := hrel
    have HX := Lib.hid hx
    clear hx
    by_cases hlt : i < n
    · have hd : decide ((i : Int) < (n : Int)) = true := by simpa using hlt
      have i0 : (0 : Int) ≤ (i : Int) := by omega
      have i1 : (i : Int) < (n : Int) := by omega
      obtain ⟨g, rfl, hg, q⟩ := R.out (by omega)
      have hil : i < zs.length := by have := HN.out; omega
      have k1 := q i _ (at_get hil)
      have T := Lib.hid (List.take_succ_eq_append_getElem hil)
      have M := Lib.hid (List.getElem_mem hil)
      generalize zs[i] = z at k1 T M
      clear q hg hil
      by_cases he : z = x
      · subst he
        have hq : (z == z) = true := by simp
        go_wp2
        go_ret
        exact ⟨i, by rw [decide_eq_true M.out]; simp, rfl, rfl⟩
      · have hq : (z == x) = false := by simpa using he
        have HE := Lib.hid he
        clear he
        go_wp2
        go_round
        case rel => exact ⟨i + 1, by omega, by go_num, by rw [T.out, List.mem_append]; rintro (h | h); exact HX.out h; simp at h; exact HE.out h.symm⟩
        case measure => simp [intOf]; omega
    · have hd : decide ((i : Int) < (n : Int)) = false := by simp; omega
      go_wp2
      go_ret
      refine ⟨-1, ?_, rfl, rfl⟩
      have : x ∉ zs := by have h3 := HX.out; rwa [List.take_of_length_le (by have := HN.out; omega)] at h3
      rw [decide_eq_false this]; rfl

def AtPost (x : Int) (w : World) (e : Ending) (w' : World) : Prop := e = .returned (.int .i64 x) ∧ w = w'
set_option maxHeartbeats 400000 in
/-- The first place of a string. -/
theorem at_some (xs : List ByteArray) (s : ByteArray) (k : Nat) (v : Value) (w : World) (h : Strs w v xs) (hl : xs.length ≤ 100) (hk : xs[k]? = some s) (hno : ∀ j x, j < k → xs[j]? = some x → x ≠ s) :
    Calls Tryd.prog 24 #[v, .string s] w (AtPost k w) := by
  obtain ⟨A, c, rfl, r⟩ := h
  have hkl : k < xs.length := (List.getElem?_eq_some_iff.1 hk).1
  have R := Lib.hid r
  have HK := Lib.hid hk
  have NO := Lib.hid hno
  clear r hk hno
  generalize hn : xs.length = n at *
  have HN := Lib.hid hn
  clear hn
  go_enter Tryd.func24, Tryd.ntmps24
  go_wp2
  go_loop [5] (fun o => ∃ i : Nat, i ≤ k ∧ o = .int .i64 i) (fun o => n - (intOf o).toNat)
  case atStart => exact ⟨0, by omega, rfl⟩
  case round =>
    obtain ⟨i, hi, rfl⟩ := hrel
    have hd : decide ((i : Int) < (n : Int)) = true := by simp; omega
    have i0 : (0 : Int) ≤ (i : Int) := by omega
    have i1 : (i : Int) < (n : Int) := by omega
    obtain ⟨g, rfl, hg, q⟩ := R.out (by omega)
    clear hg
    by_cases hlt : i < k
    · have hz := at_get (l := xs) (j := i) (by have := HN.out; omega)
      generalize xs[i]'(by have := HN.out; omega) = z at hz
      have k1 := q i z hz
      have hne := NO.out i z hlt hz
      have hq := str_ne hne
      clear q hne hz
      go_wp2
      go_round
      case rel => exact ⟨i + 1, by omega, by go_num⟩
      case measure => simp [intOf]; omega
    · obtain rfl : i = k := by omega
      have k1 := q i s HK.out
      have hq : (s.toList == s.toList) = true := beq_self_eq_true _
      clear q
      go_wp2
      go_ret
      exact ⟨rfl, rfl⟩
set_option maxHeartbeats 400000 in
theorem at_none (xs : List ByteArray) (s : ByteArray) (v : Value) (w : World) (h : Strs w v xs) (hl : xs.length ≤ 100) (hno : ∀ (j : Nat) (x : ByteArray), xs[j]? = some x → x ≠ s) :
    Calls Tryd.prog 24 #[v, .string s] w (AtPost (-1) w) := by
  obtain ⟨A, c, rfl, r⟩ := h
  have R := Lib.hid r
  have NO := Lib.hid hno
  clear r hno
  generalize hn : xs.length = n at *
  have HN := Lib.hid hn
  clear hn
  go_enter Tryd.func24, Tryd.ntmps24
  go_wp2
  go_loop [5] (fun o => ∃ i : Nat, i ≤ n ∧ o = .int .i64 i) (fun o => n - (intOf o).toNat)
  case atStart => exact ⟨0, by omega, rfl⟩
  case round =>
    obtain ⟨i, hi, rfl⟩ := hrel
    by_cases hlt : i < n
    · have hd : decide ((i : Int) < (n : Int)) = true := by simp; omega
      have i0 : (0 : Int) ≤ (i : Int) := by omega
      have i1 : (i : Int) < (n : Int) := by omega
      obtain ⟨g, rfl, hg, q⟩ := R.out (by omega)
      clear hg
      have hz := at_get (l := xs) (j := i) (by have := HN.out; omega)
      generalize xs[i]'(by have := HN.out; omega) = z at hz
      have k1 := q i z hz
      have hne := NO.out i z hz
      have hq := str_ne hne
      clear q hne hz
      go_wp2
      go_round
      case rel => exact ⟨i + 1, by omega, by go_num⟩
      case measure => simp [intOf]; omega
    · have hd : decide ((i : Int) < (n : Int)) = false := by simp; omega
      go_wp2
      go_ret
      exact ⟨rfl, rfl⟩
end Go.Proofs.YtgaoelpgdianiaaDoor
