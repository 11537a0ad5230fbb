/-
  Contracts of package lex: a name, a number, a word that stands at a place of a line. They make new memory alone.
-/
import Derived.Test.YtddbfhdhldnoiaaDoorLa
import Derived.Test.YtddbfhdhldnoiaaDoorShelf
namespace Go.Proofs.YtddbfhdhldnoiaaDoor
open Go.RowKit

def Tk.cells (t : Tk) : Array Value := #[.int .i64 t.k, .string ⟨t.t.toArray⟩, .int .i64 t.n, .int .i64 t.a]
def Tk.none : Tk := ⟨0, [], 0, 0⟩
/-- A word and a place are told; only new memory is made. -/
def TkPost (t : Tk) (n : Int) (w : World) (e : Ending) (w' : World) : Prop := e = .returned (.tuple #[.agg t.cells, .int .i64 n]) ∧ Below w.heap.size w w'
def ltrS (s : ByteArray) (k : Nat) : List UInt8 := s.data.toList.drop k
theorem nmc_lt {c : UInt8} (h : ltI (c.toNat : Int) = true) : nmc c = true := by unfold nmc ltr; rw [h]; rfl
theorem nmc_dg {c : UInt8} (h : dgI (c.toNat : Int) = true) : nmc c = true := by unfold nmc dgt; rw [h]; simp
theorem nmc_no {c : UInt8} (h : ltI (c.toNat : Int) = false) (h' : dgI (c.toNat : Int) = false) : nmc c = false := by unfold nmc ltr dgt; rw [h, h']; rfl
theorem ext_eq (s : ByteArray) (a b : Nat) : s.extract a b = ⟨((s.data.toList.drop a).take (b - a)).toArray⟩ := by
  rw [ByteArray.ext_iff]
  simp [ByteArray.data_extract, ← Array.toList_inj, Array.toList_extract, List.extract_eq_take_drop]
theorem ext_add (s : ByteArray) (a n : Nat) : s.extract a (a + n) = ⟨((s.data.toList.drop a).take n).toArray⟩ := by rw [ext_eq, Nat.add_sub_cancel_left]
/-- The end of a walk that tells a word. -/
theorem tk_mk {t : Tk} {n m : Int} {cs : Array Value} {w w' : World} (h1 : cs = t.cells) (h2 : m = n) (hb : Below w.heap.size w w') : TkPost t n w (.returned (.tuple #[.agg cs, .int .i64 m])) w' := by subst h1 h2; exact ⟨rfl, hb⟩
set_option maxHeartbeats 1000000 in
theorem name_yes (s : ByteArray) (k : Nat) (w : World) (hs : s.size ≤ maxLen) (hk : k ≤ s.size) (hn : spn nmc (s.data.toList.drop k) ≤ 12) :
    Calls Tryd.prog 44 #[.string s, .int .i64 k] w (TkPost ⟨1, (s.data.toList.drop k).take (spn nmc (s.data.toList.drop k)), 0, k⟩ ((k + spn nmc (s.data.toList.drop k) : Nat) : Int) w) := by
  unfold maxLen at hs
  have hle := spnS_le nmc s k
  generalize hE : spn nmc (s.data.toList.drop k) = E at *
  have HE := Lib.hid hE
  clear hE
  go_enter Tryd.func44, Tryd.ntmps44
  go_wp2
  go_loop [6] (fun a => ∃ j : Nat, k ≤ j ∧ j ≤ s.size ∧ a = .int .i64 j ∧ j + spn nmc (s.data.toList.drop j) = k + E) (fun a => s.size - (intOf a).toNat)
  case atStart => exact ⟨k, Nat.le_refl _, hk, rfl, by rw [HE.out]⟩
  case round =>
    obtain ⟨j, hkj, hj, rfl, he⟩ := hrel
    have JE := Lib.hid he
    clear he
    by_cases hlt : j < s.size
    · have Y := Lib.hid (fun h => spnS_yes (p := nmc) hlt h)
      have N := Lib.hid (fun h => spnS_no (p := nmc) hlt h)
      by_cases hl : ltI (s[j].toNat : Int) = true
      · have B := Lib.hid (Y.out (nmc_lt hl))
        go_wp2_with (first | (go_at_call 43; refine (begins_any _ _).mono ?_; rintro e w' ⟨rfl, rfl⟩) | (go_at_call 45; refine (isdig_any _ _).mono ?_; rintro e w' ⟨rfl, rfl⟩))
        go_round
        case rel => exact ⟨j + 1, by omega, by omega, by go_num, by have h1 := B.out; have h2 := JE.out; omega⟩
        case measure => simp [intOf]; omega
      · have hl' : ltI (s[j].toNat : Int) = false := by simpa using hl
        clear hl
        by_cases hg : dgI (s[j].toNat : Int) = true
        · have B := Lib.hid (Y.out (nmc_dg hg))
          go_wp2_with (first | (go_at_call 43; refine (begins_any _ _).mono ?_; rintro e w' ⟨rfl, rfl⟩) | (go_at_call 45; refine (isdig_any _ _).mono ?_; rintro e w' ⟨rfl, rfl⟩))
          go_round
          case rel => exact ⟨j + 1, by omega, by omega, by go_num, by have h1 := B.out; have h2 := JE.out; omega⟩
          case measure => simp [intOf]; omega
        · have hg' : dgI (s[j].toNat : Int) = false := by simpa using hg
          clear hg
          have B := Lib.hid (N.out (nmc_no hl' hg'))
          have hjE : j = k + E := by have h1 := B.out; have h2 := JE.out; omega
          subst hjE
          go_wp2_with (first | (go_at_call 43; refine (begins_any _ _).mono ?_; rintro e w' ⟨rfl, rfl⟩) | (go_at_call 45; refine (isdig_any _ _).mono ?_; rintro e w' ⟨rfl, rfl⟩))
          exact bodyPost_ret (v := .tuple #[.agg #[.int .i64 1, .string (s.extract k (k + E)), .int .i64 0, .int .i64 (k : Int)], .int .i64 ((k : Int) + (E : Int))]) (by simp [results, Tryd.results44, go_sem]) rfl (tk_mk (by rw [ext_add]; rfl) (by omega) (below_new _ _))
    · have M := Lib.hid (spnS_end (p := nmc) (s := s) (k := j) (by omega))
      have hjE : j = k + E := by have h1 := M.out; have h2 := JE.out; omega
      subst hjE
      go_wp2
      exact bodyPost_ret (v := .tuple #[.agg #[.int .i64 1, .string (s.extract k (k + E)), .int .i64 0, .int .i64 (k : Int)], .int .i64 ((k : Int) + (E : Int))]) (by simp [results, Tryd.results44, go_sem]) rfl (tk_mk (by rw [ext_add]; rfl) (by omega) (below_new _ _))
set_option maxHeartbeats 1000000 in
theorem name_no (s : ByteArray) (k : Nat) (w : World) (hs : s.size ≤ maxLen) (hk : k ≤ s.size) (hn : 12 < spn nmc (s.data.toList.drop k)) :
    Calls Tryd.prog 44 #[.string s, .int .i64 k] w (TkPost Tk.none (k : Int) w) := by
  unfold maxLen at hs
  have hle := spnS_le nmc s k
  generalize hE : spn nmc (s.data.toList.drop k) = E at *
  have HE := Lib.hid hE
  clear hE
  go_enter Tryd.func44, Tryd.ntmps44
  go_wp2
  go_loop [6] (fun a => ∃ j : Nat, k ≤ j ∧ j ≤ s.size ∧ a = .int .i64 j ∧ j + spn nmc (s.data.toList.drop j) = k + E) (fun a => s.size - (intOf a).toNat)
  case atStart => exact ⟨k, Nat.le_refl _, hk, rfl, by rw [HE.out]⟩
  case round =>
    obtain ⟨j, hkj, hj, rfl, he⟩ := hrel
    have JE := Lib.hid he
    clear he
    by_cases hlt : j < s.size
    · have Y := Lib.hid (fun h => spnS_yes (p := nmc) hlt h)
      have N := Lib.hid (fun h => spnS_no (p := nmc) hlt h)
      by_cases hl : ltI (s[j].toNat : Int) = true
      · have B := Lib.hid (Y.out (nmc_lt hl))
        go_wp2_with (first | (go_at_call 43; refine (begins_any _ _).mono ?_; rintro e w' ⟨rfl, rfl⟩) | (go_at_call 45; refine (isdig_any _ _).mono ?_; rintro e w' ⟨rfl, rfl⟩))
        go_round
        case rel => exact ⟨j + 1, by omega, by omega, by go_num, by have h1 := B.out; have h2 := JE.out; omega⟩
        case measure => simp [intOf]; omega
      · have hl' : ltI (s[j].toNat : Int) = false := by simpa using hl
        clear hl
        by_cases hg : dgI (s[j].toNat : Int) = true
        · have B := Lib.hid (Y.out (nmc_dg hg))
          go_wp2_with (first | (go_at_call 43; refine (begins_any _ _).mono ?_; rintro e w' ⟨rfl, rfl⟩) | (go_at_call 45; refine (isdig_any _ _).mono ?_; rintro e w' ⟨rfl, rfl⟩))
          go_round
          case rel => exact ⟨j + 1, by omega, by omega, by go_num, by have h1 := B.out; have h2 := JE.out; omega⟩
          case measure => simp [intOf]; omega
        · have hg' : dgI (s[j].toNat : Int) = false := by simpa using hg
          clear hg
          have B := Lib.hid (N.out (nmc_no hl' hg'))
          have hjE : j = k + E := by have h1 := B.out; have h2 := JE.out; omega
          subst hjE
          go_wp2_with (first | (go_at_call 43; refine (begins_any _ _).mono ?_; rintro e w' ⟨rfl, rfl⟩) | (go_at_call 45; refine (isdig_any _ _).mono ?_; rintro e w' ⟨rfl, rfl⟩))
          exact bodyPost_ret (v := .tuple #[.agg #[.int .i64 0, .string ⟨#[]⟩, .int .i64 0, .int .i64 0], .int .i64 (k : Int)]) (by simp [results, Tryd.results44, go_sem]) rfl (tk_mk rfl rfl (below_new _ _))
    · have M := Lib.hid (spnS_end (p := nmc) (s := s) (k := j) (by omega))
      have hjE : j = k + E := by have h1 := M.out; have h2 := JE.out; omega
      subst hjE
      go_wp2
      exact bodyPost_ret (v := .tuple #[.agg #[.int .i64 0, .string ⟨#[]⟩, .int .i64 0, .int .i64 0], .int .i64 (k : Int)]) (by simp [results, Tryd.results44, go_sem]) rfl (tk_mk rfl rfl (below_new _ _))

theorem prefix_any (s p : ByteArray) (w : World) : Calls Tryd.prog 57 #[.string s, .string p] w (BoolPost (p.data.toList.isPrefixOf s.data.toList) w) := (Tryd.strings_HasPrefix s p w).mono fun _ _ ⟨h1, h2⟩ => ⟨h1, h2.symm⟩
theorem ext_end (s : ByteArray) (k : Nat) : (s.extract k s.size).data.toList = s.data.toList.drop k := by
  rw [ext_eq]
  show ((s.data.toList.drop k).take (s.size - k)) = _
  rw [List.take_of_length_le (by simp)]
theorem finS_yes {b n : Nat} {s : ByteArray} {k : Nat} (h : k < s.size) (hp : dgb b s[k] = true) : fin b n (s.data.toList.drop k) = fin b (n * b + dvl s[k]) (s.data.toList.drop (k + 1)) := fin_yes (l := s.data.toList) (by simpa using h) hp
theorem finS_no {b n : Nat} {s : ByteArray} {k : Nat} (h : k < s.size) (hp : dgb b s[k] = false) : fin b n (s.data.toList.drop k) = n := fin_no (l := s.data.toList) (by simpa using h) hp
theorem finS_end {b n : Nat} {s : ByteArray} {k : Nat} (h : s.size ≤ k) : fin b n (s.data.toList.drop k) = n := fin_end (l := s.data.toList) (by simpa using h)
/-- The number that digits tell, or none; where it ends. -/
def numT (b : Nat) (r : List UInt8) (k : Int) : Tk := if spn (dgb b) r = 0 ∨ 2147483648 ≤ fin b 0 r then Tk.none else ⟨2, [], (fin b 0 r : Nat), k⟩
def numE (b : Nat) (r : List UInt8) (k F : Nat) : Int := if spn (dgb b) r = 0 ∨ 2147483648 ≤ fin b 0 r then (k : Int) else ((F + spn (dgb b) r : Nat) : Int)
theorem numT_no {b : Nat} {r : List UInt8} {k : Int} (h : spn (dgb b) r = 0 ∨ 2147483648 ≤ fin b 0 r) : numT b r k = Tk.none := if_pos h
theorem numE_no {b : Nat} {r : List UInt8} {k F : Nat} (h : spn (dgb b) r = 0 ∨ 2147483648 ≤ fin b 0 r) : numE b r k F = k := if_pos h
theorem numT_yes {b : Nat} {r : List UInt8} {k : Int} (h : ¬ (spn (dgb b) r = 0 ∨ 2147483648 ≤ fin b 0 r)) : numT b r k = ⟨2, [], (fin b 0 r : Nat), k⟩ := if_neg h
theorem numE_yes {b : Nat} {r : List UInt8} {k F : Nat} (h : ¬ (spn (dgb b) r = 0 ∨ 2147483648 ≤ fin b 0 r)) : numE b r k F = ((F + spn (dgb b) r : Nat) : Int) := if_neg h
set_option maxHeartbeats 1000000 in
theorem number10 (s : ByteArray) (k : Nat) (w : World) (hs : s.size ≤ maxLen) (hk : k ≤ s.size) (hx : hex0 (s.data.toList.drop k) = false) :
    Calls Tryd.prog 46 #[.string s, .int .i64 k] w (TkPost (numT 10 (s.data.toList.drop (k)) k) (numE 10 (s.data.toList.drop (k)) k (k)) w) := by
  unfold maxLen at hs
  have hle := spnS_le (dgb 10) s (k)
  have HP := prefix_any (s.extract k s.size) ⟨#[48, 120]⟩
  rw [ext_end, show (⟨#[48, 120]⟩ : ByteArray).data.toList.isPrefixOf (s.data.toList.drop k) = false from hx] at HP
  have NT := Lib.hid (@numT_no 10 (s.data.toList.drop (k)) k)
  have NE := Lib.hid (@numE_no 10 (s.data.toList.drop (k)) k (k))
  have YT := Lib.hid (@numT_yes 10 (s.data.toList.drop (k)) k)
  have YE := Lib.hid (@numE_yes 10 (s.data.toList.drop (k)) k (k))
  generalize numT 10 (s.data.toList.drop (k)) k = RT at *
  generalize numE 10 (s.data.toList.drop (k)) k (k) = RE at *
  generalize hE : spn (dgb 10) (s.data.toList.drop (k)) = E at *
  generalize hV : fin 10 0 (s.data.toList.drop (k)) = V at *
  have HE := Lib.hid hE
  have HV := Lib.hid hV
  clear hE hV hx
  go_enter Tryd.func46, Tryd.ntmps46
  go_wp2_with (go_at_call 57; refine (HP _).mono ?_; rintro e w' ⟨rfl, rfl⟩)
  clear HP
  go_loop [8, 9] (fun n a => ∃ (j m : Nat), k ≤ j ∧ j ≤ s.size ∧ a = .int .i64 j ∧ n = .int .i64 m ∧ m ≤ 2147483647 ∧ j + spn (dgb 10) (s.data.toList.drop j) = k + E ∧ fin 10 m (s.data.toList.drop j) = V) (fun _ a => s.size - (intOf a).toNat)
  case atStart => exact ⟨k, 0, Nat.le_refl _, hk, by first | rfl | go_num, rfl, by decide, by rw [HE.out], HV.out⟩
  case round =>
    obtain ⟨j, m, hkj, hj, rfl, rfl, hm, he, hv⟩ := hrel
    have JE := Lib.hid he
    have JV := Lib.hid hv
    clear he hv
    by_cases hlt : j < s.size
    · obtain ⟨z0, z1⟩ := dvI_bound (s[j].toNat : Int)
      obtain ⟨c0, c1⟩ := u8_int s[j]
      have hz := dvl_eq s[j]
      have DL := Lib.hid hz
      clear hz
      by_cases hd : dgb 10 s[j] = true
      · have Y := Lib.hid (spnS_yes hlt hd)
        have X := Lib.hid (finS_yes (n := m) hlt hd)
        have hdv : dvI (s[j].toNat : Int) < 10 := (dgb_lt (b := 10) (by decide) _).1 hd
        clear hd
        by_cases hbig : (m : Int) * 10 + dvI (s[j].toNat : Int) ≤ 2147483647
        · go_wp2_with (go_at_call 58; refine (ldig_any _ _ (by exact (u8_int _).1) (by exact (u8_int _).2)).mono ?_; rintro e w' ⟨rfl, rfl⟩)
          go_round
          case rel => exact ⟨j + 1, m * 10 + dvl s[j], by omega, by omega, by go_num, by have := DL.out; rw [← this]; congr 1, by have := DL.out; omega, by have h1 := Y.out; have h2 := JE.out; omega, by rw [← X.out]; exact JV.out⟩
          case measure => simp [intOf]; omega
        · have hbig' : 2147483647 < (m : Int) * 10 + dvI (s[j].toNat : Int) := by omega
          have BV := Lib.hid (show 2147483648 ≤ V by have h1 := fin_ge (b := 10) (by decide) (s.data.toList.drop (j + 1)) (m * 10 + dvl s[j]); rw [← X.out, JV.out] at h1; have := DL.out; omega)
          clear hbig
          go_wp2_with (go_at_call 58; refine (ldig_any _ _ (by exact (u8_int _).1) (by exact (u8_int _).2)).mono ?_; rintro e w' ⟨rfl, rfl⟩)
          exact bodyPost_ret (v := .tuple #[.agg #[.int .i64 0, .string ⟨#[]⟩, .int .i64 0, .int .i64 0], .int .i64 (k : Int)]) (by simp [results, Tryd.results46, go_sem]) rfl (tk_mk (by rw [NT.out (.inr BV.out)]; rfl) (by rw [NE.out (.inr BV.out)]) (below_new _ _))
      · have hd' : dgb 10 s[j] = false := by simpa using hd
        have h1 := spnS_no hlt hd'
        have h2 := finS_no (n := m) hlt hd'
        have hjE : j = k + E := by have h3 := JE.out; omega
        have hdv : decide (dvI (s[j].toNat : Int) < 10) = false := by
          rw [decide_eq_false_iff_not]; intro h; exact hd ((dgb_lt (b := 10) (by decide) _).2 h)
        have MV := Lib.hid (show m = V by rw [← JV.out, h2])
        clear hd hd' h1 h2
        by_cases hE0 : E = 0
        · have RT0 := Lib.hid (NT.out (.inl hE0))
          have RE0 := Lib.hid (NE.out (.inl hE0))
          clear NT NE YT YE HE
          have hjk : k = j := by omega
          clear hjE
          subst hjk
          subst hE0
          go_wp2_with (go_at_call 58; refine (ldig_any _ _ (by exact (u8_int _).1) (by exact (u8_int _).2)).mono ?_; rintro e w' ⟨rfl, rfl⟩)
          exact bodyPost_ret (v := .tuple #[.agg #[.int .i64 0, .string ⟨#[]⟩, .int .i64 0, .int .i64 0], .int .i64 (k : Int)]) (by simp [results, Tryd.results46, go_sem]) rfl (tk_mk (by rw [RT0.out]; rfl) (by rw [RE0.out]) (below_new _ _))
        · subst hjE
          have hne : ((k : Int) + (E : Int) == (k : Int)) = false := by rw [beq_eq_false_iff_ne]; omega
          have NN := Lib.hid (show ¬ (E = 0 ∨ 2147483648 ≤ V) by have := MV.out; omega)
          clear hE0
          go_wp2_with (go_at_call 58; refine (ldig_any _ _ (by exact (u8_int _).1) (by exact (u8_int _).2)).mono ?_; rintro e w' ⟨rfl, rfl⟩)
          exact bodyPost_ret (v := .tuple #[.agg #[.int .i64 2, .string ⟨#[]⟩, .int .i64 (m : Int), .int .i64 (k : Int)], .int .i64 ((k : Int) + (E : Int))]) (by simp [results, Tryd.results46, go_sem]) rfl (tk_mk (by rw [YT.out NN.out, MV.out]; rfl) (by rw [YE.out NN.out]; omega) (below_new _ _))
    · have h1 := spnS_end (p := dgb 10) (s := s) (k := j) (by omega)
      have h2 := finS_end (b := 10) (n := m) (s := s) (k := j) (by omega)
      have hjE : j = k + E := by have h3 := JE.out; omega
      have MV := Lib.hid (show m = V by rw [← JV.out, h2])
      clear h1 h2
      by_cases hE0 : E = 0
      · have RT0 := Lib.hid (NT.out (.inl hE0))
        have RE0 := Lib.hid (NE.out (.inl hE0))
        clear NT NE YT YE HE
        have hjk : k = j := by omega
        clear hjE
        subst hjk
        subst hE0
        go_wp2_with (go_at_call 58; refine (ldig_any _ _ (by exact (u8_int _).1) (by exact (u8_int _).2)).mono ?_; rintro e w' ⟨rfl, rfl⟩)
        exact bodyPost_ret (v := .tuple #[.agg #[.int .i64 0, .string ⟨#[]⟩, .int .i64 0, .int .i64 0], .int .i64 (k : Int)]) (by simp [results, Tryd.results46, go_sem]) rfl (tk_mk (by rw [RT0.out]; rfl) (by rw [RE0.out]) (below_new _ _))
      · subst hjE
        have hne : ((k : Int) + (E : Int) == (k : Int)) = false := by rw [beq_eq_false_iff_ne]; omega
        have NN := Lib.hid (show ¬ (E = 0 ∨ 2147483648 ≤ V) by have := MV.out; omega)
        clear hE0
        go_wp2_with (go_at_call 58; refine (ldig_any _ _ (by exact (u8_int _).1) (by exact (u8_int _).2)).mono ?_; rintro e w' ⟨rfl, rfl⟩)
        exact bodyPost_ret (v := .tuple #[.agg #[.int .i64 2, .string ⟨#[]⟩, .int .i64 (m : Int), .int .i64 (k : Int)], .int .i64 ((k : Int) + (E : Int))]) (by simp [results, Tryd.results46, go_sem]) rfl (tk_mk (by rw [YT.out NN.out, MV.out]; rfl) (by rw [YE.out NN.out]; omega) (below_new _ _))
set_option maxHeartbeats 1000000 in
theorem number16 (s : ByteArray) (k : Nat) (w : World) (hs : s.size ≤ maxLen) (hk : k + 2 ≤ s.size) (hx : hex0 (s.data.toList.drop k) = true) :
    Calls Tryd.prog 46 #[.string s, .int .i64 k] w (TkPost (numT 16 (s.data.toList.drop (k + 2)) k) (numE 16 (s.data.toList.drop (k + 2)) k (k + 2)) w) := by
  unfold maxLen at hs
  have hle := spnS_le (dgb 16) s (k + 2)
  have HP := prefix_any (s.extract k s.size) ⟨#[48, 120]⟩
  rw [ext_end, show (⟨#[48, 120]⟩ : ByteArray).data.toList.isPrefixOf (s.data.toList.drop k) = true from hx] at HP
  have NT := Lib.hid (@numT_no 16 (s.data.toList.drop (k + 2)) k)
  have NE := Lib.hid (@numE_no 16 (s.data.toList.drop (k + 2)) k (k + 2))
  have YT := Lib.hid (@numT_yes 16 (s.data.toList.drop (k + 2)) k)
  have YE := Lib.hid (@numE_yes 16 (s.data.toList.drop (k + 2)) k (k + 2))
  generalize numT 16 (s.data.toList.drop (k + 2)) k = RT at *
  generalize numE 16 (s.data.toList.drop (k + 2)) k (k + 2) = RE at *
  generalize hE : spn (dgb 16) (s.data.toList.drop (k + 2)) = E at *
  generalize hV : fin 16 0 (s.data.toList.drop (k + 2)) = V at *
  have HE := Lib.hid hE
  have HV := Lib.hid hV
  clear hE hV hx
  go_enter Tryd.func46, Tryd.ntmps46
  go_wp2_with (go_at_call 57; refine (HP _).mono ?_; rintro e w' ⟨rfl, rfl⟩)
  clear HP
  go_loop [8, 9] (fun n a => ∃ (j m : Nat), k + 2 ≤ j ∧ j ≤ s.size ∧ a = .int .i64 j ∧ n = .int .i64 m ∧ m ≤ 2147483647 ∧ j + spn (dgb 16) (s.data.toList.drop j) = k + 2 + E ∧ fin 16 m (s.data.toList.drop j) = V) (fun _ a => s.size - (intOf a).toNat)
  case atStart => exact ⟨k + 2, 0, Nat.le_refl _, hk, by first | rfl | go_num, rfl, by decide, by rw [HE.out], HV.out⟩
  case round =>
    obtain ⟨j, m, hkj, hj, rfl, rfl, hm, he, hv⟩ := hrel
    have JE := Lib.hid he
    have JV := Lib.hid hv
    clear he hv
    by_cases hlt : j < s.size
    · obtain ⟨z0, z1⟩ := dvI_bound (s[j].toNat : Int)
      obtain ⟨c0, c1⟩ := u8_int s[j]
      have hz := dvl_eq s[j]
      have DL := Lib.hid hz
      clear hz
      by_cases hd : dgb 16 s[j] = true
      · have Y := Lib.hid (spnS_yes hlt hd)
        have X := Lib.hid (finS_yes (n := m) hlt hd)
        have hdv : dvI (s[j].toNat : Int) < 16 := (dgb_lt (b := 16) (by decide) _).1 hd
        clear hd
        by_cases hbig : (m : Int) * 16 + dvI (s[j].toNat : Int) ≤ 2147483647
        · go_wp2_with (go_at_call 58; refine (ldig_any _ _ (by exact (u8_int _).1) (by exact (u8_int _).2)).mono ?_; rintro e w' ⟨rfl, rfl⟩)
          go_round
          case rel => exact ⟨j + 1, m * 16 + dvl s[j], by omega, by omega, by go_num, by have := DL.out; rw [← this]; congr 1, by have := DL.out; omega, by have h1 := Y.out; have h2 := JE.out; omega, by rw [← X.out]; exact JV.out⟩
          case measure => simp [intOf]; omega
        · have hbig' : 2147483647 < (m : Int) * 16 + dvI (s[j].toNat : Int) := by omega
          have BV := Lib.hid (show 2147483648 ≤ V by have h1 := fin_ge (b := 16) (by decide) (s.data.toList.drop (j + 1)) (m * 16 + dvl s[j]); rw [← X.out, JV.out] at h1; have := DL.out; omega)
          clear hbig
          go_wp2_with (go_at_call 58; refine (ldig_any _ _ (by exact (u8_int _).1) (by exact (u8_int _).2)).mono ?_; rintro e w' ⟨rfl, rfl⟩)
          exact bodyPost_ret (v := .tuple #[.agg #[.int .i64 0, .string ⟨#[]⟩, .int .i64 0, .int .i64 0], .int .i64 (k : Int)]) (by simp [results, Tryd.results46, go_sem]) rfl (tk_mk (by rw [NT.out (.inr BV.out)]; rfl) (by rw [NE.out (.inr BV.out)]) (below_new _ _))
      · have hd' : dgb 16 s[j] = false := by simpa using hd
        have h1 := spnS_no hlt hd'
        have h2 := finS_no (n := m) hlt hd'
        have hjE : j = k + 2 + E := by have h3 := JE.out; omega
        have hdv : decide (dvI (s[j].toNat : Int) < 16) = false := by
          rw [decide_eq_false_iff_not]; intro h; exact hd ((dgb_lt (b := 16) (by decide) _).2 h)
        have MV := Lib.hid (show m = V by rw [← JV.out, h2])
        clear hd hd' h1 h2
        by_cases hE0 : E = 0
        · have RT0 := Lib.hid (NT.out (.inl hE0))
          have RE0 := Lib.hid (NE.out (.inl hE0))
          clear NT NE YT YE HE
          have hjk : k + 2 = j := by omega
          clear hjE
          subst hjk
          subst hE0
          go_wp2_with (go_at_call 58; refine (ldig_any _ _ (by exact (u8_int _).1) (by exact (u8_int _).2)).mono ?_; rintro e w' ⟨rfl, rfl⟩)
          exact bodyPost_ret (v := .tuple #[.agg #[.int .i64 0, .string ⟨#[]⟩, .int .i64 0, .int .i64 0], .int .i64 (k : Int)]) (by simp [results, Tryd.results46, go_sem]) rfl (tk_mk (by rw [RT0.out]; rfl) (by rw [RE0.out]) (below_new _ _))
        · subst hjE
          have hne : ((k : Int) + 2 + (E : Int) == (k : Int) + 2) = false := by rw [beq_eq_false_iff_ne]; omega
          have NN := Lib.hid (show ¬ (E = 0 ∨ 2147483648 ≤ V) by have := MV.out; omega)
          clear hE0
          go_wp2_with (go_at_call 58; refine (ldig_any _ _ (by exact (u8_int _).1) (by exact (u8_int _).2)).mono ?_; rintro e w' ⟨rfl, rfl⟩)
          exact bodyPost_ret (v := .tuple #[.agg #[.int .i64 2, .string ⟨#[]⟩, .int .i64 (m : Int), .int .i64 (k : Int)], .int .i64 ((k : Int) + 2 + (E : Int))]) (by simp [results, Tryd.results46, go_sem]) rfl (tk_mk (by rw [YT.out NN.out, MV.out]; rfl) (by rw [YE.out NN.out]; omega) (below_new _ _))
    · have h1 := spnS_end (p := dgb 16) (s := s) (k := j) (by omega)
      have h2 := finS_end (b := 16) (n := m) (s := s) (k := j) (by omega)
      have hjE : j = k + 2 + E := by have h3 := JE.out; omega
      have MV := Lib.hid (show m = V by rw [← JV.out, h2])
      clear h1 h2
      by_cases hE0 : E = 0
      · have RT0 := Lib.hid (NT.out (.inl hE0))
        have RE0 := Lib.hid (NE.out (.inl hE0))
        clear NT NE YT YE HE
        have hjk : k + 2 = j := by omega
        clear hjE
        subst hjk
        subst hE0
        go_wp2_with (go_at_call 58; refine (ldig_any _ _ (by exact (u8_int _).1) (by exact (u8_int _).2)).mono ?_; rintro e w' ⟨rfl, rfl⟩)
        exact bodyPost_ret (v := .tuple #[.agg #[.int .i64 0, .string ⟨#[]⟩, .int .i64 0, .int .i64 0], .int .i64 (k : Int)]) (by simp [results, Tryd.results46, go_sem]) rfl (tk_mk (by rw [RT0.out]; rfl) (by rw [RE0.out]) (below_new _ _))
      · subst hjE
        have hne : ((k : Int) + 2 + (E : Int) == (k : Int) + 2) = false := by rw [beq_eq_false_iff_ne]; omega
        have NN := Lib.hid (show ¬ (E = 0 ∨ 2147483648 ≤ V) by have := MV.out; omega)
        clear hE0
        go_wp2_with (go_at_call 58; refine (ldig_any _ _ (by exact (u8_int _).1) (by exact (u8_int _).2)).mono ?_; rintro e w' ⟨rfl, rfl⟩)
        exact bodyPost_ret (v := .tuple #[.agg #[.int .i64 2, .string ⟨#[]⟩, .int .i64 (m : Int), .int .i64 (k : Int)], .int .i64 ((k : Int) + 2 + (E : Int))]) (by simp [results, Tryd.results46, go_sem]) rfl (tk_mk (by rw [YT.out NN.out, MV.out]; rfl) (by rw [YE.out NN.out]; omega) (below_new _ _))
end Go.Proofs.YtddbfhdhldnoiaaDoor
