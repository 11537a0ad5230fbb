/-
  Contracts of the calls by which both machines tell whether a state may be: small ones. Conditions: none, but that the row of returns reads as a list.
-/
import Derived.Test.YtbgmdikcbglpiaaGreatDoorBk
import Derived.Deep.LoopGhost
namespace Go.Proofs.YtbgmdikcbglpiaaGreatDoor
open Go.RowKit

theorem BK.c11 {w : World} {g : Nat} {v0 v1 v2 v3 v4 v5 v6 v7 v8 v9 v10 : Value} (h : BK 27 w g #[v0, v1, v2, v3, v4, v5, v6, v7, v8, v9, v10]) :
    w.cell? ⟨g, 0, none⟩ = some v0 ∧ w.cell? ⟨g, 1, none⟩ = some v1 ∧ w.cell? ⟨g, 2, none⟩ = some v2 ∧ w.cell? ⟨g, 3, none⟩ = some v3 ∧ w.cell? ⟨g, 4, none⟩ = some v4 ∧ w.cell? ⟨g, 5, none⟩ = some v5 ∧ w.cell? ⟨g, 6, none⟩ = some v6 ∧ w.cell? ⟨g, 7, none⟩ = some v7 ∧ w.cell? ⟨g, 8, none⟩ = some v8 ∧ w.cell? ⟨g, 9, none⟩ = some v9 ∧ w.cell? ⟨g, 10, none⟩ = some v10 :=
  ⟨h.cell 0, h.cell 1, h.cell 2, h.cell 3, h.cell 4, h.cell 5, h.cell 6, h.cell 7, h.cell 8, h.cell 9, h.cell 10⟩
def plB (x : Int) : Bool := decide (0 ≤ x) && decide (x ≤ 1024)
theorem place_any (x : Int) (w : World) : Calls Tryz.prog 82 #[.int .i64 x] w (BoolPost (plB x) w) := by
  by_cases h1 : 0 ≤ x
  · have t1 : decide (0 ≤ x) = true := by simpa using h1
    go_enter Tryz.func82, Tryz.ntmps82
    go_wp2
    go_ret
    exact bool_mk (by rw [plB, t1]; simp)
  · have t1 : decide (0 ≤ x) = false := by simpa using h1
    go_enter Tryz.func82, Tryz.ntmps82
    go_wp2
    go_ret
    exact bool_mk (by rw [plB, t1]; simp)
theorem place_is (x : Int) (b : Bool) (w : World) (h : plB x = b) : Calls Tryz.prog 82 #[.int .i64 x] w (BoolPost b w) := by subst h; exact place_any x w
theorem notplace (x : Int) (b : Bool) (w : World) (h : plB x = b) : Calls Tryz.prog 84 #[.int .i64 x] w (BoolPost (!b) w) := by
  go_enter Tryz.func84, Tryz.ntmps84
  go_wp2_with (go_at_call 82; refine (place_is x b _ h).mono ?_; rintro e w' ⟨rfl, rfl⟩)
  go_ret
  exact ⟨rfl, rfl⟩
def szB (n1 n2 n3 : Nat) (tk : Int) : Bool := decide (n1 = 16) && decide (n2 = 256) && decide (n3 ≤ 100) && decide (0 ≤ tk) && decide (tk ≤ n3)
set_option maxHeartbeats 1000000 in
theorem sizes_any (A1 A2 A3 A5 A6 : Option Addr) (n1 c1 n2 c2 n3 c3 n5 c5 n6 c6 : Nat) (tk pc stop j d : Int) (o : Value) (w : World) : Calls Tryz.prog 62 #[.agg #[.slice A1 n1 c1, .slice A2 n2 c2, .slice A3 n3 c3, .int .i64 tk, o, .int .i64 pc, .slice A5 n5 c5, .int .i64 stop, .slice A6 n6 c6, .int .i64 j, .int .i64 d]] w (BoolBelow (szB n1 n2 n3 tk) w) := by
  by_cases h0 : n1 = 16
  rotate_left
  · have t0 : ((n1 : Int) == 16) = false := by simp; omega
    have E := Lib.hid (show szB n1 n2 n3 tk = false by simp [szB, h0])
    clear h0
    go_enter Tryz.func62, Tryz.ntmps62
    go_wp2
    go_ret
    exact boolb_mk (by rw [E.out]) (below_new _ _)
  by_cases h1 : n2 = 256
  rotate_left
  · have t1 : ((n2 : Int) == 256) = false := by simp; omega
    have t0 : ((n1 : Int) == 16) = true := by simp; omega
    have E := Lib.hid (show szB n1 n2 n3 tk = false by simp [szB, h1])
    clear h0 h1
    go_enter Tryz.func62, Tryz.ntmps62
    go_wp2
    go_ret
    exact boolb_mk (by rw [E.out]) (below_new _ _)
  by_cases h2 : n3 ≤ 100
  rotate_left
  · have t2 : decide ((n3 : Int) ≤ 100) = false := by simp; omega
    have t0 : ((n1 : Int) == 16) = true := by simp; omega
    have t1 : ((n2 : Int) == 256) = true := by simp; omega
    have E := Lib.hid (show szB n1 n2 n3 tk = false by simp [szB, h2])
    clear h0 h1 h2
    go_enter Tryz.func62, Tryz.ntmps62
    go_wp2
    go_ret
    exact boolb_mk (by rw [E.out]) (below_new _ _)
  by_cases h3 : 0 ≤ tk
  rotate_left
  · have t3 : decide (0 ≤ tk) = false := by simp; omega
    have t0 : ((n1 : Int) == 16) = true := by simp; omega
    have t1 : ((n2 : Int) == 256) = true := by simp; omega
    have t2 : decide ((n3 : Int) ≤ 100) = true := by simp; omega
    have E := Lib.hid (show szB n1 n2 n3 tk = false by simp [szB, h3])
    clear h0 h1 h2 h3
    go_enter Tryz.func62, Tryz.ntmps62
    go_wp2
    go_ret
    exact boolb_mk (by rw [E.out]) (below_new _ _)
  by_cases h4 : tk ≤ (n3 : Int)
  rotate_left
  · have t4 : decide (tk ≤ (n3 : Int)) = false := by simp; omega
    have t0 : ((n1 : Int) == 16) = true := by simp; omega
    have t1 : ((n2 : Int) == 256) = true := by simp; omega
    have t2 : decide ((n3 : Int) ≤ 100) = true := by simp; omega
    have t3 : decide (0 ≤ tk) = true := by simp; omega
    have E := Lib.hid (show szB n1 n2 n3 tk = false by simp [szB, h4])
    clear h0 h1 h2 h3 h4
    go_enter Tryz.func62, Tryz.ntmps62
    go_wp2
    go_ret
    exact boolb_mk (by rw [E.out]) (below_new _ _)
  have t0 : ((n1 : Int) == 16) = true := by simp; omega
  have t1 : ((n2 : Int) == 256) = true := by simp; omega
  have t2 : decide ((n3 : Int) ≤ 100) = true := by simp; omega
  have t3 : decide (0 ≤ tk) = true := by simp; omega
  have t4 : decide (tk ≤ (n3 : Int)) = true := by simp; omega
  have E := Lib.hid (show szB n1 n2 n3 tk = true by simp [szB, h0, h1, h2, h3, h4])
  clear h0 h1 h2 h3 h4
  go_enter Tryz.func62, Tryz.ntmps62
  go_wp2
  go_ret
  exact boolb_mk (by rw [E.out]) (below_new _ _)
theorem sizes_is (A1 A2 A3 A5 A6 : Option Addr) (n1 c1 n2 c2 n3 c3 n5 c5 n6 c6 : Nat) (tk pc stop j d : Int) (o : Value) (w : World) (b : Bool) (h : szB n1 n2 n3 tk = b) : Calls Tryz.prog 62 #[.agg #[.slice A1 n1 c1, .slice A2 n2 c2, .slice A3 n3 c3, .int .i64 tk, o, .int .i64 pc, .slice A5 n5 c5, .int .i64 stop, .slice A6 n6 c6, .int .i64 j, .int .i64 d]] w (BoolBelow b w) := by subst h; exact sizes_any A1 A2 A3 A5 A6 n1 c1 n2 c2 n3 c3 n5 c5 n6 c6 tk pc stop j d o w
def allPl (l : List Int) : Bool := l.all plB
theorem allpl_take {l : List Int} {i : Nat} (hi : i < l.length) (h : allPl l = true) : plB l[i] = true := List.all_eq_true.1 h _ (List.getElem_mem hi)
set_option maxHeartbeats 1000000 in
theorem index_none (l : List Int) (v : Value) (w : World) (h : Rd .i64 w v l) (ha : allPl l = true) (hl : l.length ≤ 1000000) : Calls Tryz.prog 100 #[v, .func (.func 84) #[] #[]] w (IntPost (-1) w) := by
  obtain ⟨A, c, rfl, hr⟩ := h
  have R := Lib.hid hr
  have HA := Lib.hid ha
  generalize hn : l.length = n at *
  have HN := Lib.hid hn
  clear hr ha hn
  go_enter Tryz.func100, Tryz.ntmps100
  go_wp2
  go_loop [8] (fun o => ∃ i : Nat, i ≤ n ∧ o = .int .i64 i) (fun o => n - (intOf o).toNat)
  case atStart => exact ⟨0, by omega, rfl⟩
  case round =>
    obtain ⟨i, hi, rfl⟩ := hrel
    by_cases hlt : i < n
    · have hd : decide ((i : Int) < (n : Int)) = true := by simpa using hlt
      have i0 : (0 : Int) ≤ (i : Int) := by omega
      have i1 : (i : Int) < (n : Int) := by omega
      obtain ⟨ad, rfl, hg, q⟩ := R.out (by omega)
      have hil : i < l.length := by have := HN.out; omega
      have k1 := q i _ (map_get hil)
      have P := Lib.hid (fun W => notplace l[i] true W (allpl_take hil HA.out))
      generalize l[i] = z at k1 P
      clear q hg hil
      go_wp2_with (go_at_call 84; refine (P.out _).mono ?_; rintro e w' ⟨rfl, rfl⟩)
      go_round
      case rel => exact ⟨i + 1, by omega, by go_num⟩
      case measure => simp [intOf]; omega
    · have hd : decide ((i : Int) < (n : Int)) = false := by simp; omega
      go_wp2
      go_ret
      exact ⟨rfl, rfl⟩
def SomeIx (w : World) (e : Ending) (w' : World) : Prop := ∃ i : Nat, e = .returned (.int .i64 i) ∧ w = w'
set_option maxHeartbeats 1000000 in
theorem index_some (l : List Int) (v : Value) (w : World) (h : Rd .i64 w v l) (ha : allPl l = false) (hl : l.length ≤ 1000000) : Calls Tryz.prog 100 #[v, .func (.func 84) #[] #[]] w (SomeIx w) := by
  obtain ⟨A, c, rfl, hr⟩ := h
  have R := Lib.hid hr
  have HA := Lib.hid ha
  generalize hn : l.length = n at *
  have HN := Lib.hid hn
  clear hr ha hn
  go_enter Tryz.func100, Tryz.ntmps100
  go_wp2
  go_loop [8] (fun o => ∃ i : Nat, i ≤ n ∧ o = .int .i64 i ∧ allPl (l.take i) = true) (fun o => n - (intOf o).toNat)
  case atStart => exact ⟨0, by omega, rfl, rfl⟩
  case round =>
    obtain ⟨i, hi, rfl, hp⟩ := hrel
    have HP := Lib.hid hp
    clear hp
    by_cases hlt : i < n
    · have hd : decide ((i : Int) < (n : Int)) = true := by simpa using hlt
      have i0 : (0 : Int) ≤ (i : Int) := by omega
      have i1 : (i : Int) < (n : Int) := by omega
      obtain ⟨ad, rfl, hg, q⟩ := R.out (by omega)
      have hil : i < l.length := by have := HN.out; omega
      have k1 := q i _ (map_get hil)
      have T := Lib.hid (List.take_succ_eq_append_getElem hil)
      generalize l[i] = z at k1 T
      clear q hg hil
      cases hz : plB z
      · have P := Lib.hid (fun W => notplace z false W hz)
        clear hz
        go_wp2_with (go_at_call 84; refine (P.out _).mono ?_; rintro e w' ⟨rfl, rfl⟩)
        go_ret
        exact ⟨i, rfl, rfl⟩
      · have P := Lib.hid (fun W => notplace z true W hz)
        have HZ := Lib.hid hz
        clear hz
        go_wp2_with (go_at_call 84; refine (P.out _).mono ?_; rintro e w' ⟨rfl, rfl⟩)
        go_round
        case rel => exact ⟨i + 1, by omega, by go_num, by have h1 := HP.out; rw [T.out]; unfold allPl at h1 ⊢; rw [List.all_append, h1]; simpa using HZ.out⟩
        case measure => simp [intOf]; omega
    · exfalso
      have h1 := HP.out
      rw [List.take_of_length_le (by have := HN.out; omega), HA.out] at h1
      cases h1
theorem contains_any (l : List Int) (v : Value) (w : World) (h : Rd .i64 w v l) (hl : l.length ≤ 1000000) : Calls Tryz.prog 83 #[v, .func (.func 84) #[] #[]] w (BoolPost (!allPl l) w) := by
  have hv : ∃ A n c, v = .slice A n c := by obtain ⟨A, c, rfl, _⟩ := h; exact ⟨_, _, _, rfl⟩
  obtain ⟨A, n, c, rfl⟩ := hv
  cases ha : allPl l
  · have P := Lib.hid (fun W (x : Rd .i64 W (.slice A n c) l) => index_some l _ W x ha hl)
    have R := Lib.hid h
    clear h ha hl
    go_enter Tryz.func83, Tryz.ntmps83
    go_wp2_with fail
    refine (P.out _ R.out).mono ?_
    rintro e w' ⟨i, rfl, rfl⟩
    have hi : decide (0 ≤ (i : Int)) = true := by simp
    go_wp2
    go_ret
    exact bool_mk (by simp)
  · have P := Lib.hid (fun W (x : Rd .i64 W (.slice A n c) l) => index_none l _ W x ha hl)
    have R := Lib.hid h
    clear h ha hl
    go_enter Tryz.func83, Tryz.ntmps83
    go_wp2_with fail
    refine (P.out _ R.out).mono ?_
    rintro e w' ⟨rfl, rfl⟩
    go_wp2
    go_ret
    exact bool_mk (by simp)
theorem contains_is (l : List Int) (v : Value) (b : Bool) (w : World) (h : Rd .i64 w v l) (hl : l.length ≤ 1000000) (hb : allPl l = b) : Calls Tryz.prog 83 #[v, .func (.func 84) #[] #[]] w (BoolPost (!b) w) := by
  subst hb; exact contains_any l v w h hl
/-- Do the places of a state fit? -/
def plsB (pc : Int) (l : List Int) : Bool := plB pc && decide (l.length ≤ 16) && allPl l
set_option maxHeartbeats 1000000 in
theorem places_any (A1 A2 A3 A5 A6 : Option Addr) (n1 c1 n2 c2 n3 c3 c5 n6 c6 : Nat) (tk pc stop j d : Int) (o : Value) (l : List Int) (w : World) (h : Rd .i64 w (.slice A5 l.length c5) l) (hl : l.length ≤ 1000000) : Calls Tryz.prog 63 #[.agg #[.slice A1 n1 c1, .slice A2 n2 c2, .slice A3 n3 c3, .int .i64 tk, o, .int .i64 pc, .slice A5 l.length c5, .int .i64 stop, .slice A6 n6 c6, .int .i64 j, .int .i64 d]] w (BoolBelow (plsB pc l) w) := by
  have R := Lib.hid h
  have C := Lib.hid (fun W b (x : Rd .i64 W (.slice A5 l.length c5) l) (hb : allPl l = b) => contains_is l _ b W x hl hb)
  generalize hn : l.length = n at *
  have HN := Lib.hid hn
  clear h hl hn
  cases h0 : plB pc
  · have E := Lib.hid (show plsB pc l = false by simp [plsB, h0])
    have P := Lib.hid (fun W => place_is pc false W h0)
    clear h0
    go_enter Tryz.func63, Tryz.ntmps63
    go_wp2_with (go_at_call 82; refine (P.out _).mono ?_; rintro e w' ⟨rfl, rfl⟩)
    go_ret
    exact boolb_mk (by rw [E.out]) (below_new _ _)
  · have P := Lib.hid (fun W => place_is pc true W h0)
    by_cases h1 : n ≤ 16
    · have t1 : decide ((n : Int) ≤ 16) = true := by simp; omega
      cases h2 : allPl l
      · have E := Lib.hid (show plsB pc l = false by simp [plsB, h2])
        have Q := Lib.hid h2
        clear h0 h1 h2
        go_enter Tryz.func63, Tryz.ntmps63
        go_wp2_with (first | (go_at_call 82; refine (P.out _).mono ?_; rintro e w' ⟨rfl, rfl⟩) | (go_at_call 83; refine (C.out _ _ (R.out.alloc _) Q.out).mono ?_; rintro e w' ⟨rfl, rfl⟩))
        go_ret
        exact boolb_mk (by rw [E.out]) (below_new _ _)
      · have E := Lib.hid (show plsB pc l = true by rw [plsB, h0, h2, HN.out]; simpa using h1)
        have Q := Lib.hid h2
        clear h0 h1 h2
        go_enter Tryz.func63, Tryz.ntmps63
        go_wp2_with (first | (go_at_call 82; refine (P.out _).mono ?_; rintro e w' ⟨rfl, rfl⟩) | (go_at_call 83; refine (C.out _ _ (R.out.alloc _) Q.out).mono ?_; rintro e w' ⟨rfl, rfl⟩))
        go_ret
        exact boolb_mk (by rw [E.out]) (below_new _ _)
    · have t1 : decide ((n : Int) ≤ 16) = false := by simp; omega
      have E := Lib.hid (show plsB pc l = false by simp [plsB, HN.out]; omega)
      clear h0 h1
      go_enter Tryz.func63, Tryz.ntmps63
      go_wp2_with (go_at_call 82; refine (P.out _).mono ?_; rintro e w' ⟨rfl, rfl⟩)
      go_ret
      exact boolb_mk (by rw [E.out]) (below_new _ _)
theorem places_is (A1 A2 A3 A5 A6 : Option Addr) (n1 c1 n2 c2 n3 c3 c5 n6 c6 : Nat) (tk pc stop j d : Int) (o : Value) (l : List Int) (w : World) (h : Rd .i64 w (.slice A5 l.length c5) l) (hl : l.length ≤ 1000000) (b : Bool) (hb : plsB pc l = b) : Calls Tryz.prog 63 #[.agg #[.slice A1 n1 c1, .slice A2 n2 c2, .slice A3 n3 c3, .int .i64 tk, o, .int .i64 pc, .slice A5 l.length c5, .int .i64 stop, .slice A6 n6 c6, .int .i64 j, .int .i64 d]] w (BoolBelow b w) := by
  subst hb; exact places_any A1 A2 A3 A5 A6 n1 c1 n2 c2 n3 c3 c5 n6 c6 tk pc stop j d o l w h hl
end Go.Proofs.YtbgmdikcbglpiaaGreatDoor
