/-
  Contracts of the calls by which the program and the page tell whether code may be. Conditions: the row reads as a list of bundles, nil or not; the tables lie in the world.
-/
import Derived.Test.YtbkikibdnpffpaaGreatDoorBc
namespace Go.Proofs.YtbkikibdnpffpaaGreatDoor
open Go.RowKit

/-- A slice that reads as a list of bundles, nil or not. -/
def RdB (w : World) (v : Value) (Xs : List (Nat → In6)) : Prop :=
  ∃ A c, v = .slice A Xs.length c ∧ (0 < Xs.length → ∃ ad : Addr, A = some ad ∧ ad.block < w.heap.size ∧ ∀ i X, Xs[i]? = some X → BAt w (ad.add (i * 24)) X)
theorem RdB.keep {w w' : World} {v : Value} {Xs : List (Nat → In6)} (h : RdB w v Xs) (hb : Below w.heap.size w w') : RdB w' v Xs := by
  obtain ⟨A, c, hv, hr⟩ := h
  refine ⟨A, c, hv, fun h0 => ?_⟩
  obtain ⟨ad, ha, hl, hx⟩ := hr h0
  exact ⟨ad, ha, by have := hb.size; omega, fun i X hi => (hx i X hi).keep hb (by rw [block_add]; exact hl)⟩
def SzsB (Xs : List (Nat → In6)) : Prop := ∀ X ∈ Xs, Szs X
def cP (X : Nat → In6) : Bool := pageB X true
/-- May the code be? -/
def cdB (Xs : List (Nat → In6)) : Bool := decide (Xs.length ≤ 1024) && Xs.all cP
theorem allc_take {Xs : List (Nat → In6)} {i : Nat} (hi : i < Xs.length) {b : Bool} (hb : cP Xs[i] = b) (h : (Xs.take i).all cP = true) : (Xs.take (i + 1)).all cP = b := by
  rw [List.take_succ_eq_append_getElem hi, List.all_append, h]
  simp [hb]
theorem allc_bad {Xs : List (Nat → In6)} {i : Nat} (h : (Xs.take i).all cP = false) : Xs.all cP = false := by
  cases ha : Xs.all cP
  · rfl
  · rw [List.all_eq_true.2 fun x hx => List.all_eq_true.1 ha x (List.mem_of_mem_take hx)] at h; cases h
theorem cdB_bad {Xs : List (Nat → In6)} (h : Xs.all cP = false) : cdB Xs = false := by unfold cdB; rw [h]; simp
theorem cdB_ok {Xs : List (Nat → In6)} (hn : Xs.length ≤ 1024) : cdB Xs = Xs.all cP := by unfold cdB; simp [hn]
def SignB (b : Bool) (w : World) (e : Ending) (w' : World) : Prop := ∃ z : Int, decide (0 ≤ z) = b ∧ e = .returned (.int .i64 z) ∧ Below w.heap.size w w'
set_option maxRecDepth 100000 in
set_option maxHeartbeats 2000000 in
theorem indexB_any (Xs : List (Nat → In6)) (v : Value) (w : World) (h : RdB w v Xs) (hs : SzsB Xs) (T : Tab w) (hl : Xs.length ≤ 1024) : Calls Tryz.prog 71 #[v, .func (.func 51) #[] #[]] w (SignB (!Xs.all cP) w) := by
  obtain ⟨A, c, rfl, hr⟩ := h
  have R := Lib.hid hr
  have S := Lib.hid hs
  have TT := Lib.hid T
  have tb := T.big
  generalize hn : Xs.length = n at *
  have HN := Lib.hid hn
  clear hr hn hs T
  go_enter Tryz.func71, Tryz.ntmps71
  go_wp2_with fail
  go_loopg [8] n (fun gk o wr2 => ∃ i : Nat, i ≤ n ∧ gk = n - i ∧ o = .int .i64 i ∧ Below w.heap.size w wr2 ∧ (Xs.take i).all cP = true)
  case atStart => exact ⟨0, by omega, rfl, rfl, Below.refl _ _, rfl⟩
  case round =>
    obtain ⟨i, hi, rfl, rfl, hb, hp⟩ := hrel
    have HP := Lib.hid hp
    have HB := Lib.hid hb
    have hs0 := hb.size
    clear hp hb
    by_cases hlt : i < n
    · have hd : decide ((i : Int) < (n : Int)) = true := by simpa using hlt
      have i0 : (0 : Int) ≤ (i : Int) := by omega
      have i1 : (i : Int) < (n : Int) := by omega
      obtain ⟨ad, rfl, hg, q⟩ := R.out (by omega)
      have hil : i < Xs.length := by have := HN.out; omega
      have XW := Lib.hid ((q i _ (List.getElem?_eq_getElem hil)).keep HB.out (by rw [block_add]; exact hg))
      have AT := Lib.hid (fun b (hb : cP Xs[i] = b) => allc_take hil hb HP.out)
      have TW := Lib.hid (tab_below TT.out HB.out (by omega))
      have SZ := Lib.hid (S.out Xs[i] (List.getElem_mem hil))
      generalize Xs[i] = X at XW AT SZ
      have C := Lib.hid (show ∀ b, cP X = b → Calls Tryz.prog 51 #[.agg (bcs X)] wr (BoolBelow (!b) wr) from fun b hb => by subst hb; exact isBundle_not X wr TW.out SZ.out)
      clear q hg hil
      cases hc : cP X
      · have CC := Lib.hid (C.out false hc)
        have PB := Lib.hid (AT.out false hc)
        clear hc
        go_wp2_with (first | ((with_reducible refine wpList_load_at (op := ⟨_, .load 52 _, _, _, _, none⟩) rfl _ rfl (ad.add (i * 24)) X ?hx2 XW.out ?_); (case hx2 => rfl)) | (go_at_call 51; refine CC.out.mono ?_; rintro e w' ⟨rfl, hbw⟩))
        go_ret
        exact ⟨i, by rw [allc_bad PB.out]; simp, rfl, HB.out.trans (hbw.mono hs0)⟩
      · have CC := Lib.hid (C.out true hc)
        have PB := Lib.hid (AT.out true hc)
        clear hc
        go_wp2_with (first | ((with_reducible refine wpList_load_at (op := ⟨_, .load 52 _, _, _, _, none⟩) rfl _ rfl (ad.add (i * 24)) X ?hx2 XW.out ?_); (case hx2 => rfl)) | (go_at_call 51; refine CC.out.mono ?_; rintro e w' ⟨rfl, hbw⟩))
        go_roundg (n - (i + 1))
        case measure => omega
        case rel => exact ⟨i + 1, by omega, rfl, by go_num, HB.out.trans (hbw.mono hs0), PB.out⟩
    · have hd : decide ((i : Int) < (n : Int)) = false := by simp; omega
      go_wp2_with fail
      go_ret
      have h1 := HP.out
      rw [List.take_of_length_le (by have := HN.out; omega)] at h1
      exact ⟨-1, by rw [h1]; rfl, rfl, HB.out⟩
theorem containsB_any (Xs : List (Nat → In6)) (v : Value) (w : World) (h : RdB w v Xs) (hs : SzsB Xs) (T : Tab w) (hl : Xs.length ≤ 1024) : Calls Tryz.prog 50 #[v, .func (.func 51) #[] #[]] w (BoolBelow (!Xs.all cP) w) := by
  have C := Lib.hid (indexB_any Xs v w h hs T hl)
  clear h hs T
  go_enter Tryz.func50, Tryz.ntmps50
  go_wp2_with (go_at_call 71; refine C.out.mono ?_; rintro e w' ⟨z, hz, rfl, hb⟩)
  go_ret
  first | exact boolb_mk hz hb | exact boolb_mk rfl hb | (rw [hz]; exact boolb_mk rfl hb)
theorem isCode_any (Xs : List (Nat → In6)) (v : Value) (w : World) (h : RdB w v Xs) (hs : SzsB Xs) (T : Tab w) : Calls Tryz.prog 35 #[v] w (BoolBelow (cdB Xs) w) := by
  by_cases hl : Xs.length ≤ 1024
  · have C := Lib.hid (containsB_any Xs v w h hs T hl)
    have E := Lib.hid (cdB_ok hl)
    obtain ⟨A, c, rfl, -⟩ := h
    have t0 : decide ((Xs.length : Int) ≤ 1024) = true := by simp; omega
    generalize Xs.length = n at *
    generalize hz : Xs.all cP = z at *
    clear hs T hz
    go_enter Tryz.func35, Tryz.ntmps35
    go_wp2_with (go_at_call 50; refine C.out.mono ?_; rintro e w' ⟨rfl, hb⟩)
    go_ret
    first | exact boolb_mk (by rw [E.out]) hb | exact boolb_mk (by rw [E.out]; simp) hb
  · have t0 : decide ((Xs.length : Int) ≤ 1024) = false := by simp; omega
    have E := Lib.hid (show cdB Xs = false by unfold cdB; simp [hl])
    obtain ⟨A, c, rfl, -⟩ := h
    generalize Xs.length = n at *
    clear hs T
    go_enter Tryz.func35, Tryz.ntmps35
    go_wp2_with fail
    go_ret
    exact boolb_mk E.out.symm (Below.refl _ _)
set_option maxRecDepth 100000 in
set_option maxHeartbeats 2000000 in
theorem code_pg (Xs : List (Nat → In6)) (v : Value) (w : World) (h : RdB w v Xs) (hs : SzsB Xs) : Calls Tryz.prog 38 #[v] w (BoolBelow (cdB Xs) w) := by
  obtain ⟨A, c, rfl, hr⟩ := h
  have R := Lib.hid hr
  have S := Lib.hid hs
  generalize hn : Xs.length = n at *
  have HN := Lib.hid hn
  clear hr hs hn
  have nn0 : (0 : Int) ≤ (n : Int) := by omega
  go_enter Tryz.func38, Tryz.ntmps38
  go_wp2_with fail
  go_loopg [3] n (fun gk o wr2 => ∃ i : Nat, i ≤ n ∧ i ≤ 1025 ∧ gk = n - i ∧ o = .int .i64 i ∧ Below w.heap.size w wr2 ∧ (Xs.take i).all cP = true)
  case atStart => exact ⟨0, by omega, by omega, rfl, rfl, Below.refl _ _, rfl⟩
  case round =>
    obtain ⟨i, hi, hi2, rfl, rfl, hb, hp⟩ := hrel
    have HP := Lib.hid hp
    have HB := Lib.hid hb
    have hs0 := hb.size
    clear hp hb
    by_cases hlt : i < n
    · by_cases hle : i ≤ 1024
      · have hd2 : decide ((i : Int) ≤ 1024) = true := by simp; omega
        have hd : decide ((i : Int) < (n : Int)) = true := by simpa using hlt
        have i0 : (0 : Int) ≤ (i : Int) := by omega
        have i1 : (i : Int) < (n : Int) := by omega
        obtain ⟨ad, rfl, hg, q⟩ := R.out (by omega)
        have hil : i < Xs.length := by have := HN.out; omega
        have XW := Lib.hid ((q i _ (List.getElem?_eq_getElem hil)).keep HB.out (by rw [block_add]; exact hg))
        have AT := Lib.hid (fun b (hb : cP Xs[i] = b) => allc_take hil hb HP.out)
        have SZ := Lib.hid (S.out Xs[i] (List.getElem_mem hil))
        generalize Xs[i] = X at XW AT SZ
        have C := Lib.hid (show ∀ b, cP X = b → Calls Tryz.prog 60 #[.agg (bcs X), .bool true] wr (BoolBelow b wr) from fun b hb => by subst hb; exact rbundle_any X true wr SZ.out)
        clear q hg hil
        cases hc : cP X
        · have CC := Lib.hid (C.out false hc)
          have PB := Lib.hid (AT.out false hc)
          clear hc
          go_wp2_with (first | ((with_reducible refine wpList_load_at (op := ⟨_, .load 52 _, _, _, _, none⟩) rfl _ rfl (ad.add (i * 24)) X ?hx2 XW.out ?_); (case hx2 => rfl)) | (go_at_call 60; refine CC.out.mono ?_; rintro e w' ⟨rfl, hbw⟩))
          go_ret
          exact boolb_mk (by rw [cdB_bad (allc_bad PB.out)]) (HB.out.trans (hbw.mono hs0))
        · have CC := Lib.hid (C.out true hc)
          have PB := Lib.hid (AT.out true hc)
          clear hc
          go_wp2_with (first | ((with_reducible refine wpList_load_at (op := ⟨_, .load 52 _, _, _, _, none⟩) rfl _ rfl (ad.add (i * 24)) X ?hx2 XW.out ?_); (case hx2 => rfl)) | (go_at_call 60; refine CC.out.mono ?_; rintro e w' ⟨rfl, hbw⟩))
          go_roundg (n - (i + 1))
          case measure => omega
          case rel => exact ⟨i + 1, by omega, by omega, rfl, by go_num, HB.out.trans (hbw.mono hs0), PB.out⟩
      · have hd2 : decide ((i : Int) ≤ 1024) = false := by simp; omega
        have hd : decide ((i : Int) < (n : Int)) = true := by simpa using hlt
        have hd3 : decide ((n : Int) ≤ 1024) = false := by simp; omega
        have E := Lib.hid (show cdB Xs = false by unfold cdB; have := HN.out; simp; omega)
        go_wp2_with fail
        go_ret
        exact boolb_mk (by rw [E.out]) HB.out
    · have hd : decide ((i : Int) < (n : Int)) = false := by simp; omega
      have E := Lib.hid (show cdB Xs = decide ((n : Int) ≤ 1024) by
        unfold cdB
        have h1 := HP.out
        rw [List.take_of_length_le (by have := HN.out; omega)] at h1
        rw [h1, HN.out]
        simp
        omega)
      go_wp2_with fail
      go_ret
      exact boolb_mk (by rw [E.out]) HB.out
end Go.Proofs.YtbkikibdnpffpaaGreatDoor
