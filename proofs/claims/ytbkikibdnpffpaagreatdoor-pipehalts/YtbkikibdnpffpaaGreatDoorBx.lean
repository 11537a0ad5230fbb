/-
  Bundles, whatever they hold: the small contracts at four instructions; the page's Bundle. Conditions: names are no longer than a string may be; for the program's, the tables lie in the world.
-/
import Derived.Test.YtbkikibdnpffpaaGreatDoorMay
import Derived.Test.YtbkikibdnpffpaaGreatDoorCk
import Derived.Deep.LoopGhost
namespace Go.Proofs.YtbkikibdnpffpaaGreatDoor
open Go.RowKit

def iB (x : In6) : Bool := decide (0 ≤ x.o) && decide (x.o < 34) && insB x.o.toNat x.d x.a x.b x.m x.s
theorem ins_raw (x : In6) (b : Bool) (w : World) (hs : x.s.size ≤ maxLen) (hb : iB x = b) : Calls Tryz.prog 75 #[.agg #[.int .i64 x.o, .int .i64 x.d, .int .i64 x.a, .int .i64 x.b, .int .i64 x.m, .string x.s]] w (BoolBelow b w) := by
  subst hb
  unfold iB
  by_cases h1 : 0 ≤ x.o ∧ x.o < 34
  · obtain ⟨n, hn⟩ : ∃ n : Nat, x.o = n := ⟨x.o.toNat, by omega⟩
    rw [hn]
    have := ins_any n x.d x.a x.b x.m x.s w (by omega) hs
    simpa [show (n : Int) < 34 by omega] using this
  · have h2 : (decide (0 ≤ x.o) && decide (x.o < 34)) = false := by simp; omega
    rw [h2]
    exact ins_no _ _ _ _ _ _ _ (by omega)
theorem chk_raw (x : In6) (b : Bool) (w : World) (T : Tab w) (hs : x.s.size ≤ maxLen) (hb : iB x = b) : Calls Tryz.prog 72 #[.agg #[.int .i64 x.o, .int .i64 x.d, .int .i64 x.a, .int .i64 x.b, .int .i64 x.m, .string x.s]] w (IntBelow (cond b 0 1) w) := by
  subst hb
  unfold iB
  by_cases h1 : 0 ≤ x.o ∧ x.o < 34
  · obtain ⟨n, hn⟩ : ∃ n : Nat, x.o = n := ⟨x.o.toNat, by omega⟩
    rw [hn]
    have := check_any n x.d x.a x.b x.m x.s w (by omega) T hs
    rw [chk_ins _ _ _ _ _ _ (by omega)] at this
    have e : (decide ((0 : Int) ≤ n) && decide ((n : Int) < 34)) = true := by simp; omega
    rw [e, Bool.true_and, show (n : Int).toNat = n by omega]
    cases hz : insB n x.d x.a x.b x.m x.s
    · simpa [hz] using this
    · simpa [hz] using this
  · have h2 : (decide (0 ≤ x.o) && decide (x.o < 34)) = false := by simp; omega
    rw [h2]
    exact check_no _ _ _ _ _ _ _ (by omega)
def gd (x : In6) : Bool := iB x
def okX (x : In6) (k : Nat) : Bool := gd x && mayB x.o.toNat k
def plX (x : In6) : Bool := decide (x.s.size = 0)
def okA (X : Nat → In6) : Bool := okX (X 0) 0 && okX (X 1) 1 && okX (X 2) 2 && okX (X 3) 3
def plA (X : Nat → In6) : Bool := plX (X 0) && plX (X 1) && plX (X 2) && plX (X 3)
/-- Names are no longer than a string may be. -/
def Szs (X : Nat → In6) : Prop := ∀ k, k < 4 → (X k).s.size ≤ maxLen
theorem upto {p : Nat → Prop} {i : Nat} (h : ∀ k, k < i → p k) (hi : p i) : ∀ k, k < i + 1 → p k := fun k hk => by
  rcases Nat.lt_or_ge k i with h1 | h1
  · exact h k h1
  · obtain rfl : k = i := by omega
    exact hi
theorem okA_all {X : Nat → In6} (h : ∀ k, k < 4 → okX (X k) k = true) : okA X = true := by
  unfold okA
  rw [h 0 (by omega), h 1 (by omega), h 2 (by omega), h 3 (by omega)]
  rfl
theorem okA_at {X : Nat → In6} (h : okA X = true) {k : Nat} (hk : k < 4) : okX (X k) k = true := by
  unfold okA at h
  simp only [Bool.and_eq_true] at h
  exact of4 (p := fun k => okX (X k) k = true) h.1.1.1 h.1.1.2 h.1.2 h.2 hk
theorem okA_no {X : Nat → In6} {k : Nat} (hk : k < 4) (h : okX (X k) k = false) : okA X = false := by
  cases h1 : okA X
  · rfl
  · rw [okA_at h1 hk] at h; cases h
theorem plA_all {X : Nat → In6} (h : ∀ k, k < 4 → plX (X k) = true) : plA X = true := by
  unfold plA
  rw [h 0 (by omega), h 1 (by omega), h 2 (by omega), h 3 (by omega)]
  rfl
theorem plA_at {X : Nat → In6} (h : plA X = true) {k : Nat} (hk : k < 4) : plX (X k) = true := by
  unfold plA at h
  simp only [Bool.and_eq_true] at h
  exact of4 (p := fun k => plX (X k) = true) h.1.1.1 h.1.1.2 h.1.2 h.2 hk
theorem plA_no {X : Nat → In6} {k : Nat} (hk : k < 4) (h : plX (X k) = false) : plA X = false := by
  cases h1 : plA X
  · rfl
  · rw [plA_at h1 hk] at h; cases h
theorem gd_parts {x : In6} (h : gd x = true) : x.o.toNat < 34 ∧ x.o = (x.o.toNat : Int) ∧ insB x.o.toNat x.d x.a x.b x.m x.s = true := by
  unfold gd iB at h
  simp only [Bool.and_eq_true, decide_eq_true_eq] at h
  exact ⟨by omega, by omega, h.2⟩
theorem okX_no {x : In6} {k : Nat} (h : gd x = false) : okX x k = false := by unfold okX; rw [h]; rfl
theorem okX_may {x : In6} {k : Nat} (h : mayB x.o.toNat k = false) : okX x k = false := by unfold okX; rw [h]; simp
theorem okX_yes {x : In6} {k : Nat} (h : gd x = true) (hm : mayB x.o.toNat k = true) : okX x k = true := by unfold okX; rw [h, hm]; rfl
theorem okX_gd {x : In6} {k : Nat} (h : okX x k = true) : gd x = true := by
  unfold okX at h
  simp only [Bool.and_eq_true] at h
  exact h.1
theorem check_x (x : In6) (b : Bool) (w : World) (H : Tab w) (hs : x.s.size ≤ maxLen) (h : gd x = b) : Calls Tryz.prog 72 #[.agg #[.int .i64 x.o, .int .i64 x.d, .int .i64 x.a, .int .i64 x.b, .int .i64 x.m, .string x.s]] w (IntBelow (cond b 0 1) w) := chk_raw x b w H hs h
theorem ins_x (x : In6) (b : Bool) (w : World) (hs : x.s.size ≤ maxLen) (h : gd x = b) : Calls Tryz.prog 75 #[.agg #[.int .i64 x.o, .int .i64 x.d, .int .i64 x.a, .int .i64 x.b, .int .i64 x.m, .string x.s]] w (BoolBelow b w) := ins_raw x b w hs h
theorem may_i (x : In6) (k : Int) (s : Nat) (b : Bool) (w : World) (hk : k = s) (hs : s < 6) (H : Tab w) (h : gd x = true) (hm : mayB x.o.toNat s = b) : Calls Tryz.prog 73 #[.int .i64 x.o, .int .i64 k] w (QBool b w) := by
  obtain ⟨h1, h2, _⟩ := gd_parts h
  subst hk
  rw [h2]
  exact may_at _ _ _ _ h1 hs H hm
theorem rmay_i (x : In6) (k : Int) (s : Nat) (b : Bool) (w : World) (hk : k = s) (hs : s < 6) (h : gd x = true) (hm : mayB x.o.toNat s = b) : Calls Tryz.prog 76 #[.int .i64 x.o, .int .i64 k] w (BoolBelow b w) := by
  obtain ⟨h1, h2, _⟩ := gd_parts h
  subst hk
  rw [h2]
  exact rmay_at _ _ _ _ h1 hs hm
theorem sz_empty {s : ByteArray} (h : decide (s.size = 0) = true) : s = ⟨#[]⟩ := empty_of (of_decide_eq_true h)
/-- May each be, and stand there? p: without names? -/
def pageB (X : Nat → In6) (p : Bool) : Bool := okA X && (!p || plA X)
theorem page_no {X : Nat → In6} {p : Bool} (h : okA X = false) : pageB X p = false := by unfold pageB; rw [h]; rfl
theorem page_sym {X : Nat → In6} (h : plA X = false) : pageB X true = false := by unfold pageB; rw [h]; simp
theorem page_yes {X : Nat → In6} (h : okA X = true) : pageB X false = true := by unfold pageB; rw [h]; simp
theorem page_all {X : Nat → In6} (h : okA X = true) (hp : plA X = true) : pageB X true = true := by unfold pageB; rw [h, hp]; rfl
def PB (X : Nat → In6) (p : Bool) (w : World) (i : Nat) (w' : World) : Prop := ((∀ k, k < i → okX (X k) k = true) ∧ (p = true → ∀ k, k < i → plX (X k) = true)) ∧ BL w' w.heap.size (bcs X) ∧ Below w.heap.size w w'
set_option maxHeartbeats 4000000 in
set_option maxRecDepth 100000 in
theorem rbundle_any (X : Nat → In6) (p : Bool) (w : World) (HS : Szs X) : Calls Tryz.prog 60 #[.agg (bcs X), .bool p] w (BoolBelow (pageB X p) w) := by
  have SZ := Lib.hid HS
  clear HS
  go_enter Tryz.func60, Tryz.ntmps60
  go_wp2_with fail
  go_loopg [5] 4 (fun gk o wr2 => ∃ i : Nat, i ≤ 4 ∧ gk = 4 - i ∧ o = .int .i64 i ∧ PB X p w i wr2)
  case atStart => exact ⟨0, by omega, rfl, rfl, ⟨fun k hk => absurd hk (by omega), fun _ k hk => absurd hk (by omega)⟩, heap_alloc_new _ _, below_new _ _⟩
  case round =>
    obtain ⟨i, hi, rfl, rfl, ⟨hO, hP⟩, hA, hb⟩ := hrel
    have O := Lib.hid hO
    have PL := Lib.hid hP
    have HA := Lib.hid hA
    have HB := Lib.hid hb
    clear hO hP hA hb
    by_cases hlt : i < 4
    · have hd : decide ((i : Int) < 4) = true := by simp; omega
      have i0 : (0 : Int) ≤ (i : Int) := by omega
      have i1 : (i : Int) < 4 := by omega
      obtain ⟨k0, k1, k2, k3, k4, k5⟩ := HA.out.ins i hlt
      have hsz := SZ.out i hlt
      have hg := HA.out.lt
      cases hgd : gd (X i)
      · have GD := Lib.hid hgd
        clear hgd
        as_aux_lemma =>
        go_wp2_with (go_at_call 75; refine (ins_x (X i) false _ hsz GD.out).mono ?_; rintro e w2 ⟨rfl, hb2⟩)
        go_ret
        exact boolb_mk (page_no (okA_no hlt (okX_no GD.out))).symm (HB.out.trans (hb2.mono HB.out.size))
      · have GD := Lib.hid hgd
        clear hgd
        cases hm : mayB (X i).o.toNat i
        · have HM := Lib.hid hm
          clear hm
          as_aux_lemma =>
          go_wp2_with fail
          refine (ins_x (X i) true _ hsz GD.out).mono ?_
          rintro e w2 ⟨rfl, hb2⟩
          obtain ⟨p0, p1, p2, p3, p4, p5⟩ := (HA.out.below hb2).ins i hlt
          have HB2 := Lib.hid (HB.out.trans (hb2.mono HB.out.size))
          have hg2 := (HA.out.below hb2).lt
          clear hb2 k0 k1 k2 k3 k4 k5 hg
          go_wp2_with (go_at_call 76; refine (rmay_i (X i) _ i false _ (by rfl) (by omega) GD.out HM.out).mono ?_; rintro e w3 ⟨rfl, hb3⟩)
          go_ret
          exact boolb_mk (page_no (okA_no hlt (okX_may HM.out))).symm (HB2.out.trans (hb3.mono HB2.out.size))
        · have HM := Lib.hid hm
          clear hm
          cases hp : p
          · subst hp
            as_aux_lemma =>
            go_wp2_with fail
            refine (ins_x (X i) true _ hsz GD.out).mono ?_
            rintro e w2 ⟨rfl, hb2⟩
            obtain ⟨p0, p1, p2, p3, p4, p5⟩ := (HA.out.below hb2).ins i hlt
            have HB2 := Lib.hid (HB.out.trans (hb2.mono HB.out.size))
            have HA2 := Lib.hid (HA.out.below hb2)
            have hg2 := HA2.out.lt
            clear hb2 k0 k1 k2 k3 k4 k5 hg
            go_wp2_with (go_at_call 76; refine (rmay_i (X i) _ i true _ (by rfl) (by omega) GD.out HM.out).mono ?_; rintro e w3 ⟨rfl, hb3⟩)
            go_roundg (4 - (i + 1))
            case measure => omega
            case rel => exact ⟨i + 1, by omega, rfl, by go_num, ⟨upto (p := fun k => okX (X k) k = true) O.out (okX_yes GD.out HM.out), fun h => by cases h⟩, HA2.out.below hb3, HB2.out.trans (hb3.mono HB2.out.size)⟩
          · subst hp
            cases hpl : plX (X i)
            · have hn1 := toList_ne (show 0 < (X i).s.size by have := of_decide_eq_false hpl; omega)
              have hn2 := isEmpty_ne (show 0 < (X i).s.size by have := of_decide_eq_false hpl; omega)
              have PN := Lib.hid hpl
              clear hpl
              as_aux_lemma =>
              go_wp2_with fail
              refine (ins_x (X i) true _ hsz GD.out).mono ?_
              rintro e w2 ⟨rfl, hb2⟩
              obtain ⟨p0, p1, p2, p3, p4, p5⟩ := (HA.out.below hb2).ins i hlt
              have HB2 := Lib.hid (HB.out.trans (hb2.mono HB.out.size))
              have HA2 := Lib.hid (HA.out.below hb2)
              have hg2 := HA2.out.lt
              clear hb2 k0 k1 k2 k3 k4 k5 hg
              go_wp2_with fail
              refine (rmay_i (X i) _ i true _ (by rfl) (by omega) GD.out HM.out).mono ?_
              rintro e w3 ⟨rfl, hb3⟩
              clear p0 p1 p2 p3 p4 p5
              obtain ⟨p0, p1, p2, p3, p4, p5⟩ := (HA2.out.below hb3).ins i hlt
              have hg3 := (HA2.out.below hb3).lt
              have HB3 := Lib.hid (HB2.out.trans (hb3.mono HB2.out.size))
              clear hb3
              go_wp2_with fail
              go_ret
              exact boolb_mk (page_sym (plA_no hlt PN.out)).symm HB3.out
            · have SE := Lib.hid (sz_empty hpl)
              have PN := Lib.hid hpl
              clear hpl
              as_aux_lemma =>
              go_wp2_with fail
              refine (ins_x (X i) true _ hsz GD.out).mono ?_
              rintro e w2 ⟨rfl, hb2⟩
              obtain ⟨p0, p1, p2, p3, p4, p5⟩ := (HA.out.below hb2).ins i hlt
              have HB2 := Lib.hid (HB.out.trans (hb2.mono HB.out.size))
              have HA2 := Lib.hid (HA.out.below hb2)
              have hg2 := HA2.out.lt
              clear hb2 k0 k1 k2 k3 k4 k5 hg
              go_wp2_with fail
              refine (rmay_i (X i) _ i true _ (by rfl) (by omega) GD.out HM.out).mono ?_
              rintro e w3 ⟨rfl, hb3⟩
              clear p0 p1 p2 p3 p4 p5
              obtain ⟨p0, p1, p2, p3, p4, p5⟩ := (HA2.out.below hb3).ins i hlt
              rw [SE.out] at p5
              have HA3 := Lib.hid (HA2.out.below hb3)
              have hg3 := HA3.out.lt
              have HB3 := Lib.hid (HB2.out.trans (hb3.mono HB2.out.size))
              clear hb3
              go_wp2_with fail
              go_roundg (4 - (i + 1))
              case measure => omega
              case rel => exact ⟨i + 1, by omega, rfl, by go_num, ⟨upto (p := fun k => okX (X k) k = true) O.out (okX_yes GD.out HM.out), fun _ => upto (p := fun k => plX (X k) = true) (PL.out (by first | exact trivial | exact rfl)) PN.out⟩, HA3.out, HB3.out⟩
    · have hd : decide ((i : Int) < 4) = false := by simp; omega
      obtain rfl : i = 4 := by omega
      go_wp2_with fail
      go_ret
      refine boolb_mk ?_ HB.out
      cases hp : p
      · exact (page_yes (okA_all O.out)).symm
      · exact (page_all (okA_all O.out) (plA_all (PL.out hp))).symm
end Go.Proofs.YtbkikibdnpffpaaGreatDoor
