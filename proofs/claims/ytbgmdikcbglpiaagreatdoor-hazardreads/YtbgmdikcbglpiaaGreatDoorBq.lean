/-
  Bundles, whatever they hold: the small contracts at four instructions; the page's Bundle. Conditions: names are no longer than a string may be; for the program's, the tables lie in the world.
  Contracts of the calls by which the program tells whether code may be: a bundle. Conditions: names are no longer than a string may be; the tables lie in the world.
  Contracts of the calls by which the program and the page tell whether code may be. Conditions: the row reads as a list of bundles, nil or not; the tables lie in the world.
-/
import Derived.Test.YtbgmdikcbglpiaaGreatDoorMay
import Derived.Test.YtbgmdikcbglpiaaGreatDoorCk
import Derived.Deep.LoopGhost
namespace Go.Proofs.YtbgmdikcbglpiaaGreatDoor
open Go.RowKit

section
def iB (x : In6) : Bool := decide (0 ≤ x.o) && decide (x.o < 34) && insB x.o.toNat x.d x.a x.b x.m x.s
theorem ins_raw (x : In6) (b : Bool) (w : World) (hs : x.s.size ≤ maxLen) (hb : iB x = b) : Calls Tryz.prog 89 #[.agg #[.int .i64 x.o, .int .i64 x.d, .int .i64 x.a, .int .i64 x.b, .int .i64 x.m, .string x.s]] w (BoolBelow b w) := by
  subst hb
  unfold iB
  by_cases h1 : 0 ≤ x.o ∧ x.o < 34
  · obtain ⟨n, hn⟩ : ∃ n : Nat, x.o = n := ⟨x.o.toNat, by omega⟩
    rw [hn]
    have := ins_any n x.d x.a x.b x.m x.s w (by omega) hs
    simpa [show (n : Int) < 34 by omega] using this
  · have h2 : (decide (0 ≤ x.o) && decide (x.o < 34)) = false := by simp; omega
    rw [h2]
    exact ins_no _ _ _ _ _ _ _ (by omega)
theorem chk_raw (x : In6) (b : Bool) (w : World) (T : Tab w) (hs : x.s.size ≤ maxLen) (hb : iB x = b) : Calls Tryz.prog 86 #[.agg #[.int .i64 x.o, .int .i64 x.d, .int .i64 x.a, .int .i64 x.b, .int .i64 x.m, .string x.s]] w (IntBelow (cond b 0 1) w) := by
  subst hb
  unfold iB
  by_cases h1 : 0 ≤ x.o ∧ x.o < 34
  · obtain ⟨n, hn⟩ : ∃ n : Nat, x.o = n := ⟨x.o.toNat, by omega⟩
    rw [hn]
    have := check_any n x.d x.a x.b x.m x.s w (by omega) T hs
    rw [chk_ins _ _ _ _ _ _ (by omega)] at this
    have e : (decide ((0 : Int) ≤ n) && decide ((n : Int) < 34)) = true := by simp; omega
    rw [e, Bool.true_and, show (n : Int).toNat = n by omega]
    cases hz : insB n x.d x.a x.b x.m x.s
    · simpa [hz] using this
    · simpa [hz] using this
  · have h2 : (decide (0 ≤ x.o) && decide (x.o < 34)) = false := by simp; omega
    rw [h2]
    exact check_no _ _ _ _ _ _ _ (by omega)
def gd (x : In6) : Bool := iB x
def okX (x : In6) (k : Nat) : Bool := gd x && mayB x.o.toNat k
def plX (x : In6) : Bool := decide (x.s.size = 0)
def okA (X : Nat → In6) : Bool := okX (X 0) 0 && okX (X 1) 1 && okX (X 2) 2 && okX (X 3) 3
def plA (X : Nat → In6) : Bool := plX (X 0) && plX (X 1) && plX (X 2) && plX (X 3)
/-- Names are no longer than a string may be. -/
def Szs (X : Nat → In6) : Prop := ∀ k, k < 4 → (X k).s.size ≤ maxLen
theorem upto {p : Nat → Prop} {i : Nat} (h : ∀ k, k < i → p k) (hi : p i) : ∀ k, k < i + 1 → p k := fun k hk => by
  rcases Nat.lt_or_ge k i with h1 | h1
  · exact h k h1
  · obtain rfl : k = i := by omega
    exact hi
theorem okA_all {X : Nat → In6} (h : ∀ k, k < 4 → okX (X k) k = true) : okA X = true := by
  unfold okA
  rw [h 0 (by omega), h 1 (by omega), h 2 (by omega), h 3 (by omega)]
  rfl
theorem okA_at {X : Nat → In6} (h : okA X = true) {k : Nat} (hk : k < 4) : okX (X k) k = true := by
  unfold okA at h
  simp only [Bool.and_eq_true] at h
  exact of4 (p := fun k => okX (X k) k = true) h.1.1.1 h.1.1.2 h.1.2 h.2 hk
theorem okA_no {X : Nat → In6} {k : Nat} (hk : k < 4) (h : okX (X k) k = false) : okA X = false := by
  cases h1 : okA X
  · rfl
  · rw [okA_at h1 hk] at h; cases h
theorem plA_all {X : Nat → In6} (h : ∀ k, k < 4 → plX (X k) = true) : plA X = true := by
  unfold plA
  rw [h 0 (by omega), h 1 (by omega), h 2 (by omega), h 3 (by omega)]
  rfl
theorem plA_at {X : Nat → In6} (h : plA X = true) {k : Nat} (hk : k < 4) : plX (X k) = true := by
  unfold plA at h
  simp only [Bool.and_eq_true] at h
  exact of4 (p := fun k => plX (X k) = true) h.1.1.1 h.1.1.2 h.1.2 h.2 hk
theorem plA_no {X : Nat → In6} {k : Nat} (hk : k < 4) (h : plX (X k) = false) : plA X = false := by
  cases h1 : plA X
  · rfl
  · rw [plA_at h1 hk] at h; cases h
theorem gd_parts {x : In6} (h : gd x = true) : x.o.toNat < 34 ∧ x.o = (x.o.toNat : Int) ∧ insB x.o.toNat x.d x.a x.b x.m x.s = true := by
  unfold gd iB at h
  simp only [Bool.and_eq_true, decide_eq_true_eq] at h
  exact ⟨by omega, by omega, h.2⟩
theorem okX_no {x : In6} {k : Nat} (h : gd x = false) : okX x k = false := by unfold okX; rw [h]; rfl
theorem okX_may {x : In6} {k : Nat} (h : mayB x.o.toNat k = false) : okX x k = false := by unfold okX; rw [h]; simp
theorem okX_yes {x : In6} {k : Nat} (h : gd x = true) (hm : mayB x.o.toNat k = true) : okX x k = true := by unfold okX; rw [h, hm]; rfl
theorem okX_gd {x : In6} {k : Nat} (h : okX x k = true) : gd x = true := by
  unfold okX at h
  simp only [Bool.and_eq_true] at h
  exact h.1
theorem check_x (x : In6) (b : Bool) (w : World) (H : Tab w) (hs : x.s.size ≤ maxLen) (h : gd x = b) : Calls Tryz.prog 86 #[.agg #[.int .i64 x.o, .int .i64 x.d, .int .i64 x.a, .int .i64 x.b, .int .i64 x.m, .string x.s]] w (IntBelow (cond b 0 1) w) := chk_raw x b w H hs h
theorem ins_x (x : In6) (b : Bool) (w : World) (hs : x.s.size ≤ maxLen) (h : gd x = b) : Calls Tryz.prog 89 #[.agg #[.int .i64 x.o, .int .i64 x.d, .int .i64 x.a, .int .i64 x.b, .int .i64 x.m, .string x.s]] w (BoolBelow b w) := ins_raw x b w hs h
theorem may_i (x : In6) (k : Int) (s : Nat) (b : Bool) (w : World) (hk : k = s) (hs : s < 6) (H : Tab w) (h : gd x = true) (hm : mayB x.o.toNat s = b) : Calls Tryz.prog 87 #[.int .i64 x.o, .int .i64 k] w (QBool b w) := by
  obtain ⟨h1, h2, _⟩ := gd_parts h
  subst hk
  rw [h2]
  exact may_at _ _ _ _ h1 hs H hm
theorem rmay_i (x : In6) (k : Int) (s : Nat) (b : Bool) (w : World) (hk : k = s) (hs : s < 6) (h : gd x = true) (hm : mayB x.o.toNat s = b) : Calls Tryz.prog 90 #[.int .i64 x.o, .int .i64 k] w (BoolBelow b w) := by
  obtain ⟨h1, h2, _⟩ := gd_parts h
  subst hk
  rw [h2]
  exact rmay_at _ _ _ _ h1 hs hm
theorem sz_empty {s : ByteArray} (h : decide (s.size = 0) = true) : s = ⟨#[]⟩ := empty_of (of_decide_eq_true h)
/-- May each be, and stand there? p: without names? -/
def pageB (X : Nat → In6) (p : Bool) : Bool := okA X && (!p || plA X)
theorem page_no {X : Nat → In6} {p : Bool} (h : okA X = false) : pageB X p = false := by unfold pageB; rw [h]; rfl
theorem page_sym {X : Nat → In6} (h : plA X = false) : pageB X true = false := by unfold pageB; rw [h]; simp
theorem page_yes {X : Nat → In6} (h : okA X = true) : pageB X false = true := by unfold pageB; rw [h]; simp
theorem page_all {X : Nat → In6} (h : okA X = true) (hp : plA X = true) : pageB X true = true := by unfold pageB; rw [h, hp]; rfl
def PB (X : Nat → In6) (p : Bool) (w : World) (i : Nat) (w' : World) : Prop := ((∀ k, k < i → okX (X k) k = true) ∧ (p = true → ∀ k, k < i → plX (X k) = true)) ∧ BL w' w.heap.size (bcs X) ∧ Below w.heap.size w w'
set_option maxHeartbeats 4000000 in
set_option maxRecDepth 100000 in
theorem rbundle_any (X : Nat → In6) (p : Bool) (w : World) (HS : Szs X) : Calls Tryz.prog 74 #[.agg (bcs X), .bool p] w (BoolBelow (pageB X p) w) := by
  have SZ := Lib.hid HS
  clear HS
  go_enter Tryz.func74, Tryz.ntmps74
  go_wp2_with fail
  go_loopg [5] 4 (fun gk o wr2 => ∃ i : Nat, i ≤ 4 ∧ gk = 4 - i ∧ o = .int .i64 i ∧ PB X p w i wr2)
  case atStart => exact ⟨0, by omega, rfl, rfl, ⟨fun k hk => absurd hk (by omega), fun _ k hk => absurd hk (by omega)⟩, heap_alloc_new _ _, below_new _ _⟩
  case round =>
    obtain ⟨i, hi, rfl, rfl, ⟨hO, hP⟩, hA, hb⟩ := hrel
    have O := Lib.hid hO
    have PL := Lib.hid hP
    have HA := Lib.hid hA
    have HB := Lib.hid hb
    clear hO hP hA hb
    by_cases hlt : i < 4
    · have hd : decide ((i : Int) < 4) = true := by simp; omega
      have i0 : (0 : Int) ≤ (i : Int) := by omega
      have i1 : (i : Int) < 4 := by omega
      obtain ⟨k0, k1, k2, k3, k4, k5⟩ := HA.out.ins i hlt
      have hsz := SZ.out i hlt
      have hg := HA.out.lt
      cases hgd : gd (X i)
      · have GD := Lib.hid hgd
        clear hgd
        as_aux_lemma =>
        go_wp2_with (go_at_call 89; refine (ins_x (X i) false _ hsz GD.out).mono ?_; rintro e w2 ⟨rfl, hb2⟩)
        go_ret
        exact boolb_mk (page_no (okA_no hlt (okX_no GD.out))).symm (HB.out.trans (hb2.mono HB.out.size))
      · have GD := Lib.hid hgd
        clear hgd
        cases hm : mayB (X i).o.toNat i
        · have HM := Lib.hid hm
          clear hm
          as_aux_lemma =>
          go_wp2_with fail
          refine (ins_x (X i) true _ hsz GD.out).mono ?_
          rintro e w2 ⟨rfl, hb2⟩
          obtain ⟨p0, p1, p2, p3, p4, p5⟩ := (HA.out.below hb2).ins i hlt
          have HB2 := Lib.hid (HB.out.trans (hb2.mono HB.out.size))
          have hg2 := (HA.out.below hb2).lt
          clear hb2 k0 k1 k2 k3 k4 k5 hg
          go_wp2_with (go_at_call 90; refine (rmay_i (X i) _ i false _ (by rfl) (by omega) GD.out HM.out).mono ?_; rintro e w3 ⟨rfl, hb3⟩)
          go_ret
          exact boolb_mk (page_no (okA_no hlt (okX_may HM.out))).symm (HB2.out.trans (hb3.mono HB2.out.size))
        · have HM := Lib.hid hm
          clear hm
          cases hp : p
          · subst hp
            as_aux_lemma =>
            go_wp2_with fail
            refine (ins_x (X i) true _ hsz GD.out).mono ?_
            rintro e w2 ⟨rfl, hb2⟩
            obtain ⟨p0, p1, p2, p3, p4, p5⟩ := (HA.out.below hb2).ins i hlt
            have HB2 := Lib.hid (HB.out.trans (hb2.mono HB.out.size))
            have HA2 := Lib.hid (HA.out.below hb2)
            have hg2 := HA2.out.lt
            clear hb2 k0 k1 k2 k3 k4 k5 hg
            go_wp2_with (go_at_call 90; refine (rmay_i (X i) _ i true _ (by rfl) (by omega) GD.out HM.out).mono ?_; rintro e w3 ⟨rfl, hb3⟩)
            go_roundg (4 - (i + 1))
            case measure => omega
            case rel => exact ⟨i + 1, by omega, rfl, by go_num, ⟨upto (p := fun k => okX (X k) k = true) O.out (okX_yes GD.out HM.out), fun h => by cases h⟩, HA2.out.below hb3, HB2.out.trans (hb3.mono HB2.out.size)⟩
          · subst hp
            cases hpl : plX (X i)
            · have hn1 := toList_ne (show 0 < (X i).s.size by have := of_decide_eq_false hpl; omega)
              have hn2 := isEmpty_ne (show 0 < (X i).s.size by have := of_decide_eq_false hpl; omega)
              have PN := Lib.hid hpl
              clear hpl
              as_aux_lemma =>
              go_wp2_with fail
              refine (ins_x (X i) true _ hsz GD.out).mono ?_
              rintro e w2 ⟨rfl, hb2⟩
              obtain ⟨p0, p1, p2, p3, p4, p5⟩ := (HA.out.below hb2).ins i hlt
              have HB2 := Lib.hid (HB.out.trans (hb2.mono HB.out.size))
              have HA2 := Lib.hid (HA.out.below hb2)
              have hg2 := HA2.out.lt
              clear hb2 k0 k1 k2 k3 k4 k5 hg
              go_wp2_with fail
              refine (rmay_i (X i) _ i true _ (by rfl) (by omega) GD.out HM.out).mono ?_
              rintro e w3 ⟨rfl, hb3⟩
              clear p0 p1 p2 p3 p4 p5
              obtain ⟨p0, p1, p2, p3, p4, p5⟩ := (HA2.out.below hb3).ins i hlt
              have hg3 := (HA2.out.below hb3).lt
              have HB3 := Lib.hid (HB2.out.trans (hb3.mono HB2.out.size))
              clear hb3
              go_wp2_with fail
              go_ret
              exact boolb_mk (page_sym (plA_no hlt PN.out)).symm HB3.out
            · have SE := Lib.hid (sz_empty hpl)
              have PN := Lib.hid hpl
              clear hpl
              as_aux_lemma =>
              go_wp2_with fail
              refine (ins_x (X i) true _ hsz GD.out).mono ?_
              rintro e w2 ⟨rfl, hb2⟩
              obtain ⟨p0, p1, p2, p3, p4, p5⟩ := (HA.out.below hb2).ins i hlt
              have HB2 := Lib.hid (HB.out.trans (hb2.mono HB.out.size))
              have HA2 := Lib.hid (HA.out.below hb2)
              have hg2 := HA2.out.lt
              clear hb2 k0 k1 k2 k3 k4 k5 hg
              go_wp2_with fail
              refine (rmay_i (X i) _ i true _ (by rfl) (by omega) GD.out HM.out).mono ?_
              rintro e w3 ⟨rfl, hb3⟩
              clear p0 p1 p2 p3 p4 p5
              obtain ⟨p0, p1, p2, p3, p4, p5⟩ := (HA2.out.below hb3).ins i hlt
              rw [SE.out] at p5
              have HA3 := Lib.hid (HA2.out.below hb3)
              have hg3 := HA3.out.lt
              have HB3 := Lib.hid (HB2.out.trans (hb3.mono HB2.out.size))
              clear hb3
              go_wp2_with fail
              go_roundg (4 - (i + 1))
              case measure => omega
              case rel => exact ⟨i + 1, by omega, rfl, by go_num, ⟨upto (p := fun k => okX (X k) k = true) O.out (okX_yes GD.out HM.out), fun _ => upto (p := fun k => plX (X k) = true) (PL.out (by first | exact trivial | exact rfl)) PN.out⟩, HA3.out, HB3.out⟩
    · have hd : decide ((i : Int) < 4) = false := by simp; omega
      obtain rfl : i = 4 := by omega
      go_wp2_with fail
      go_ret
      refine boolb_mk ?_ HB.out
      cases hp : p
      · exact (page_yes (okA_all O.out)).symm
      · exact (page_all (okA_all O.out) (plA_all (PL.out hp))).symm
end
section
theorem pageB_sym {X : Nat → In6} {i : Nat} (hi : i < 4) (h : plX (X i) = false) : pageB X true = false := page_sym (plA_no hi h)
theorem pageB_ok {X : Nat → In6} {i : Nat} (hi : i < 4) (h : okX (X i) i = false) : pageB X true = false := page_no (okA_no hi h)
set_option maxHeartbeats 4000000 in
set_option maxRecDepth 100000 in
theorem isBundle_any (X : Nat → In6) (w : World) (T : Tab w) (HS : Szs X) : Calls Tryz.prog 66 #[.agg (bcs X)] w (BoolBelow (pageB X true) w) := by
  have SZ := Lib.hid HS
  have TT := Lib.hid T
  have tb := T.big
  clear HS T
  go_enter Tryz.func66, Tryz.ntmps66
  go_wp2_with (((with_reducible refine wpList_load_bl (op := ⟨_, .load 58 _, _, _, _, none⟩) rfl _ rfl w.heap.size (bcs X) ?hx ?sb (bcs_size X) ?_); (case hx => rfl)))
  case sb => exact heap_alloc_new _ _
  go_wp2_with fail
  go_loopg [6] 4 (fun gk o wr2 => ∃ i : Nat, i ≤ 4 ∧ gk = 4 - i ∧ o = .int .i64 i ∧ Below w.heap.size w wr2 ∧ (∀ k, k < i → okX (X k) k = true) ∧ (∀ k, k < i → plX (X k) = true))
  case atStart => exact ⟨0, by omega, rfl, rfl, below_new _ _, fun k hk => absurd hk (by omega), fun k hk => absurd hk (by omega)⟩
  case round =>
    obtain ⟨i, hi, rfl, rfl, hb, hO, hP⟩ := hrel
    have O := Lib.hid hO
    have PL := Lib.hid hP
    have HB := Lib.hid hb
    have hs0 := hb.size
    clear hO hP hb
    by_cases hlt : i < 4
    · have hd : decide ((i : Int) < 4) = true := by simp; omega
      have hix := index_x X i hlt
      have hsz := Lib.hid (SZ.out i hlt)
      cases hpl : plX (X i)
      · have hn1 := toList_ne (show 0 < (X i).s.size by have := of_decide_eq_false hpl; omega)
        have hn2 := isEmpty_ne (show 0 < (X i).s.size by have := of_decide_eq_false hpl; omega)
        have PN := Lib.hid (pageB_sym hlt hpl)
        clear hpl
        as_aux_lemma =>
        go_wp2_with fail
        go_ret
        exact boolb_mk PN.out.symm (HB.out.alloc hs0 _)
      have SE := Lib.hid (sz_empty hpl)
      have PN := Lib.hid hpl
      clear hpl
      have UPL := Lib.hid (upto (p := fun k => plX (X k) = true) PL.out PN.out)
      have UOK := Lib.hid (fun (h : okX (X i) i = true) => upto (p := fun k => okX (X k) k = true) O.out h)
      have NOK := Lib.hid (fun (h : okX (X i) i = false) => pageB_ok (X := X) hlt h)
      have CK := Lib.hid (fun (b : Bool) (h : gd (X i) = b) W TW => check_x (X i) b W TW hsz.out h)
      have MY := Lib.hid (fun (b : Bool) W TW (h : gd (X i) = true) (hm : mayB (X i).o.toNat i = b) => may_i (X i) i i b W rfl (by omega) TW h hm)
      have GDN := Lib.hid (fun (h : gd (X i) = false) => okX_no (k := i) h)
      have MYN := Lib.hid (fun (h : mayB (X i).o.toNat i = false) => okX_may h)
      have YES := Lib.hid (fun (h : gd (X i) = true) (hm : mayB (X i).o.toNat i = true) => okX_yes h hm)
      have TW := Lib.hid (tab_below TT.out HB.out (by omega))
      clear hsz
      cases hgd : gd (X i)
      · have C := Lib.hid (CK.out false hgd)
        have PB := Lib.hid (NOK.out (GDN.out hgd))
        clear hgd
        generalize X i = x at *
        obtain ⟨xo, xd, xa, xb, xm, s⟩ := x
        obtain rfl := SE.out
        as_aux_lemma =>
        go_wp2_with (go_at_call 86; refine (C.out _ (TW.out.alloc _)).mono ?_; rintro e w' ⟨rfl, hbw⟩)
        go_ret
        exact boolb_mk PB.out.symm ((HB.out.alloc hs0 _).trans (hbw.mono (by simp; omega)))
      have C := Lib.hid (CK.out true hgd)
      cases hm : mayB (X i).o.toNat i
      · have MM := Lib.hid (fun W TW => MY.out false W TW hgd hm)
        have PB := Lib.hid (NOK.out (MYN.out hm))
        clear hgd hm
        generalize X i = x at *
        obtain ⟨xo, xd, xa, xb, xm, s⟩ := x
        obtain rfl := SE.out
        as_aux_lemma =>
        go_wp2_with fail
        refine (C.out _ (TW.out.alloc _)).mono ?_
        rintro e w2 ⟨rfl, hb2⟩
        obtain ⟨q, hz, hB⟩ := box_cells hb2
        have k0 := q 0
        have k1 := q 1
        have k2 := q 2
        have k3 := q 3
        have k4 := q 4
        have k5 := q 5
        have HB2 := Lib.hid (HB.out.trans (hB.mono hs0))
        have T2 := Lib.hid (tab_below TT.out HB2.out (by omega))
        clear q hb2 hB
        go_wp2_with (go_at_call 87; refine (MM.out _ T2.out).mono ?_; rintro e w3 ⟨rfl, kk, rfl⟩)
        go_ret
        exact boolb_mk PB.out.symm (below_drewN HB2.out _)
      · have MM := Lib.hid (fun W TW => MY.out true W TW hgd hm)
        have OK := Lib.hid (UOK.out (YES.out hgd hm))
        clear hgd hm
        generalize X i = x at *
        obtain ⟨xo, xd, xa, xb, xm, s⟩ := x
        obtain rfl := SE.out
        as_aux_lemma =>
        go_wp2_with fail
        refine (C.out _ (TW.out.alloc _)).mono ?_
        rintro e w2 ⟨rfl, hb2⟩
        obtain ⟨q, hz, hB⟩ := box_cells hb2
        have k0 := q 0
        have k1 := q 1
        have k2 := q 2
        have k3 := q 3
        have k4 := q 4
        have k5 := q 5
        have HB2 := Lib.hid (HB.out.trans (hB.mono hs0))
        have T2 := Lib.hid (tab_below TT.out HB2.out (by omega))
        clear q hb2 hB
        go_wp2_with (go_at_call 87; refine (MM.out _ T2.out).mono ?_; rintro e w3 ⟨rfl, kk, rfl⟩)
        go_roundg (4 - (i + 1))
        case measure => omega
        case rel => exact ⟨i + 1, by omega, rfl, by go_num, below_drewN HB2.out _, OK.out, UPL.out⟩
    · have hd : decide ((i : Int) < 4) = false := by simp; omega
      obtain rfl : i = 4 := by omega
      go_wp2_with fail
      go_ret
      exact boolb_mk (page_all (okA_all O.out) (plA_all PL.out)).symm HB.out
theorem isBundle_not (X : Nat → In6) (w : World) (T : Tab w) (HS : Szs X) : Calls Tryz.prog 65 #[.agg (bcs X)] w (BoolBelow (!pageB X true) w) := by
  have C := Lib.hid (fun W (TW : Tab W) => isBundle_any X W TW HS)
  have TT := Lib.hid T
  clear T HS
  go_enter Tryz.func65, Tryz.ntmps65
  go_wp2_with (first | (go_at_call 66; refine (C.out _ (TT.out.alloc _)).mono ?_; rintro e w' ⟨rfl, hb⟩) | ((with_reducible refine wpList_load_bl (op := ⟨_, .load 58 _, _, _, _, none⟩) rfl _ rfl w.heap.size (bcs X) ?hx ?sb (bcs_size X) ?_); (case hx => rfl); (case sb => exact heap_alloc_new _ _)))
  go_ret
  exact boolb_mk rfl ((below_new _ _).trans (hb.mono (by simp)))
end
section
/-- A slice that reads as a list of bundles, nil or not. -/
def RdB (w : World) (v : Value) (Xs : List (Nat → In6)) : Prop :=
  ∃ A c, v = .slice A Xs.length c ∧ (0 < Xs.length → ∃ ad : Addr, A = some ad ∧ ad.block < w.heap.size ∧ ∀ i X, Xs[i]? = some X → BAt w (ad.add (i * 24)) X)
theorem RdB.keep {w w' : World} {v : Value} {Xs : List (Nat → In6)} (h : RdB w v Xs) (hb : Below w.heap.size w w') : RdB w' v Xs := by
  obtain ⟨A, c, hv, hr⟩ := h
  refine ⟨A, c, hv, fun h0 => ?_⟩
  obtain ⟨ad, ha, hl, hx⟩ := hr h0
  exact ⟨ad, ha, by have := hb.size; omega, fun i X hi => (hx i X hi).keep hb (by rw [block_add]; exact hl)⟩
def SzsB (Xs : List (Nat → In6)) : Prop := ∀ X ∈ Xs, Szs X
def cP (X : Nat → In6) : Bool := pageB X true
/-- May the code be? -/
def cdB (Xs : List (Nat → In6)) : Bool := decide (Xs.length ≤ 1024) && Xs.all cP
theorem allc_take {Xs : List (Nat → In6)} {i : Nat} (hi : i < Xs.length) {b : Bool} (hb : cP Xs[i] = b) (h : (Xs.take i).all cP = true) : (Xs.take (i + 1)).all cP = b := by
  rw [List.take_succ_eq_append_getElem hi, List.all_append, h]
  simp [hb]
theorem allc_bad {Xs : List (Nat → In6)} {i : Nat} (h : (Xs.take i).all cP = false) : Xs.all cP = false := by
  cases ha : Xs.all cP
  · rfl
  · rw [List.all_eq_true.2 fun x hx => List.all_eq_true.1 ha x (List.mem_of_mem_take hx)] at h; cases h
theorem cdB_bad {Xs : List (Nat → In6)} (h : Xs.all cP = false) : cdB Xs = false := by unfold cdB; rw [h]; simp
theorem cdB_ok {Xs : List (Nat → In6)} (hn : Xs.length ≤ 1024) : cdB Xs = Xs.all cP := by unfold cdB; simp [hn]
def SignB (b : Bool) (w : World) (e : Ending) (w' : World) : Prop := ∃ z : Int, decide (0 ≤ z) = b ∧ e = .returned (.int .i64 z) ∧ Below w.heap.size w w'
set_option maxRecDepth 100000 in
set_option maxHeartbeats 2000000 in
theorem indexB_any (Xs : List (Nat → In6)) (v : Value) (w : World) (h : RdB w v Xs) (hs : SzsB Xs) (T : Tab w) (hl : Xs.length ≤ 1024) : Calls Tryz.prog 85 #[v, .func (.func 65) #[] #[]] w (SignB (!Xs.all cP) w) := by
  obtain ⟨A, c, rfl, hr⟩ := h
  have R := Lib.hid hr
  have S := Lib.hid hs
  have TT := Lib.hid T
  have tb := T.big
  generalize hn : Xs.length = n at *
  have HN := Lib.hid hn
  clear hr hn hs T
  go_enter Tryz.func85, Tryz.ntmps85
  go_wp2_with fail
  go_loopg [8] n (fun gk o wr2 => ∃ i : Nat, i ≤ n ∧ gk = n - i ∧ o = .int .i64 i ∧ Below w.heap.size w wr2 ∧ (Xs.take i).all cP = true)
  case atStart => exact ⟨0, by omega, rfl, rfl, Below.refl _ _, rfl⟩
  case round =>
    obtain ⟨i, hi, rfl, rfl, hb, hp⟩ := hrel
    have HP := Lib.hid hp
    have HB := Lib.hid hb
    have hs0 := hb.size
    clear hp hb
    by_cases hlt : i < n
    · have hd : decide ((i : Int) < (n : Int)) = true := by simpa using hlt
      have i0 : (0 : Int) ≤ (i : Int) := by omega
      have i1 : (i : Int) < (n : Int) := by omega
      obtain ⟨ad, rfl, hg, q⟩ := R.out (by omega)
      have hil : i < Xs.length := by have := HN.out; omega
      have XW := Lib.hid ((q i _ (List.getElem?_eq_getElem hil)).keep HB.out (by rw [block_add]; exact hg))
      have AT := Lib.hid (fun b (hb : cP Xs[i] = b) => allc_take hil hb HP.out)
      have TW := Lib.hid (tab_below TT.out HB.out (by omega))
      have SZ := Lib.hid (S.out Xs[i] (List.getElem_mem hil))
      generalize Xs[i] = X at XW AT SZ
      have C := Lib.hid (show ∀ b, cP X = b → Calls Tryz.prog 65 #[.agg (bcs X)] wr (BoolBelow (!b) wr) from fun b hb => by subst hb; exact isBundle_not X wr TW.out SZ.out)
      clear q hg hil
      cases hc : cP X
      · have CC := Lib.hid (C.out false hc)
        have PB := Lib.hid (AT.out false hc)
        clear hc
        go_wp2_with (first | ((with_reducible refine wpList_load_at (op := ⟨_, .load 58 _, _, _, _, none⟩) rfl _ rfl (ad.add (i * 24)) X ?hx2 XW.out ?_); (case hx2 => rfl)) | (go_at_call 65; refine CC.out.mono ?_; rintro e w' ⟨rfl, hbw⟩))
        go_ret
        exact ⟨i, by rw [allc_bad PB.out]; simp, rfl, HB.out.trans (hbw.mono hs0)⟩
      · have CC := Lib.hid (C.out true hc)
        have PB := Lib.hid (AT.out true hc)
        clear hc
        go_wp2_with (first | ((with_reducible refine wpList_load_at (op := ⟨_, .load 58 _, _, _, _, none⟩) rfl _ rfl (ad.add (i * 24)) X ?hx2 XW.out ?_); (case hx2 => rfl)) | (go_at_call 65; refine CC.out.mono ?_; rintro e w' ⟨rfl, hbw⟩))
        go_roundg (n - (i + 1))
        case measure => omega
        case rel => exact ⟨i + 1, by omega, rfl, by go_num, HB.out.trans (hbw.mono hs0), PB.out⟩
    · have hd : decide ((i : Int) < (n : Int)) = false := by simp; omega
      go_wp2_with fail
      go_ret
      have h1 := HP.out
      rw [List.take_of_length_le (by have := HN.out; omega)] at h1
      exact ⟨-1, by rw [h1]; rfl, rfl, HB.out⟩
theorem containsB_any (Xs : List (Nat → In6)) (v : Value) (w : World) (h : RdB w v Xs) (hs : SzsB Xs) (T : Tab w) (hl : Xs.length ≤ 1024) : Calls Tryz.prog 64 #[v, .func (.func 65) #[] #[]] w (BoolBelow (!Xs.all cP) w) := by
  have C := Lib.hid (indexB_any Xs v w h hs T hl)
  clear h hs T
  go_enter Tryz.func64, Tryz.ntmps64
  go_wp2_with (go_at_call 85; refine C.out.mono ?_; rintro e w' ⟨z, hz, rfl, hb⟩)
  go_ret
  first | exact boolb_mk hz hb | exact boolb_mk rfl hb | (rw [hz]; exact boolb_mk rfl hb)
theorem isCode_any (Xs : List (Nat → In6)) (v : Value) (w : World) (h : RdB w v Xs) (hs : SzsB Xs) (T : Tab w) : Calls Tryz.prog 47 #[v] w (BoolBelow (cdB Xs) w) := by
  by_cases hl : Xs.length ≤ 1024
  · have C := Lib.hid (containsB_any Xs v w h hs T hl)
    have E := Lib.hid (cdB_ok hl)
    obtain ⟨A, c, rfl, -⟩ := h
    have t0 : decide ((Xs.length : Int) ≤ 1024) = true := by simp; omega
    generalize Xs.length = n at *
    generalize hz : Xs.all cP = z at *
    clear hs T hz
    go_enter Tryz.func47, Tryz.ntmps47
    go_wp2_with (go_at_call 64; refine C.out.mono ?_; rintro e w' ⟨rfl, hb⟩)
    go_ret
    first | exact boolb_mk (by rw [E.out]) hb | exact boolb_mk (by rw [E.out]; simp) hb
  · have t0 : decide ((Xs.length : Int) ≤ 1024) = false := by simp; omega
    have E := Lib.hid (show cdB Xs = false by unfold cdB; simp [hl])
    obtain ⟨A, c, rfl, -⟩ := h
    generalize Xs.length = n at *
    clear hs T
    go_enter Tryz.func47, Tryz.ntmps47
    go_wp2_with fail
    go_ret
    exact boolb_mk E.out.symm (Below.refl _ _)
set_option maxRecDepth 100000 in
set_option maxHeartbeats 2000000 in
theorem code_pg (Xs : List (Nat → In6)) (v : Value) (w : World) (h : RdB w v Xs) (hs : SzsB Xs) : Calls Tryz.prog 50 #[v] w (BoolBelow (cdB Xs) w) := by
  obtain ⟨A, c, rfl, hr⟩ := h
  have R := Lib.hid hr
  have S := Lib.hid hs
  generalize hn : Xs.length = n at *
  have HN := Lib.hid hn
  clear hr hs hn
  have nn0 : (0 : Int) ≤ (n : Int) := by omega
  go_enter Tryz.func50, Tryz.ntmps50
  go_wp2_with fail
  go_loopg [3] n (fun gk o wr2 => ∃ i : Nat, i ≤ n ∧ i ≤ 1025 ∧ gk = n - i ∧ o = .int .i64 i ∧ Below w.heap.size w wr2 ∧ (Xs.take i).all cP = true)
  case atStart => exact ⟨0, by omega, by omega, rfl, rfl, Below.refl _ _, rfl⟩
  case round =>
    obtain ⟨i, hi, hi2, rfl, rfl, hb, hp⟩ := hrel
    have HP := Lib.hid hp
    have HB := Lib.hid hb
    have hs0 := hb.size
    clear hp hb
    by_cases hlt : i < n
    · by_cases hle : i ≤ 1024
      · have hd2 : decide ((i : Int) ≤ 1024) = true := by simp; omega
        have hd : decide ((i : Int) < (n : Int)) = true := by simpa using hlt
        have i0 : (0 : Int) ≤ (i : Int) := by omega
        have i1 : (i : Int) < (n : Int) := by omega
        obtain ⟨ad, rfl, hg, q⟩ := R.out (by omega)
        have hil : i < Xs.length := by have := HN.out; omega
        have XW := Lib.hid ((q i _ (List.getElem?_eq_getElem hil)).keep HB.out (by rw [block_add]; exact hg))
        have AT := Lib.hid (fun b (hb : cP Xs[i] = b) => allc_take hil hb HP.out)
        have SZ := Lib.hid (S.out Xs[i] (List.getElem_mem hil))
        generalize Xs[i] = X at XW AT SZ
        have C := Lib.hid (show ∀ b, cP X = b → Calls Tryz.prog 74 #[.agg (bcs X), .bool true] wr (BoolBelow b wr) from fun b hb => by subst hb; exact rbundle_any X true wr SZ.out)
        clear q hg hil
        cases hc : cP X
        · have CC := Lib.hid (C.out false hc)
          have PB := Lib.hid (AT.out false hc)
          clear hc
          go_wp2_with (first | ((with_reducible refine wpList_load_at (op := ⟨_, .load 58 _, _, _, _, none⟩) rfl _ rfl (ad.add (i * 24)) X ?hx2 XW.out ?_); (case hx2 => rfl)) | (go_at_call 74; refine CC.out.mono ?_; rintro e w' ⟨rfl, hbw⟩))
          go_ret
          exact boolb_mk (by rw [cdB_bad (allc_bad PB.out)]) (HB.out.trans (hbw.mono hs0))
        · have CC := Lib.hid (C.out true hc)
          have PB := Lib.hid (AT.out true hc)
          clear hc
          go_wp2_with (first | ((with_reducible refine wpList_load_at (op := ⟨_, .load 58 _, _, _, _, none⟩) rfl _ rfl (ad.add (i * 24)) X ?hx2 XW.out ?_); (case hx2 => rfl)) | (go_at_call 74; refine CC.out.mono ?_; rintro e w' ⟨rfl, hbw⟩))
          go_roundg (n - (i + 1))
          case measure => omega
          case rel => exact ⟨i + 1, by omega, by omega, rfl, by go_num, HB.out.trans (hbw.mono hs0), PB.out⟩
      · have hd2 : decide ((i : Int) ≤ 1024) = false := by simp; omega
        have hd : decide ((i : Int) < (n : Int)) = true := by simpa using hlt
        have hd3 : decide ((n : Int) ≤ 1024) = false := by simp; omega
        have E := Lib.hid (show cdB Xs = false by unfold cdB; have := HN.out; simp; omega)
        go_wp2_with fail
        go_ret
        exact boolb_mk (by rw [E.out]) HB.out
    · have hd : decide ((i : Int) < (n : Int)) = false := by simp; omega
      have E := Lib.hid (show cdB Xs = decide ((n : Int) ≤ 1024) by
        unfold cdB
        have h1 := HP.out
        rw [List.take_of_length_le (by have := HN.out; omega)] at h1
        rw [h1, HN.out]
        simp
        omega)
      go_wp2_with fail
      go_ret
      exact boolb_mk (by rw [E.out]) HB.out
end
end Go.Proofs.YtbgmdikcbglpiaaGreatDoor
