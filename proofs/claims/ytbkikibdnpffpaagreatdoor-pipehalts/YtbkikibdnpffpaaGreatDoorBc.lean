/-
  Contracts of the calls by which the program tells whether code may be: a bundle. Conditions: names are no longer than a string may be; the tables lie in the world.
-/
import Derived.Test.YtbkikibdnpffpaaGreatDoorBx
namespace Go.Proofs.YtbkikibdnpffpaaGreatDoor
open Go.RowKit

theorem pageB_sym {X : Nat → In6} {i : Nat} (hi : i < 4) (h : plX (X i) = false) : pageB X true = false := page_sym (plA_no hi h)
theorem pageB_ok {X : Nat → In6} {i : Nat} (hi : i < 4) (h : okX (X i) i = false) : pageB X true = false := page_no (okA_no hi h)
set_option maxHeartbeats 4000000 in
set_option maxRecDepth 100000 in
theorem isBundle_any (X : Nat → In6) (w : World) (T : Tab w) (HS : Szs X) : Calls Tryz.prog 52 #[.agg (bcs X)] w (BoolBelow (pageB X true) w) := by
  have SZ := Lib.hid HS
  have TT := Lib.hid T
  have tb := T.big
  clear HS T
  go_enter Tryz.func52, Tryz.ntmps52
  go_wp2_with (((with_reducible refine wpList_load_bl (op := ⟨_, .load 52 _, _, _, _, none⟩) rfl _ rfl w.heap.size (bcs X) ?hx ?sb (bcs_size X) ?_); (case hx => rfl)))
  case sb => exact heap_alloc_new _ _
  go_wp2_with fail
  go_loopg [6] 4 (fun gk o wr2 => ∃ i : Nat, i ≤ 4 ∧ gk = 4 - i ∧ o = .int .i64 i ∧ Below w.heap.size w wr2 ∧ (∀ k, k < i → okX (X k) k = true) ∧ (∀ k, k < i → plX (X k) = true))
  case atStart => exact ⟨0, by omega, rfl, rfl, below_new _ _, fun k hk => absurd hk (by omega), fun k hk => absurd hk (by omega)⟩
  case round =>
    obtain ⟨i, hi, rfl, rfl, hb, hO, hP⟩ := hrel
    have O := Lib.hid hO
    have PL := Lib.hid hP
    have HB := Lib.hid hb
    have hs0 := hb.size
    clear hO hP hb
    by_cases hlt : i < 4
    · have hd : decide ((i : Int) < 4) = true := by simp; omega
      have hix := index_x X i hlt
      have hsz := Lib.hid (SZ.out i hlt)
      cases hpl : plX (X i)
      · have hn1 := toList_ne (show 0 < (X i).s.size by have := of_decide_eq_false hpl; omega)
        have hn2 := isEmpty_ne (show 0 < (X i).s.size by have := of_decide_eq_false hpl; omega)
        have PN := Lib.hid (pageB_sym hlt hpl)
        clear hpl
        as_aux_lemma =>
        go_wp2_with fail
        go_ret
        exact boolb_mk PN.out.symm (HB.out.alloc hs0 _)
      have SE := Lib.hid (sz_empty hpl)
      have PN := Lib.hid hpl
      clear hpl
      have UPL := Lib.hid (upto (p := fun k => plX (X k) = true) PL.out PN.out)
      have UOK := Lib.hid (fun (h : okX (X i) i = true) => upto (p := fun k => okX (X k) k = true) O.out h)
      have NOK := Lib.hid (fun (h : okX (X i) i = false) => pageB_ok (X := X) hlt h)
      have CK := Lib.hid (fun (b : Bool) (h : gd (X i) = b) W TW => check_x (X i) b W TW hsz.out h)
      have MY := Lib.hid (fun (b : Bool) W TW (h : gd (X i) = true) (hm : mayB (X i).o.toNat i = b) => may_i (X i) i i b W rfl (by omega) TW h hm)
      have GDN := Lib.hid (fun (h : gd (X i) = false) => okX_no (k := i) h)
      have MYN := Lib.hid (fun (h : mayB (X i).o.toNat i = false) => okX_may h)
      have YES := Lib.hid (fun (h : gd (X i) = true) (hm : mayB (X i).o.toNat i = true) => okX_yes h hm)
      have TW := Lib.hid (tab_below TT.out HB.out (by omega))
      clear hsz
      cases hgd : gd (X i)
      · have C := Lib.hid (CK.out false hgd)
        have PB := Lib.hid (NOK.out (GDN.out hgd))
        clear hgd
        generalize X i = x at *
        obtain ⟨xo, xd, xa, xb, xm, s⟩ := x
        obtain rfl := SE.out
        as_aux_lemma =>
        go_wp2_with (go_at_call 72; refine (C.out _ (TW.out.alloc _)).mono ?_; rintro e w' ⟨rfl, hbw⟩)
        go_ret
        exact boolb_mk PB.out.symm ((HB.out.alloc hs0 _).trans (hbw.mono (by simp; omega)))
      have C := Lib.hid (CK.out true hgd)
      cases hm : mayB (X i).o.toNat i
      · have MM := Lib.hid (fun W TW => MY.out false W TW hgd hm)
        have PB := Lib.hid (NOK.out (MYN.out hm))
        clear hgd hm
        generalize X i = x at *
        obtain ⟨xo, xd, xa, xb, xm, s⟩ := x
        obtain rfl := SE.out
        as_aux_lemma =>
        go_wp2_with fail
        refine (C.out _ (TW.out.alloc _)).mono ?_
        rintro e w2 ⟨rfl, hb2⟩
        obtain ⟨q, hz, hB⟩ := box_cells hb2
        have k0 := q 0
        have k1 := q 1
        have k2 := q 2
        have k3 := q 3
        have k4 := q 4
        have k5 := q 5
        have HB2 := Lib.hid (HB.out.trans (hB.mono hs0))
        have T2 := Lib.hid (tab_below TT.out HB2.out (by omega))
        clear q hb2 hB
        go_wp2_with (go_at_call 73; refine (MM.out _ T2.out).mono ?_; rintro e w3 ⟨rfl, kk, rfl⟩)
        go_ret
        exact boolb_mk PB.out.symm (below_drewN HB2.out _)
      · have MM := Lib.hid (fun W TW => MY.out true W TW hgd hm)
        have OK := Lib.hid (UOK.out (YES.out hgd hm))
        clear hgd hm
        generalize X i = x at *
        obtain ⟨xo, xd, xa, xb, xm, s⟩ := x
        obtain rfl := SE.out
        as_aux_lemma =>
        go_wp2_with fail
        refine (C.out _ (TW.out.alloc _)).mono ?_
        rintro e w2 ⟨rfl, hb2⟩
        obtain ⟨q, hz, hB⟩ := box_cells hb2
        have k0 := q 0
        have k1 := q 1
        have k2 := q 2
        have k3 := q 3
        have k4 := q 4
        have k5 := q 5
        have HB2 := Lib.hid (HB.out.trans (hB.mono hs0))
        have T2 := Lib.hid (tab_below TT.out HB2.out (by omega))
        clear q hb2 hB
        go_wp2_with (go_at_call 73; refine (MM.out _ T2.out).mono ?_; rintro e w3 ⟨rfl, kk, rfl⟩)
        go_roundg (4 - (i + 1))
        case measure => omega
        case rel => exact ⟨i + 1, by omega, rfl, by go_num, below_drewN HB2.out _, OK.out, UPL.out⟩
    · have hd : decide ((i : Int) < 4) = false := by simp; omega
      obtain rfl : i = 4 := by omega
      go_wp2_with fail
      go_ret
      exact boolb_mk (page_all (okA_all O.out) (plA_all PL.out)).symm HB.out
theorem isBundle_not (X : Nat → In6) (w : World) (T : Tab w) (HS : Szs X) : Calls Tryz.prog 51 #[.agg (bcs X)] w (BoolBelow (!pageB X true) w) := by
  have C := Lib.hid (fun W (TW : Tab W) => isBundle_any X W TW HS)
  have TT := Lib.hid T
  clear T HS
  go_enter Tryz.func51, Tryz.ntmps51
  go_wp2_with (first | (go_at_call 52; refine (C.out _ (TT.out.alloc _)).mono ?_; rintro e w' ⟨rfl, hb⟩) | ((with_reducible refine wpList_load_bl (op := ⟨_, .load 52 _, _, _, _, none⟩) rfl _ rfl w.heap.size (bcs X) ?hx ?sb (bcs_size X) ?_); (case hx => rfl); (case sb => exact heap_alloc_new _ _)))
  go_ret
  exact boolb_mk rfl ((below_new _ _).trans (hb.mono (by simp)))
end Go.Proofs.YtbkikibdnpffpaaGreatDoor
