/-
  IsaTells: the walk. Condition: the tables lie in the world; the instructions of the input lie in old memory.
-/
import Derived.Test.YtgaoelpgdianiaaDoorRefText
import Derived.Test.YtgaoelpgdianiaaDoorShell
namespace Go.Proofs.YtgaoelpgdianiaaDoor
open Go.RowKit

theorem fit_of {n : Nat} {d a b m : Int} {s : ByteArray} (hi : insB n d a b m s = true) : fitsB (sd (fm n)) d = true := by
  unfold insB at hi
  simp only [Bool.and_eq_true] at hi
  exact hi.1.1.1
/-- The law's own instruction. -/
def XC (w : World) (g : Nat) (o d a b m : Int) (s : ByteArray) : Prop := (w.cell? ⟨g, 0, none⟩ = some (.int .i64 o) ∧ w.cell? ⟨g, 1, none⟩ = some (.int .i64 d) ∧ w.cell? ⟨g, 2, none⟩ = some (.int .i64 a) ∧ w.cell? ⟨g, 3, none⟩ = some (.int .i64 b) ∧ w.cell? ⟨g, 4, none⟩ = some (.int .i64 m) ∧ w.cell? ⟨g, 5, none⟩ = some (.string s)) ∧ g < w.heap.size
theorem XC.below {w w' : World} {g : Nat} {o d a b m : Int} {s : ByteArray} (h : XC w g o d a b m s) (hb : Below w.heap.size w w') : XC w' g o d a b m s := by
  obtain ⟨⟨h0, h1, h2, h3, h4, h5⟩, hg⟩ := h
  have hc : ∀ j, w'.cell? ⟨g, j, none⟩ = w.cell? ⟨g, j, none⟩ := fun j => hb.cell (p := ⟨g, j, none⟩) hg
  exact ⟨⟨(hc 0).trans h0, (hc 1).trans h1, (hc 2).trans h2, (hc 3).trans h3, (hc 4).trans h4, (hc 5).trans h5⟩, Nat.lt_of_lt_of_le hg hb.size⟩
theorem XC.new (w : World) (o d a b m : Int) (s : ByteArray) : XC (w.alloc (.cells #[.int .i64 o, .int .i64 d, .int .i64 a, .int .i64 b, .int .i64 m, .string s] 47)) w.heap.size o d a b m s := by
  refine ⟨?_, by simp⟩
  simp only [cell_new]
  exact ⟨rfl, rfl, rfl, rfl, rfl, rfl⟩
theorem chain {B : Nat} {W0 a b : World} (h : Below B W0 a) (hB : B ≤ W0.heap.size) (hb : Below a.heap.size a b) : Below B W0 b := h.trans (hb.mono (Nat.le_trans hB h.size))
def TruePost (w : World) (e : Ending) (w' : World) : Prop := e = .returned (.bool true) ∧ Below w.heap.size w w'
theorem add_pos (x : Addr) (j : Nat) (h : j ≠ 0) : x.add j = ⟨x.block, x.off + j, none⟩ := by unfold Addr.add; simp [h]
theorem str_same (s : ByteArray) : (s.toList != s.toList) = false := by simp
theorem int_same (x : Int) : (x != x) = false := by simp
theorem bool_same (x : Bool) : (x != x) = false := by simp
set_option maxHeartbeats 20000000 in
set_option maxRecDepth 100000 in
theorem isaTells_walk (A1 A2 : Option Addr) (n1 c1 n2 c2 : Nat) (w : World) (H : Tab w) (s1 : InsIn w A1 n1) (_ : StrIn w A2 n2 c2) :
    Calls Tryd.prog 4 #[.agg #[.slice A1 n1 c1, .slice A2 n2 c2]] w (TruePost w) := by
  have T := Lib.hid H
  have big := H.big
  have S1 := Lib.hid s1
  clear H s1
  go_enter Tryd.func4, Tryd.ntmps4
  go_wp2_with fail
  have z0 : (w.alloc (.cells #[.slice A1 n1 c1, .slice A2 n2 c2] 25)).heap.size = w.heap.size + 1 := by simp
  have Q0 := Lib.hid (show (w.alloc (.cells #[.slice A1 n1 c1, .slice A2 n2 c2] 25)).cell? ⟨w.heap.size, 0, none⟩ = some (.slice A1 n1 c1) by simp [go_sem])
  have Q1 := Lib.hid (show ∀ p : Addr, p.block < w.heap.size → (w.alloc (.cells #[.slice A1 n1 c1, .slice A2 n2 c2] 25)).cell? p = w.cell? p from fun p hp => World.cell?_alloc_lt w _ p hp)
  generalize hW0 : (w.alloc (.cells #[.slice A1 n1 c1, .slice A2 n2 c2] 25)) = W0 at z0 Q0 Q1
  have HW0 := Lib.hid hW0
  have Z0 := Lib.hid z0
  clear hW0 z0
  have T0 := Lib.hid (show Tab W0 from HW0.out ▸ T.out.alloc _)
  go_loopw [3] (fun o wr2 => ∃ i : Nat, i ≤ 20 ∧ o = .int .i64 i ∧ Below (w.heap.size + 1) W0 wr2) (fun o _ => 20 - (intOf o).toNat)
  case atStart => exact ⟨0, by omega, rfl, Below.refl _ _⟩
  case round =>
    obtain ⟨i, hi, rfl, hb⟩ := hrel
    have HB := Lib.hid hb
    have HS := Lib.hid (show w.heap.size + 1 ≤ wr.heap.size by have := hb.size; have := Z0.out; omega)
    have TR := Lib.hid (tab_below T0.out hb (by have := T.out.big; omega))
    have q0 := (hb.cell (p := ⟨w.heap.size, 0, none⟩) (by simp)).trans Q0.out
    clear hb
    by_cases hilt : i < n1 ∧ i < 20
    · obtain ⟨hilt, hi20⟩ := hilt
      have d4 : decide ((i : Int) < (n1 : Int)) = true := by simpa using hilt
      have d5 : decide ((i : Int) < 20) = true := by simp; omega
      have i0 : (0 : Int) ≤ (i : Int) := by omega
      have i1 : (i : Int) < (n1 : Int) := by omega
      obtain ⟨ad, rfl, hbl, hel⟩ := S1.out (by omega)
      obtain ⟨o, d, a, b, m, s, po, pd, pa, pb, pm, psz, e0, e1, e2, e3, e4, e5⟩ := hel i hilt
      have hcell : ∀ (j : Nat) (u : Value), w.cell? (ad.add (i * 6 + j)) = some u → wr.cell? (ad.add (i * 6 + j)) = some u := fun j u hu => (HB.out.cell (p := ad.add (i * 6 + j)) (by rw [block_add]; omega)).trans ((Q1.out _ (by rw [block_add]; exact hbl)).trans hu)
      have k0 := hcell 0 _ e0
      have k1 := hcell 1 _ e1
      have k2 := hcell 2 _ e2
      have k3 := hcell 3 _ e3
      have k4 := hcell 4 _ e4
      have k5 := hcell 5 _ e5
      rw [Nat.add_zero] at k0
      rw [← Go.Deep.add_add, add_pos _ _ (by decide)] at k1 k2 k3 k4 k5
      have PZ := Lib.hid psz
      have PO := Lib.hid po
      clear hcell e0 e1 e2 e3 e4 e5 hel hbl psz po pd pa pb pm
      have HZ := Lib.hid (show w.heap.size + 1 ≤ W0.heap.size by have := Z0.out; omega)
      have X0 := Lib.hid (XC.new wr o d a b m s)
      have B0 := Lib.hid (HB.out.alloc HS.out (.cells #[.int .i64 o, .int .i64 d, .int .i64 a, .int .i64 b, .int .i64 m, .string s] 47))
      have TT0 := Lib.hid (TR.out.alloc (.cells #[.int .i64 o, .int .i64 d, .int .i64 a, .int .i64 b, .int .i64 m, .string s] 47))
      by_cases hgood : ¬ ∃ n : Nat, n < 34 ∧ o = n ∧ insB n d a b m s = true
      · have hbad : Bad o d a b m s := by
          by_cases hv : 0 ≤ o ∧ o ≤ 33
          · refine .inr ⟨o.toNat, by omega, by omega, ?_⟩
            cases hI : insB o.toNat d a b m s
            · rfl
            · exact absurd ⟨o.toNat, by omega, by omega, hI⟩ hgood
          · exact .inl (by omega)
        clear hgood
        have HBad := Lib.hid hbad
        clear hbad
        go_wp2_with (first | (go_at_call 28; refine (text_bad _ _ _ _ _ _ _ TT0.out PZ.out HBad.out).mono ?_; rintro e w28 ⟨rfl, hb28⟩; have X28 := Lib.hid (XC.below X0.out hb28); have B28 := Lib.hid (chain B0.out HZ.out hb28); have T28 := Lib.hid (TT0.out.below hb28); obtain ⟨⟨p0, p1, p2, p3, p4, p5⟩, pg⟩ := X28.out; clear hb28) | (go_at_call 29; refine (reads_bad _ _ _ _ _ _ _ T28.out PZ.out HBad.out).mono ?_; rintro e w29 ⟨v29, rfl, hown29, hb29⟩; have N29 := Lib.hid (RowAt.of_own (enc := Value.int .i64) hown29); clear hown29; have X29 := Lib.hid (XC.below X28.out hb29); have B29 := Lib.hid (chain B28.out HZ.out hb29); have T29 := Lib.hid (T28.out.below hb29); obtain ⟨⟨p0, p1, p2, p3, p4, p5⟩, pg⟩ := X29.out; clear hb29) | (go_at_call 30; refine (writes_bad _ _ _ _ _ _ _ T29.out PZ.out HBad.out).mono ?_; rintro e w30 ⟨rfl, hb30⟩; have X30 := Lib.hid (XC.below X29.out hb30); have B30 := Lib.hid (chain B29.out HZ.out hb30); have T30 := Lib.hid (T29.out.below hb30); obtain ⟨⟨p0, p1, p2, p3, p4, p5⟩, pg⟩ := X30.out; have N30 := Lib.hid (RowAt.below N29.out hb30); clear hb30) | (go_at_call 31; refine (ins_bad _ _ _ _ _ _ _ PZ.out HBad.out).mono ?_; rintro e w31 ⟨rfl, hb31⟩; have X31 := Lib.hid (XC.below X30.out hb31); have B31 := Lib.hid (chain B30.out HZ.out hb31); have T31 := Lib.hid (T30.out.below hb31); obtain ⟨⟨p0, p1, p2, p3, p4, p5⟩, pg⟩ := X31.out; have N31 := Lib.hid (RowAt.below N30.out hb31); clear hb31) | (go_at_call 35; refine (check_bad _ _ _ _ _ _ _ T31.out PZ.out HBad.out).mono ?_; rintro e w35 ⟨rfl, hb35⟩; have X35 := Lib.hid (XC.below X31.out hb35); have B35 := Lib.hid (chain B31.out HZ.out hb35); have T35 := Lib.hid (T31.out.below hb35); obtain ⟨⟨p0, p1, p2, p3, p4, p5⟩, pg⟩ := X35.out; have N35 := Lib.hid (RowAt.below N31.out hb35); clear hb35) | (go_at_call 16; refine (num_any _ _).mono ?_; rintro e w' ⟨rfl, rfl⟩) | (go_at_call 17; refine (eq_same [] _ _ _ N35.out (RowAt.nil _) (by simp)).mono ?_; rintro e w' ⟨rfl, qd, rfl⟩))
        go_roundw
        case rel => exact ⟨i + 1, by omega, by go_num, below_drewN B35.out _⟩
        case measure => simp [intOf]; omega
      · obtain ⟨n, h, rfl, hins⟩ := Classical.not_not.1 hgood
        have HI := Lib.hid hins
        clear hins
        have u1 := str_same (txt n (opsL (fm n) d a b m s))
        have u2 := int_same d
        clear hgood
        cases hd : sd (fm n)
        · have CD := Lib.hid hd
          skip
          have RW := Lib.hid (show (if sd (fm n) then d else -1) = -1 by rw [hd]; rfl)
          clear hd
          go_wp2_with (first | (go_at_call 28; refine (text_good _ _ _ _ _ _ _ h TT0.out PZ.out HI.out).mono ?_; rintro e w28 ⟨rfl, hb28⟩; have X28 := Lib.hid (XC.below X0.out hb28); have B28 := Lib.hid (chain B0.out HZ.out hb28); have T28 := Lib.hid (TT0.out.below hb28); obtain ⟨⟨p0, p1, p2, p3, p4, p5⟩, pg⟩ := X28.out; clear hb28) | (go_at_call 29; refine (reads_good _ _ _ _ _ _ _ h T28.out PZ.out HI.out).mono ?_; rintro e w29 ⟨v29, rfl, hown29, hb29⟩; have N29 := Lib.hid (RowAt.of_own (enc := Value.int .i64) hown29); clear hown29; have X29 := Lib.hid (XC.below X28.out hb29); have B29 := Lib.hid (chain B28.out HZ.out hb29); have T29 := Lib.hid (T28.out.below hb29); obtain ⟨⟨p0, p1, p2, p3, p4, p5⟩, pg⟩ := X29.out; clear hb29) | (go_at_call 30; refine (writes_no _ _ _ _ _ _ _ h T29.out PZ.out HI.out CD.out).mono ?_; rintro e w30 ⟨rfl, hb30⟩; have X30 := Lib.hid (XC.below X29.out hb30); have B30 := Lib.hid (chain B29.out HZ.out hb30); have T30 := Lib.hid (T29.out.below hb30); obtain ⟨⟨p0, p1, p2, p3, p4, p5⟩, pg⟩ := X30.out; have N30 := Lib.hid (RowAt.below N29.out hb30); clear hb30) | (go_at_call 31; refine (ins_good _ _ _ _ _ _ _ h PZ.out HI.out).mono ?_; rintro e w31 ⟨rfl, hb31⟩; have X31 := Lib.hid (XC.below X30.out hb31); have B31 := Lib.hid (chain B30.out HZ.out hb31); have T31 := Lib.hid (T30.out.below hb31); obtain ⟨⟨p0, p1, p2, p3, p4, p5⟩, pg⟩ := X31.out; have N31 := Lib.hid (RowAt.below N30.out hb31); clear hb31))
          have X31d := Lib.hid (show XC w31.drew wr.heap.size n d a b m s from X31.out)
          have B31d := Lib.hid (show Below (w.heap.size + 1) W0 w31.drew from B31.out.drew)
          have T31d := Lib.hid (show Tab w31.drew from T31.out.drew)
          have N31d := Lib.hid (show Nums w31.drew v29 (readsL (fm n) a b) from N31.out)
          go_region_held3 (fun w' => w'.cell? ⟨wr.heap.size, 0, none⟩ = some (.int .i64 n) ∧ w'.cell? ⟨wr.heap.size, 1, none⟩ = some (.int .i64 d) ∧ w'.cell? ⟨wr.heap.size, 2, none⟩ = some (.int .i64 a) ∧ w'.cell? ⟨wr.heap.size, 3, none⟩ = some (.int .i64 b) ∧ w'.cell? ⟨wr.heap.size, 4, none⟩ = some (.int .i64 m) ∧ w'.cell? ⟨wr.heap.size, 5, none⟩ = some (.string s)) (first | go_keep | exact X33.out.1 | exact X32.out.1) (first | (go_at_call 32; refine (rtext_any _ _ _ _ _ _ _ h T31d.out HI.out).mono ?_; rintro e w32 ⟨rfl, hb32⟩; have X32 := Lib.hid (XC.below X31d.out hb32); have B32 := Lib.hid (chain B31d.out HZ.out hb32); have T32 := Lib.hid (T31d.out.below hb32); obtain ⟨⟨p0, p1, p2, p3, p4, p5⟩, pg⟩ := X32.out; have N32 := Lib.hid (RowAt.below N31d.out hb32); clear hb32) | (go_at_call 33; refine (rreads_any _ _ _ _ _ _ _ h).mono ?_; rintro e w33 ⟨v33, rfl, hown33, hb33⟩; have M33 := Lib.hid (RowAt.of_own (enc := Value.int .i64) hown33); clear hown33; have X33 := Lib.hid (XC.below X32.out hb33); have B33 := Lib.hid (chain B32.out HZ.out hb33); have T33 := Lib.hid (T32.out.below hb33); obtain ⟨⟨p0, p1, p2, p3, p4, p5⟩, pg⟩ := X33.out; have N33 := Lib.hid (RowAt.below N32.out hb33); clear hb33))
          all_goals
            go_wp2_with (first | (go_at_call 34; refine ((rwrites_any _ _ _ _ _ _ _ h)).mono ?_; rintro e w34 ⟨rfl, hb34⟩; rw [RW.out]; have X34 := Lib.hid (XC.below X33.out hb34); have B34 := Lib.hid (chain B33.out HZ.out hb34); have T34 := Lib.hid (T33.out.below hb34); obtain ⟨⟨p0, p1, p2, p3, p4, p5⟩, pg⟩ := X34.out; have N34 := Lib.hid (RowAt.below N33.out hb34); have M34 := Lib.hid (RowAt.below M33.out hb34); clear hb34) | (go_at_call 35; refine (check_good _ _ _ _ _ _ _ h T34.out PZ.out HI.out).mono ?_; rintro e w35 ⟨rfl, hb35⟩; have X35 := Lib.hid (XC.below X34.out hb35); have B35 := Lib.hid (chain B34.out HZ.out hb35); have T35 := Lib.hid (T34.out.below hb35); obtain ⟨⟨p0, p1, p2, p3, p4, p5⟩, pg⟩ := X35.out; have N35 := Lib.hid (RowAt.below N34.out hb35); have M35 := Lib.hid (RowAt.below M34.out hb35); clear hb35) | (go_at_call 16; refine (num_any _ _).mono ?_; rintro e w' ⟨rfl, rfl⟩) | (go_at_call 17; refine (eq_same (readsL (fm n) a b) _ _ _ N35.out M35.out (by have := readsL_le (fm n) a b; omega)).mono ?_; rintro e w' ⟨rfl, qd, rfl⟩))
            go_roundw
            case rel => exact ⟨i + 1, by omega, by go_num, below_drewN B35.out _⟩
            case measure => simp [intOf]; omega
        · have CD := Lib.hid hd
          have d9 : decide (0 ≤ d) = true := by have hfit := fit_of HI.out; rw [hd] at hfit; simp [fitsB] at hfit; simp; omega
          have RW := Lib.hid (show (if sd (fm n) then d else -1) = d by rw [hd]; rfl)
          clear hd
          go_wp2_with (first | (go_at_call 28; refine (text_good _ _ _ _ _ _ _ h TT0.out PZ.out HI.out).mono ?_; rintro e w28 ⟨rfl, hb28⟩; have X28 := Lib.hid (XC.below X0.out hb28); have B28 := Lib.hid (chain B0.out HZ.out hb28); have T28 := Lib.hid (TT0.out.below hb28); obtain ⟨⟨p0, p1, p2, p3, p4, p5⟩, pg⟩ := X28.out; clear hb28) | (go_at_call 29; refine (reads_good _ _ _ _ _ _ _ h T28.out PZ.out HI.out).mono ?_; rintro e w29 ⟨v29, rfl, hown29, hb29⟩; have N29 := Lib.hid (RowAt.of_own (enc := Value.int .i64) hown29); clear hown29; have X29 := Lib.hid (XC.below X28.out hb29); have B29 := Lib.hid (chain B28.out HZ.out hb29); have T29 := Lib.hid (T28.out.below hb29); obtain ⟨⟨p0, p1, p2, p3, p4, p5⟩, pg⟩ := X29.out; clear hb29) | (go_at_call 30; refine (writes_d _ _ _ _ _ _ _ h T29.out PZ.out HI.out CD.out).mono ?_; rintro e w30 ⟨rfl, hb30⟩; have X30 := Lib.hid (XC.below X29.out hb30); have B30 := Lib.hid (chain B29.out HZ.out hb30); have T30 := Lib.hid (T29.out.below hb30); obtain ⟨⟨p0, p1, p2, p3, p4, p5⟩, pg⟩ := X30.out; have N30 := Lib.hid (RowAt.below N29.out hb30); clear hb30) | (go_at_call 31; refine (ins_good _ _ _ _ _ _ _ h PZ.out HI.out).mono ?_; rintro e w31 ⟨rfl, hb31⟩; have X31 := Lib.hid (XC.below X30.out hb31); have B31 := Lib.hid (chain B30.out HZ.out hb31); have T31 := Lib.hid (T30.out.below hb31); obtain ⟨⟨p0, p1, p2, p3, p4, p5⟩, pg⟩ := X31.out; have N31 := Lib.hid (RowAt.below N30.out hb31); clear hb31))
          have X31d := Lib.hid (show XC w31.drew wr.heap.size n d a b m s from X31.out)
          have B31d := Lib.hid (show Below (w.heap.size + 1) W0 w31.drew from B31.out.drew)
          have T31d := Lib.hid (show Tab w31.drew from T31.out.drew)
          have N31d := Lib.hid (show Nums w31.drew v29 (readsL (fm n) a b) from N31.out)
          go_region_held3 (fun w' => w'.cell? ⟨wr.heap.size, 0, none⟩ = some (.int .i64 n) ∧ w'.cell? ⟨wr.heap.size, 1, none⟩ = some (.int .i64 d) ∧ w'.cell? ⟨wr.heap.size, 2, none⟩ = some (.int .i64 a) ∧ w'.cell? ⟨wr.heap.size, 3, none⟩ = some (.int .i64 b) ∧ w'.cell? ⟨wr.heap.size, 4, none⟩ = some (.int .i64 m) ∧ w'.cell? ⟨wr.heap.size, 5, none⟩ = some (.string s)) (first | go_keep | exact X33.out.1 | exact X32.out.1) (first | (go_at_call 32; refine (rtext_any _ _ _ _ _ _ _ h T31d.out HI.out).mono ?_; rintro e w32 ⟨rfl, hb32⟩; have X32 := Lib.hid (XC.below X31d.out hb32); have B32 := Lib.hid (chain B31d.out HZ.out hb32); have T32 := Lib.hid (T31d.out.below hb32); obtain ⟨⟨p0, p1, p2, p3, p4, p5⟩, pg⟩ := X32.out; have N32 := Lib.hid (RowAt.below N31d.out hb32); clear hb32) | (go_at_call 33; refine (rreads_any _ _ _ _ _ _ _ h).mono ?_; rintro e w33 ⟨v33, rfl, hown33, hb33⟩; have M33 := Lib.hid (RowAt.of_own (enc := Value.int .i64) hown33); clear hown33; have X33 := Lib.hid (XC.below X32.out hb33); have B33 := Lib.hid (chain B32.out HZ.out hb33); have T33 := Lib.hid (T32.out.below hb33); obtain ⟨⟨p0, p1, p2, p3, p4, p5⟩, pg⟩ := X33.out; have N33 := Lib.hid (RowAt.below N32.out hb33); clear hb33))
          all_goals
            go_wp2_with (first | (go_at_call 34; refine ((rwrites_any _ _ _ _ _ _ _ h)).mono ?_; rintro e w34 ⟨rfl, hb34⟩; rw [RW.out]; have X34 := Lib.hid (XC.below X33.out hb34); have B34 := Lib.hid (chain B33.out HZ.out hb34); have T34 := Lib.hid (T33.out.below hb34); obtain ⟨⟨p0, p1, p2, p3, p4, p5⟩, pg⟩ := X34.out; have N34 := Lib.hid (RowAt.below N33.out hb34); have M34 := Lib.hid (RowAt.below M33.out hb34); clear hb34) | (go_at_call 35; refine (check_good _ _ _ _ _ _ _ h T34.out PZ.out HI.out).mono ?_; rintro e w35 ⟨rfl, hb35⟩; have X35 := Lib.hid (XC.below X34.out hb35); have B35 := Lib.hid (chain B34.out HZ.out hb35); have T35 := Lib.hid (T34.out.below hb35); obtain ⟨⟨p0, p1, p2, p3, p4, p5⟩, pg⟩ := X35.out; have N35 := Lib.hid (RowAt.below N34.out hb35); have M35 := Lib.hid (RowAt.below M34.out hb35); clear hb35) | (go_at_call 16; refine (num_any _ _).mono ?_; rintro e w' ⟨rfl, rfl⟩) | (go_at_call 17; refine (eq_same (readsL (fm n) a b) _ _ _ N35.out M35.out (by have := readsL_le (fm n) a b; omega)).mono ?_; rintro e w' ⟨rfl, qd, rfl⟩))
            go_roundw
            case rel => exact ⟨i + 1, by omega, by go_num, below_drewN B35.out _⟩
            case measure => simp [intOf]; omega
    · by_cases him : i < n1
      all_goals
        have d4 : decide ((i : Int) < (n1 : Int)) = decide (i < n1) := by simp
        simp only [him, decide_true, decide_false] at d4
        try have d5 : decide ((i : Int) < 20) = false := by simp; omega
        clear hilt
        go_wp2_with (go_at_call 27; refine (wakes_any _ TR.out).mono ?_; rintro e w9 ⟨rfl, hb9⟩)
        go_ret
        have hb0 : Below w.heap.size w W0 := HW0.out ▸ below_new w _
        exact ⟨rfl, (hb0.trans (HB.out.mono (by omega))).trans (hb9.mono (by have := HS.out; omega))⟩
end Go.Proofs.YtgaoelpgdianiaaDoor
