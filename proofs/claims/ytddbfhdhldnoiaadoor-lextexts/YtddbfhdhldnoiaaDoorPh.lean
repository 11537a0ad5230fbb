/-
  Contract of the page s Text on words that may be. It makes new memory alone.
-/
import Derived.Test.YtddbfhdhldnoiaaDoorPg
namespace Go.Proofs.YtddbfhdhldnoiaaDoor
open Go.RowKit

theorem app_toList (a b : ByteArray) : (a ++ b).data.toList = a.data.toList ++ b.data.toList := by simp
theorem txL_snoc : ∀ (l : List Tk) (x : Tk), txL (l ++ [x]) = if l.isEmpty then txT x else txL l ++ (32 :: txT x)
  | [], x => by simp [txL, Lib.join]
  | [y], x => by rw [txL_lay, txL_lay]; simp [lay]
  | y :: z :: r, x => by
    have ih := txL_snoc (z :: r) x
    rw [if_neg (by simp)] at ih ⊢
    rw [txL_lay, txL_lay] at ih ⊢
    rw [show (y :: z :: r) ++ [x] = y :: z :: (r ++ [x]) from rfl, lay, lay, show z :: (r ++ [x]) = (z :: r) ++ [x] from rfl, ih]
    simp
theorem take_may {xs : List Tk} (h : mayL xs = true) (i : Nat) : mayL (xs.take i) = true := by
  obtain ⟨h1, h2⟩ := mayL_iff h
  unfold mayL
  rw [Bool.and_eq_true]
  refine ⟨by simp only [decide_eq_true_eq, List.length_take]; omega, ?_⟩
  rw [List.all_eq_true]
  exact fun x hx => h2 x (List.mem_of_mem_take hx)
set_option maxHeartbeats 1000000 in
theorem ptext_any (xs : List Tk) (v : Value) (w : World) (h : RdT w v xs) (hm : mayL xs = true) (H : Tab w) (hS : Small xs) : Calls Tryd.prog 11 #[v] w (StrBelow ⟨(txL xs).toArray⟩ w) := by
  obtain ⟨A, c, rfl, r⟩ := h
  have R := Lib.hid r
  have TB := Lib.hid H
  have HM := Lib.hid hm
  have SM := Lib.hid hS
  have h40 := (mayL_iff hm).1
  clear r H hm hS
  generalize hn : xs.length = n at *
  have HN := Lib.hid hn
  clear hn
  go_enter Tryd.func11, Tryd.ntmps11
  go_wp2_with fail
  go_loopg [3, 4] n (fun gk t o wr2 => ∃ (i : Nat) (B : ByteArray), i ≤ n ∧ gk = n - i ∧ o = .int .i64 i ∧ t = .string B ∧ B.data.toList = txL (xs.take i) ∧ Below w.heap.size w wr2)
  case atStart => exact ⟨0, ⟨#[]⟩, Nat.zero_le _, rfl, rfl, rfl, rfl, Below.refl _ _⟩
  case round =>
    obtain ⟨i, B, hi, rfl, rfl, rfl, hB, hb⟩ := hrel
    have BB := Lib.hid hB
    have HB := Lib.hid hb
    have hBz : B.size ≤ 1000 := by
      have h1 : B.size = B.data.toList.length := by simp
      rw [h1, hB]
      exact txL_len (take_may HM.out i)
    clear hB hb
    by_cases hlt : i < n
    · have hd : decide ((i : Int) < (n : Int)) = true := by simpa using hlt
      have i0 : (0 : Int) ≤ (i : Int) := by omega
      have i1 : (i : Int) < (n : Int) := by omega
      have hil : i < xs.length := by have := HN.out; omega
      obtain ⟨ad, rfl, hg, q0, q1, q2, q3⟩ := RdT.at_ (by rw [HN.out]; exact R.out) hil
      have k0 := (HB.out.cell (p := ad.add (i * 4)) (by rw [block_add]; exact hg)).trans q0
      have k1 := (HB.out.cell (p := ⟨(ad.add (i * 4)).block, (ad.add (i * 4)).off + 1, none⟩) (by show (ad.add (i * 4)).block < _; rw [block_add]; exact hg)).trans q1
      have k2 := (HB.out.cell (p := ⟨(ad.add (i * 4)).block, (ad.add (i * 4)).off + 2, none⟩) (by show (ad.add (i * 4)).block < _; rw [block_add]; exact hg)).trans q2
      have k3 := (HB.out.cell (p := ⟨(ad.add (i * 4)).block, (ad.add (i * 4)).off + 3, none⟩) (by show (ad.add (i * 4)).block < _; rw [block_add]; exact hg)).trans q3
      have TS := Lib.hid (show txL (xs.take (i + 1)) = if (xs.take i).isEmpty then txT xs[i] else txL (xs.take i) ++ (32 :: txT xs[i]) by rw [List.take_succ_eq_append_getElem hil, txL_snoc])
      have TL := Lib.hid (txT_len ((mayL_iff HM.out).2 _ (List.getElem_mem hil)))
      have SX := Lib.hid (SM.out _ (List.getElem_mem hil))
      have TI := Lib.hid (fun W (hb : Below w.heap.size w W) => itoa_any (xs[i]).n W SX.out.2.1 SX.out.2.2 (TB.out.below hb))
      generalize xs[i] = f at k0 k1 k2 k3 TS TL SX TI
      clear q0 q1 q2 q3 hg
      by_cases hi0 : i = 0
      · have hg0 : decide ((0 : Int) < (i : Int)) = false := by simp; omega
        have hg1 : decide (0 < i) = false := by simp; omega
        have TS2 := Lib.hid (show txL (xs.take (i + 1)) = txT f by rw [TS.out, hi0]; rfl)
        have B0 := Lib.hid (show B.data.toList = [] by rw [BB.out, hi0]; rfl)
        clear hi0 hil
        by_cases hk : f.k = 2
        · have e : (f.k == 2) = true := by simpa using hk
          have T3 := Lib.hid (show txT f = itoa f.n by unfold txT; rw [if_pos hk])
          have z1 : (⟨(itoa f.n).toArray⟩ : ByteArray).size ≤ 21 := by have := TL.out; rw [T3.out] at this; show (itoa f.n).toArray.size ≤ 21; simpa using this
          have SS := Lib.hid (show (⟨(itoa f.n).toArray⟩ : ByteArray).data.toList = itoa f.n by simp)
          generalize (⟨(itoa f.n).toArray⟩ : ByteArray) = S at TI z1 SS
          clear hk
          go_wp2_with (go_at_call 26; refine (TI.out _ HB.out).mono ?_; rintro e w1 ⟨rfl, b1⟩; have B1 := Lib.hid (HB.out.trans (b1.mono HB.out.size)); clear b1)
          go_roundg (n - (i + 1))
          case measure => omega
          case rel => exact ⟨i + 1, _, by omega, rfl, by go_num, rfl, by rw [TS2.out, T3.out, app_toList, B0.out, SS.out]; simp, B1.out⟩
        · have e : (f.k == 2) = false := by simpa using hk
          have T3 := Lib.hid (show txT f = f.t by unfold txT; rw [if_neg hk])
          have z1 : (⟨f.t.toArray⟩ : ByteArray).size ≤ 21 := by have := TL.out; rw [T3.out] at this; show f.t.toArray.size ≤ 21; simpa using this
          have SS := Lib.hid (show (⟨f.t.toArray⟩ : ByteArray).data.toList = f.t by simp)
          generalize (⟨f.t.toArray⟩ : ByteArray) = S at k1 z1 SS
          clear hk
          go_wp2_with fail
          go_roundg (n - (i + 1))
          case measure => omega
          case rel => exact ⟨i + 1, _, by omega, rfl, by go_num, rfl, by rw [TS2.out, T3.out, app_toList, B0.out, SS.out]; simp, HB.out⟩
      · have hg0 : decide ((0 : Int) < (i : Int)) = true := decide_eq_true (by omega)
        have hg1 : decide (0 < i) = true := decide_eq_true (by omega)
        have TS2 := Lib.hid (show txL (xs.take (i + 1)) = txL (xs.take i) ++ (32 :: txT f) by
          rw [TS.out, if_neg]
          have : (xs.take i).length = i := by rw [List.length_take]; omega
          intro hc
          rw [List.isEmpty_iff] at hc
          rw [hc] at this
          simp at this
          omega)
        clear hi0 hil
        by_cases hk : f.k = 2
        · have e : (f.k == 2) = true := by simpa using hk
          have T3 := Lib.hid (show txT f = itoa f.n by unfold txT; rw [if_pos hk])
          have z1 : (⟨(itoa f.n).toArray⟩ : ByteArray).size ≤ 21 := by have := TL.out; rw [T3.out] at this; show (itoa f.n).toArray.size ≤ 21; simpa using this
          have SS := Lib.hid (show (⟨(itoa f.n).toArray⟩ : ByteArray).data.toList = itoa f.n by simp)
          generalize (⟨(itoa f.n).toArray⟩ : ByteArray) = S at TI z1 SS
          clear hk
          go_wp2_with (go_at_call 26; refine (TI.out _ HB.out).mono ?_; rintro e w1 ⟨rfl, b1⟩; have B1 := Lib.hid (HB.out.trans (b1.mono HB.out.size)); clear b1)
          go_roundg (n - (i + 1))
          case measure => omega
          case rel => exact ⟨i + 1, _, by omega, rfl, by go_num, rfl, by rw [TS2.out, T3.out, app_toList, app_toList, BB.out, SS.out]; simp, B1.out⟩
        · have e : (f.k == 2) = false := by simpa using hk
          have T3 := Lib.hid (show txT f = f.t by unfold txT; rw [if_neg hk])
          have z1 : (⟨f.t.toArray⟩ : ByteArray).size ≤ 21 := by have := TL.out; rw [T3.out] at this; show f.t.toArray.size ≤ 21; simpa using this
          have SS := Lib.hid (show (⟨f.t.toArray⟩ : ByteArray).data.toList = f.t by simp)
          generalize (⟨f.t.toArray⟩ : ByteArray) = S at k1 z1 SS
          clear hk
          go_wp2_with fail
          go_roundg (n - (i + 1))
          case measure => omega
          case rel => exact ⟨i + 1, _, by omega, rfl, by go_num, rfl, by rw [TS2.out, T3.out, app_toList, app_toList, BB.out, SS.out]; simp, HB.out⟩
    · have hd : decide ((i : Int) < (n : Int)) = false := by simp; omega
      have EB := Lib.hid (show B = ⟨(txL xs).toArray⟩ by
        have h := BB.out
        rw [List.take_of_length_le (by have := HN.out; omega)] at h
        have h2 : B.data = (txL xs).toArray := by rw [← Array.toList_inj, h]
        cases B; simp only at h2; rw [h2])
      go_wp2_with fail
      go_ret
      exact strb_mk EB.out HB.out
end Go.Proofs.YtddbfhdhldnoiaaDoor
