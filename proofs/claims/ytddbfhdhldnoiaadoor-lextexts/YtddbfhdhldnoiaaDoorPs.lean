/-
  Contract of the page s Split: the lines of a text. It makes new memory alone.
-/
import Derived.Test.YtddbfhdhldnoiaaDoorNm
import Derived.Test.YtddbfhdhldnoiaaDoorLj
namespace Go.Proofs.YtddbfhdhldnoiaaDoor
open Go.RowKit

/-- The lines of a text: what has been read of this line, the rest. -/
def spl : List UInt8 → List UInt8 → List (List UInt8)
  | cur, [] => [cur]
  | cur, c :: r => if c = 10 then cur :: spl [] r else spl (cur ++ [c]) r
theorem spl_len : ∀ (r cur : List UInt8), (spl cur r).length ≤ r.length + 1
  | [], _ => Nat.le_refl _
  | c :: r, cur => by
    unfold spl
    split
    · have := spl_len r []; simp only [List.length_cons]; omega
    · have := spl_len r (cur ++ [c]); simp only [List.length_cons]; omega
theorem ext_data (S : ByteArray) (b k : Nat) : (S.extract b k).data.toList = (S.data.toList.drop b).take (k - b) := by simp
def SpPost (l : List UInt8) (w : World) (e : Ending) (w' : World) : Prop := ∃ (v : Value) (b : Bool), e = .returned (.tuple #[v, .bool b]) ∧ Below w.heap.size w w' ∧
  (4000 < l.length → b = false) ∧ (l.length ≤ 4000 → ∃ ss : List ByteArray, ss.map (fun s => s.data.toList) = spl [] l ∧ b = decide (ss.length ≤ 300) ∧ w'.ownsRow w.heap.size 9 1 v ss.length (ss.map Value.string))
set_option maxHeartbeats 1000000 in
set_option maxRecDepth 4000 in
theorem psplit_any (S : ByteArray) (w : World) (hs : S.size ≤ maxLen) : Calls Tryd.prog 16 #[.string S] w (SpPost S.data.toList w) := by
  have hsl : S.data.toList.length = S.size := by simp
  unfold maxLen at hs
  by_cases h4 : S.size ≤ 4000
  · have hd4 : decide ((4000 : Int) < (S.size : Int)) = false := by simp; omega
    have H4 := Lib.hid h4
    have HSL := Lib.hid hsl
    clear hsl
    go_enter Tryd.func16, Tryd.ntmps16
    go_wp2_with fail
    go_loopg [4, 5, 6] S.size (fun gk t o q wr2 => ∃ (k b : Nat) (D : List ByteArray) (va : Option Addr) (cc : Nat), b ≤ k ∧ k ≤ S.size ∧ gk = S.size - k ∧ t = .slice va D.length cc ∧ o = .int .i64 b ∧ q = .int .i64 k ∧ D.length ≤ k ∧ D.map (fun s => s.data.toList) ++ spl ((S.data.toList.drop b).take (k - b)) (S.data.toList.drop k) = spl [] S.data.toList ∧ wr2.ownsRow w.heap.size 9 1 (.slice va D.length cc) D.length (D.map Value.string) ∧ Below w.heap.size w wr2)
    case atStart => exact ⟨0, 0, [], none, 0, Nat.le_refl _, Nat.zero_le _, rfl, rfl, rfl, rfl, Nat.zero_le _, rfl, World.ownsRow_nil _ _ _ _, Below.refl _ _⟩
    case round =>
      obtain ⟨k, b, D, va, cc, hbk, hk, rfl, rfl, rfl, rfl, hD, hsp, hown, hb⟩ := hrel
      have SP := Lib.hid hsp
      have OW := Lib.hid hown
      have HB := Lib.hid hb
      have HDL := Lib.hid hD
      clear hsp hown hb hD
      have b0 : (0 : Int) ≤ (b : Int) := by omega
      have b1 : (b : Int) ≤ (k : Int) := by omega
      have b2 : (b : Int) ≤ (S.size : Int) := by omega
      by_cases hlt : k < S.size
      · have hd : decide ((k : Int) < (S.size : Int)) = true := by simpa using hlt
        have i0 : (0 : Int) ≤ (k : Int) := by omega
        have i1 : (k : Int) < (S.size : Int) := by omega
        have i2 : (k : Int) ≤ (S.size : Int) := by omega
        have hkl : k < S.data.toList.length := by have := HSL.out; omega
        have DK := Lib.hid (show S.data.toList.drop k = (S[k]'hlt) :: S.data.toList.drop (k + 1) by
          have h1 := drop_at hkl
          rw [h1]; congr 1)
        have TK := Lib.hid (show (S.data.toList.drop b).take (k + 1 - b) = (S.data.toList.drop b).take (k - b) ++ [S[k]'hlt] by
          have h1 : k - b < (S.data.toList.drop b).length := by rw [List.length_drop]; omega
          rw [show k + 1 - b = (k - b) + 1 by omega, List.take_succ_eq_append_getElem h1]
          congr 2
          rw [List.getElem_drop]
          have : b + (k - b) = k := by omega
          simp only [this]
          rfl)
        clear hkl
        by_cases h10 : S[k] = 10
        · have hd3 : ((S[k].toNat : Int) == 10) = true := by rw [h10]; rfl
          have SQ := Lib.hid (show (D ++ [S.extract b k]).map (fun s => s.data.toList) ++ spl ((S.data.toList.drop (k + 1)).take (k + 1 - (k + 1))) (S.data.toList.drop (k + 1)) = spl [] S.data.toList by
            have h := SP.out
            rw [DK.out, spl, if_pos h10] at h
            rw [List.map_append, List.append_assoc, Nat.sub_self, List.take_zero, ← h]
            simp only [List.map_cons, List.map_nil, ext_data]
            rfl)
          clear h10 DK TK SP
          go_wp2_with (at_builtin; refine appS rfl _ _ rfl (wr.alloc (.cells #[.string (S.extract b k)] 9)) w.heap.size D.length cc va D [S.extract b k] 1 rfl (by decide) rfl (OW.out.alloc _) (by have := HDL.out; omega) wr.heap.size rfl #[.string (S.extract b k)] (by exact heap_alloc_new wr _) rfl (by have := HB.out.size; simp; omega) ?_; intro gA capA wA hownA hgA; have OA := Lib.hid hownA; have BA := Lib.hid (((HB.out.trans ((below_new wr (.cells #[.string (S.extract b k)] 9)).mono HB.out.size))).grown hgA (by have := HB.out.size; simp; omega) (fun k hk => (OW.out.lt k (by rw [own_ob]; exact hk)).1)); clear hownA hgA)
          go_roundg (S.size - (k + 1))
          case measure => omega
          case rel => exact ⟨k + 1, k + 1, D ++ [S.extract b k], _, _, Nat.le_refl _, by omega, rfl, by rw [List.length_append]; rfl, by go_num, by go_num, by rw [List.length_append]; show D.length + 1 ≤ k + 1; have := HDL.out; omega, SQ.out, by rw [List.length_append]; exact OA.out, BA.out⟩
        · have hd3 : ((S[k].toNat : Int) == 10) = false := by
            have : S[k].toNat ≠ 10 := fun e => h10 (UInt8.toNat_inj.1 e)
            simp; omega
          have SQ := Lib.hid (show D.map (fun s => s.data.toList) ++ spl ((S.data.toList.drop b).take (k + 1 - b)) (S.data.toList.drop (k + 1)) = spl [] S.data.toList by
            have h := SP.out
            rw [DK.out, spl, if_neg h10] at h
            rw [TK.out]; exact h)
          clear h10 DK TK SP
          go_wp2_with fail
          go_roundg (S.size - (k + 1))
          case measure => omega
          case rel => exact ⟨k + 1, b, D, va, cc, by omega, by omega, rfl, rfl, rfl, by go_num, by have := HDL.out; omega, SQ.out, OW.out, HB.out⟩
      · have hd : decide ((k : Int) < (S.size : Int)) = false := by simp; omega
        have hkn : k = S.size := by omega
        have SQ := Lib.hid (show (D ++ [S.extract b S.size]).map (fun s => s.data.toList) = spl [] S.data.toList by
          have h := SP.out
          rw [List.drop_of_length_le (l := S.data.toList) (i := k) (by have := HSL.out; omega), spl, hkn] at h
          rw [List.map_append, ← h]
          simp only [List.map_cons, List.map_nil, ext_data])
        have LN := Lib.hid (show (D ++ [S.extract b S.size]).length = D.length + 1 by rw [List.length_append]; rfl)
        clear SP
        go_wp2_with (at_builtin; refine appS rfl _ _ rfl (wr.alloc (.cells #[.string (S.extract b S.size)] 9)) w.heap.size D.length cc va D [S.extract b S.size] 1 rfl (by decide) rfl (OW.out.alloc _) (by have := HDL.out; omega) wr.heap.size rfl #[.string (S.extract b S.size)] (by exact heap_alloc_new wr _) rfl (by have := HB.out.size; simp; omega) ?_; intro gA capA wA hownA hgA; have OA := Lib.hid hownA; have BA := Lib.hid (((HB.out.trans ((below_new wr (.cells #[.string (S.extract b S.size)] 9)).mono HB.out.size))).grown hgA (by have := HB.out.size; simp; omega) (fun k hk => (OW.out.lt k (by rw [own_ob]; exact hk)).1)); clear hownA hgA)
        go_ret2
        exact ⟨_, _, rfl, BA.out, fun h => absurd (by have := HSL.out; have := H4.out; omega) (Nat.lt_irrefl 0), fun _ => ⟨D ++ [S.extract b S.size], SQ.out, by rw [LN.out]; exact decide_eq_decide.2 (by omega), by rw [LN.out]; exact OA.out⟩⟩
  · have hd4 : decide ((4000 : Int) < (S.size : Int)) = true := by simp; omega
    have HSL := Lib.hid hsl
    have H4 := Lib.hid h4
    clear hsl h4
    go_enter Tryd.func16, Tryd.ntmps16
    go_wp2_with fail
    go_ret2
    exact ⟨_, false, rfl, Below.refl _ _, fun _ => rfl, fun h => absurd (by have := HSL.out; omega) H4.out⟩
end Go.Proofs.YtddbfhdhldnoiaaDoor
