/-
  HazardWrites: the walk: of code made here that writes over a result on its way, or over another slot's, the hazards are the page's, at each cycle. Conditions: the tables lie in the world; the argument reads as a script.
-/
import Derived.Test.YtbgmdikcbglpiaaGreatDoorHw
namespace Go.Proofs.YtbgmdikcbglpiaaGreatDoor
open Go.RowKit

def hwL : List In5 := [zw, zw, ⟨24, 3, 0, 0, 0⟩, zw]
/-- The bundle that writes. -/
def hwB (k d : Nat) : List In5 := if k = 0 then [⟨23, 3, 0, 0, 0⟩, zw, zw, zw] else if k = 1 then [zw, ⟨21, 3, 0, 0, 0⟩, zw, zw] else [⟨23, 2, 0, 0, 0⟩, ⟨23, d, 0, 0, 0⟩, zw, zw]
def hwC (n : Nat) : List (List In5) := hwL :: List.replicate n zB
def hwD (n k d : Nat) : List (List In5) := hwC n ++ [hwB k d]
theorem hw_ok : ∀ n : Fin 5, ∀ k : Fin 3, ∀ d : Fin 2, cOk (hwD n.1 k.1 (2 + d.1)) = true := by decide +kernel
theorem hw_vcc {n k d : Nat} (hn : n < 5) (hk : k < 3) (hd : d < 2) : Vcc (hwD n k (2 + d)) := cok_vcc (hw_ok ⟨n, hn⟩ ⟨k, hk⟩ ⟨d, hd⟩)
theorem hwC_succ (n : Nat) : hwC (n + 1) = hwC n ++ [zB] := by unfold hwC; rw [List.replicate_succ']; rfl
theorem hwC_len (n : Nat) : (hwC n).length = n + 1 := by simp [hwC]
theorem hwD_len (n k d : Nat) : (hwD n k d).length = n + 2 := by simp [hwD, hwC]
/-- Instructions by whole numbers. -/
def r6 (o d a b m : Int) : In6 := ⟨o, d, a, b, m, ⟨#[]⟩⟩
def x4 (p q r s : In6) (k : Nat) : In6 := if k = 0 then p else if k = 1 then q else if k = 2 then r else s
def zr : In6 := r6 0 0 0 0 0
def hwX (k : Nat) (e : Int) : Nat → In6 := if k = 0 then x4 (r6 23 3 0 0 0) zr zr zr else if k = 1 then x4 zr (r6 21 3 0 0 0) zr zr else x4 (r6 23 2 0 0 0) (r6 23 e 0 0 0) zr zr
def hwK (e : Int) : Array Value := #[.int .i64 23, .int .i64 3, .int .i64 0, .int .i64 0, .int .i64 0, .string ⟨#[]⟩, .int .i64 0, .int .i64 0, .int .i64 0, .int .i64 0, .int .i64 0, .string ⟨#[]⟩, .int .i64 0, .int .i64 0, .int .i64 0, .int .i64 0, .int .i64 0, .string ⟨#[]⟩, .int .i64 0, .int .i64 0, .int .i64 0, .int .i64 0, .int .i64 0, .string ⟨#[]⟩, .int .i64 0, .int .i64 0, .int .i64 0, .int .i64 0, .int .i64 0, .string ⟨#[]⟩, .int .i64 21, .int .i64 3, .int .i64 0, .int .i64 0, .int .i64 0, .string ⟨#[]⟩, .int .i64 0, .int .i64 0, .int .i64 0, .int .i64 0, .int .i64 0, .string ⟨#[]⟩, .int .i64 0, .int .i64 0, .int .i64 0, .int .i64 0, .int .i64 0, .string ⟨#[]⟩, .int .i64 23, .int .i64 2, .int .i64 0, .int .i64 0, .int .i64 0, .string ⟨#[]⟩, .int .i64 23, .int .i64 e, .int .i64 0, .int .i64 0, .int .i64 0, .string ⟨#[]⟩, .int .i64 0, .int .i64 0, .int .i64 0, .int .i64 0, .int .i64 0, .string ⟨#[]⟩, .int .i64 0, .int .i64 0, .int .i64 0, .int .i64 0, .int .i64 0, .string ⟨#[]⟩]
theorem hwK_at0 (e : Int) : ((hwK e).toList.drop (0 * 24)).take 24 = (bcs (hwX 0 e)).toList := rfl
theorem hwK_at1 (e : Int) : ((hwK e).toList.drop (1 * 24)).take 24 = (bcs (hwX 1 e)).toList := rfl
theorem hwK_at2 (e : Int) : ((hwK e).toList.drop (2 * 24)).take 24 = (bcs (hwX 2 e)).toList := rfl
theorem hwK_at {k : Nat} (hk : k < 3) (e : Int) : ((hwK e).toList.drop (k * 24)).take 24 = (bcs (hwX k e)).toList := by
  obtain rfl | rfl | rfl : k = 0 ∨ k = 1 ∨ k = 2 := by omega
  · exact hwK_at0 e
  · exact hwK_at1 e
  · exact hwK_at2 e
theorem hwX_flat {k d : Nat} (hk : k < 3) : (bcs (hwX k ((2 + d : Nat) : Int))).toList = flatB [hwB k (2 + d)] := by
  obtain rfl | rfl | rfl : k = 0 ∨ k = 1 ∨ k = 2 := by omega
  · rfl
  · rfl
  · rfl
set_option maxRecDepth 40000 in
set_option maxHeartbeats 8000000 in
theorem hazardWrites_walk (v : Value) (w : World) (T : Tab w) (H : Asked v) : Calls Tryz.prog 7 #[v] w (BoolBelow true w) := by
  obtain ⟨A0, A1, A2, A3, A4, A5, A6, A8, n0, c0, n1, c1, n2, c2, n3, c3, n4, c4, n5, c5, n6, c6, n8, c8, tk, pc, stop, j, d, rfl, b8⟩ := H
  have TT := Lib.hid T
  have n80 : (0 : Int) ≤ (n8 : Int) := by omega
  have n81 : (n8 : Int) ≤ 1125899906842624 := by omega
  clear T b8
  have X0 := Lib.hid (show BK 29 (w.alloc (.cells #[.slice A0 n0 c0, .slice A1 n1 c1, .slice A2 n2 c2, .slice A3 n3 c3, .int .i64 tk, .slice A4 n4 c4, .int .i64 pc, .slice A5 n5 c5, .int .i64 stop, .slice A6 n6 c6, .int .i64 j, .int .i64 d, .slice A8 n8 c8] 29)) w.heap.size #[.slice A0 n0 c0, .slice A1 n1 c1, .slice A2 n2 c2, .slice A3 n3 c3, .int .i64 tk, .slice A4 n4 c4, .int .i64 pc, .slice A5 n5 c5, .int .i64 stop, .slice A6 n6 c6, .int .i64 j, .int .i64 d, .slice A8 n8 c8] from heap_alloc_new w _)
  have G0 := Lib.hid (below_new w (.cells #[.slice A0 n0 c0, .slice A1 n1 c1, .slice A2 n2 c2, .slice A3 n3 c3, .int .i64 tk, .slice A4 n4 c4, .int .i64 pc, .slice A5 n5 c5, .int .i64 stop, .slice A6 n6 c6, .int .i64 j, .int .i64 d, .slice A8 n8 c8] 29))
  go_enter Tryz.func7, Tryz.ntmps7
  go_wp2_with fail
  go_loopg [3] 5 (fun gk o wr2 => ∃ n : Nat, n ≤ 5 ∧ gk = 5 - n ∧ o = .int .i64 n ∧ Below w.heap.size w wr2 ∧ BK 29 wr2 w.heap.size #[.slice A0 n0 c0, .slice A1 n1 c1, .slice A2 n2 c2, .slice A3 n3 c3, .int .i64 tk, .slice A4 n4 c4, .int .i64 pc, .slice A5 n5 c5, .int .i64 stop, .slice A6 n6 c6, .int .i64 j, .int .i64 d, .slice A8 n8 c8])
  case atStart => exact ⟨0, by omega, rfl, rfl, G0.out, X0.out⟩
  case round =>
    clear X0 G0
    obtain ⟨n, hn, rfl, rfl, hb, hk⟩ := hrel
    have HB := Lib.hid hb
    have XX := Lib.hid hk
    clear hb hk
    by_cases hlt : n < 5
    · have hd : decide ((n : Int) < 5) = true := by simp; omega
      go_wp2_with fail
      go_loopg [4] 3 (fun gk o wr2 => ∃ k : Nat, k ≤ 3 ∧ gk = 3 - k ∧ o = .int .i64 k ∧ Below w.heap.size w wr2 ∧ BK 29 wr2 w.heap.size #[.slice A0 n0 c0, .slice A1 n1 c1, .slice A2 n2 c2, .slice A3 n3 c3, .int .i64 tk, .slice A4 n4 c4, .int .i64 pc, .slice A5 n5 c5, .int .i64 stop, .slice A6 n6 c6, .int .i64 j, .int .i64 d, .slice A8 n8 c8])
      case atStart => exact ⟨0, by omega, rfl, rfl, HB.out, XX.out⟩
      case round =>
        clear HB XX
        obtain ⟨k, hk3, rfl, rfl, hb, hk⟩ := hrel
        have HB := Lib.hid hb
        have XX := Lib.hid hk
        have hwz := hk.lt
        clear hb hk
        by_cases hlk : k < 3
        · have hdk : decide ((k : Int) < 3) = true := by simp; omega
          go_wp2_with ((with_reducible refine buildB (o := ⟨some 19, .buildSlice 22 1 _, _, _, _, none⟩) rfl 1 _ rfl (flatB [hwL]).toArray (by decide) (by decide) ?kf ?_); (case kf => kernel_rfl); intro wl hk9 hb9 hz9; have OL := Lib.hid (own_of_bk (C := [hwL]) (B := wr.heap.size) rfl hk9 rfl (Nat.le_refl _) (by decide)); have BLL := Lib.hid hb9; clear hk9 hb9 hz9)
          generalize hbz : wr.heap.size = bz at *
          have BZ := Lib.hid hbz
          clear hbz
          go_loopg [5, 6] n (fun gk l o wr2 => ∃ (i : Nat) (va : Option Addr) (cc : Nat), i ≤ n ∧ gk = n - i ∧ l = .slice va (i + 1) cc ∧ o = .int .i64 i ∧ wr2.ownsRow bz 58 24 (.slice va (i + 1) cc) (i + 1) (flatB (hwC i)) ∧ Below bz wr wr2)
          case atStart => exact ⟨0, _, _, by omega, rfl, rfl, rfl, OL.out, BLL.out⟩
          case round =>
            clear OL BLL
            obtain ⟨i, va, cc, hi, rfl, rfl, rfl, hown, hb⟩ := hrel
            have OWN := Lib.hid hown
            have DB := Lib.hid hb
            have hbs := hb.size
            clear hown hb
            by_cases hli : i < n
            · have hdi : decide ((i : Int) < (n : Int)) = true := by simpa using hli
              go_wp2_with (first | ((with_reducible refine buildB (o := ⟨some 27, .buildSlice 22 1 _, _, _, _, none⟩) rfl 1 _ rfl (flatB [zB]).toArray (by decide) (by decide) ?kf ?_); (case kf => kernel_rfl); intro w8 hk8 hb8 hz8; have K8 := Lib.hid hk8; have B8 := Lib.hid hb8; have Z8 := Lib.hid hz8; clear hk8 hb8 hz8) | (at_builtin; refine app24 rfl _ _ rfl w8 bz (i + 1) cc va (hwC i) zB rfl (own_bel OWN.out B8.out) (by omega) wr.heap.size rfl _ K8.out rfl (by have := B8.out.size; have := BZ.out; omega) ?_; intro g9 cap9 w9 hown9 hg9; have O9 := Lib.hid hown9; have B9 := Lib.hid ((B8.out.mono (by have := BZ.out; omega)).grown hg9 (by have := B8.out.size; have := BZ.out; omega) (fun k hk => (OWN.out.lt k (by rw [own_ob]; exact hk)).1)); clear hown9 hg9))
              go_roundg (n - (i + 1))
              case measure => omega
              case rel => exact ⟨i + 1, some ⟨g9, 0, none⟩, cap9, by omega, rfl, rfl, by go_num, by rw [hwC_succ]; exact O9.out, DB.out.trans B9.out⟩
            · have hdi : decide ((i : Int) < (n : Int)) = false := by simp; omega
              have hin : n = i := by omega
              subst hin
              have XI := Lib.hid (XX.out.belowB DB.out hwz)
              have HI := Lib.hid (HB.out.trans (DB.out.mono (by omega)))
              have x12 : wr.cell? ⟨w.heap.size, 12, none⟩ = some (.slice A8 n8 c8) := XI.out.cell 12
              obtain ⟨dd, hd2, he⟩ : ∃ dd : Nat, dd < 2 ∧ 2 + ((n8 : Int) + (n : Int)) % 2 = ((2 + dd : Nat) : Int) := ⟨(((n8 : Int) + (n : Int)) % 2).toNat, by omega, by omega⟩
              have HE := Lib.hid he
              clear he
              have VC := Lib.hid (hw_vcc (n := n) (k := k) (d := dd) (by omega) hlk hd2)
              have k0 : (0 : Int) ≤ (k : Int) := by omega
              have k1 : (k : Int) < 3 := by omega
              go_wp2_with (first | ((with_reducible refine buildB (o := ⟨some 45, .buildSlice 22 3 _, _, _, _, none⟩) rfl 3 _ rfl (hwK (2 + ((n8 : Int) + (n : Int)) % 2)) (by decide) (by decide) ?kf ?_); (case kf => kernel_rfl); intro w5 hk5 hb5 hz5; have K5 := Lib.hid (bat_of hk5 _ (hwK_at hlk (2 + ((n8 : Int) + (n : Int)) % 2))); have L5 := Lib.hid hk5.lt; have B5 := Lib.hid hb5; clear hk5 hb5 hz5) | ((with_reducible refine wpList_load_at (op := ⟨some 48, .load 58 _, _, _, _, none⟩) rfl _ rfl ⟨wr.heap.size, k * 24, none⟩ (hwX k (2 + ((n8 : Int) + (n : Int)) % 2)) ?lx ?lb ?_); (case lx => rfl); (case lb => exact K5.out)) | ((with_reducible refine buildB (o := ⟨some 49, .buildSlice 22 1 _, _, _, _, none⟩) rfl 1 _ rfl (bcs (hwX k (2 + ((n8 : Int) + (n : Int)) % 2))) (by decide) (by decide) ?kf ?_); (case kf => kernel_rfl); intro w6 hk6 hb6 hz6; have K6 := Lib.hid hk6; have B6 := Lib.hid (B5.out.trans (hb6.mono B5.out.size)); clear hk6 hb6 hz6) | (at_builtin; refine app24 rfl _ _ rfl w6 bz (n + 1) cc va (hwC n) (hwB k (2 + dd)) rfl (own_bel OWN.out B6.out) (by omega) w5.heap.size rfl _ K6.out (by rw [HE.out]; exact hwX_flat hlk) (by have := B6.out.size; have := BZ.out; omega) ?_; intro g9 cap9 w9 hown9 hg9; have O9 := Lib.hid hown9; have B9 := Lib.hid ((B6.out.mono (by have := BZ.out; omega)).grown hg9 (by have := B6.out.size; have := BZ.out; omega) (fun k hk => (OWN.out.lt k (by rw [own_ob]; exact hk)).1)); clear hown9 hg9))

              have H9 := Lib.hid (HI.out.trans (B9.out.mono (by omega)))
              have X9 := Lib.hid (XI.out.belowB B9.out hwz)
              refine (found_any _ (hwD n k (2 + dd)) _ (own_rdc O9.out (hwD_len _ _ _) (by omega)) VC.out (TT.out.below H9.out)).mono ?_
              rintro en w7 ⟨rfl, b7⟩
              have M7 := Lib.hid b7
              clear b7
              go_wp2_with fail
              go_roundg (3 - (k + 1))
              case measure => omega
              case rel => exact ⟨k + 1, by omega, rfl, by go_num, H9.out.trans (M7.out.mono H9.out.size), X9.out.below M7.out⟩
        · have hdk : decide ((k : Int) < 3) = false := by simp; omega
          go_wp2_with fail
          go_roundg (5 - (n + 1))
          case measure => omega
          case rel => exact ⟨n + 1, by omega, rfl, by go_num, HB.out, XX.out⟩
    · have hd : decide ((n : Int) < 5) = false := by simp; omega
      have WKE := Lib.hid (wakes7_any wr (TT.out.below HB.out))
      go_wp2_with (go_at_call 28; refine WKE.out.mono ?_; rintro en w' ⟨rfl, bz⟩)
      go_ret
      exact ⟨rfl, HB.out.trans (bz.mono HB.out.size)⟩
end Go.Proofs.YtbgmdikcbglpiaaGreatDoor
