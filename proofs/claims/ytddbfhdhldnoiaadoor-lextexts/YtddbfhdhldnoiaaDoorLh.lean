/-
  Contract of the page: the word that a text begins with: a sign, none, and all ways together. It makes new memory alone.
-/
import Derived.Test.YtddbfhdhldnoiaaDoorLg
import Derived.Lib.SlBytesConst
namespace Go.Proofs.YtddbfhdhldnoiaaDoor
open Go.RowKit

/-- What a sign's text tells. -/
def sgT (c : UInt8) : Tk := if sgn c then ⟨3, [c], 0, 0⟩ else Tk.none
def sgE (c : UInt8) : Int := if sgn c then 1 else 0
theorem sg_yes {c : UInt8} (h : sgn c = true) : sgT c = ⟨3, [c], 0, 0⟩ ∧ sgE c = 1 := by unfold sgT sgE; rw [if_pos h, if_pos h]; exact ⟨rfl, rfl⟩
theorem sg_no {c : UInt8} (h : sgn c = false) : sgT c = Tk.none ∧ sgE c = 0 := by unfold sgT sgE; rw [if_neg (by simp [h]), if_neg (by simp [h])]; exact ⟨rfl, rfl⟩
theorem sg_at (c d : UInt8) (h : (c.toNat : Int) = (d.toNat : Int)) (hd : sgn d = true) : sgn c = true := by
  have : c = d := UInt8.toNat_inj.1 (by omega)
  rw [this]; exact hd
theorem sg_none {c : UInt8} (h : (c.toNat : Int) ≠ 44 ∧ (c.toNat : Int) ≠ 58 ∧ (c.toNat : Int) ≠ 43 ∧ (c.toNat : Int) ≠ 45 ∧ (c.toNat : Int) ≠ 42 ∧ (c.toNat : Int) ≠ 40 ∧ (c.toNat : Int) ≠ 41 ∧ (c.toNat : Int) ≠ 64) : sgn c = false := by
  unfold sgn sgs
  rw [Bool.eq_false_iff]
  intro hc
  simp only [List.contains_cons, List.contains_nil, Bool.or_false, Bool.or_eq_true, beq_iff_eq] at hc
  obtain ⟨h0, h1, h2, h3, h4, h5, h6, h7⟩ := h
  rcases hc with rfl | rfl | rfl | rfl | rfl | rfl | rfl | rfl
  · exact h0 rfl
  · exact h1 rfl
  · exact h2 rfl
  · exact h3 rfl
  · exact h4 rfl
  · exact h5 rfl
  · exact h6 rfl
  · exact h7 rfl
set_option maxRecDepth 20000 in
/-- None of the first k signs. -/
def Nq (c : UInt8) (k : Nat) : Prop := ∀ i, i < k → (c.toNat : Int) ≠ ((sgs.getD i 0).toNat : Int)
theorem nq_succ {c : UInt8} (k : Nat) (h : Nq c k) (hk : (c.toNat : Int) ≠ ((sgs.getD k 0).toNat : Int)) : Nq c (k + 1) := fun i hi => by
  by_cases h2 : i = k
  · subst h2; exact hk
  · exact h i (by omega)
theorem nq_all {c : UInt8} (h : Nq c 8) : (c.toNat : Int) ≠ 44 ∧ (c.toNat : Int) ≠ 58 ∧ (c.toNat : Int) ≠ 43 ∧ (c.toNat : Int) ≠ 45 ∧ (c.toNat : Int) ≠ 42 ∧ (c.toNat : Int) ≠ 40 ∧ (c.toNat : Int) ≠ 41 ∧ (c.toNat : Int) ≠ 64 := ⟨h 0 (by decide), h 1 (by decide), h 2 (by decide), h 3 (by decide), h 4 (by decide), h 5 (by decide), h 6 (by decide), h 7 (by decide)⟩
set_option maxRecDepth 20000 in
set_option maxHeartbeats 2000000 in
theorem one_sign (s : ByteArray) (w : World) (hs : s.size ≤ maxLen) (hk : 0 < s.size) (hl : ltI (s[0].toNat : Int) = false) (hd : dgI (s[0].toNat : Int) = false) :
    Calls Tryd.prog 37 #[.string s] w (TkPost (sgT s[0]) (sgE s[0]) w) := by
  unfold maxLen at hs
  have EX := Lib.hid (ext_one s 0 hk)
  have hk1 : (1 : Int) ≤ (s.size : Int) := by omega
  have hcv : (convert 42 42 (.slice (some ⟨w.heap.size + 1, 0, none⟩) 8 8)).run Tryd.prog ((w.alloc (.cells #[.int .i64 0, .string ⟨#[]⟩, .int .i64 0, .int .i64 0] 47)).alloc (.cells #[.int .u8 44, .int .u8 58, .int .u8 43, .int .u8 45, .int .u8 42, .int .u8 40, .int .u8 41, .int .u8 64] 5)) = .ok (.slice (some ⟨w.heap.size + 1, 0, none⟩) 8 8) ((w.alloc (.cells #[.int .i64 0, .string ⟨#[]⟩, .int .i64 0, .int .i64 0] 47)).alloc (.cells #[.int .u8 44, .int .u8 58, .int .u8 43, .int .u8 45, .int .u8 42, .int .u8 40, .int .u8 41, .int .u8 64] 5 (8, 9))) := by
    have h := Lib.run_convert_bytes_const (P := Tryd.prog) (w.alloc (.cells #[.int .i64 0, .string ⟨#[]⟩, .int .i64 0, .int .i64 0] 47)) 42 5 #[.int .u8 44, .int .u8 58, .int .u8 43, .int .u8 45, .int .u8 42, .int .u8 40, .int .u8 41, .int .u8 64] 8 8 Tryd.underlying42 Tryd.underlying5
    simpa using h
  have HM := heap_alloc_new (w.alloc (.cells #[.int .i64 0, .string ⟨#[]⟩, .int .i64 0, .int .i64 0] 47)) (.cells #[.int .u8 44, .int .u8 58, .int .u8 43, .int .u8 45, .int .u8 42, .int .u8 40, .int .u8 41, .int .u8 64] 5 (8, 9))
  rw [show (w.alloc (.cells #[.int .i64 0, .string ⟨#[]⟩, .int .i64 0, .int .i64 0] 47)).heap.size = w.heap.size + 1 by simp] at HM
  have KZ := Lib.hid (show BK 47 ((w.alloc (.cells #[.int .i64 0, .string ⟨#[]⟩, .int .i64 0, .int .i64 0] 47)).alloc (.cells #[.int .u8 44, .int .u8 58, .int .u8 43, .int .u8 45, .int .u8 42, .int .u8 40, .int .u8 41, .int .u8 64] 5 (8, 9))) w.heap.size #[.int .i64 0, .string ⟨#[]⟩, .int .i64 0, .int .i64 0] from BK.alloc (heap_alloc_new w _) _)
  have BW := Lib.hid ((below_new w (.cells #[.int .i64 0, .string ⟨#[]⟩, .int .i64 0, .int .i64 0] 47)).alloc (by simp) (.cells #[.int .u8 44, .int .u8 58, .int .u8 43, .int .u8 45, .int .u8 42, .int .u8 40, .int .u8 41, .int .u8 64] 5 (8, 9)))
  have CL := Lib.hid (fun j => cell_of_row ((w.alloc (.cells #[.int .i64 0, .string ⟨#[]⟩, .int .i64 0, .int .i64 0] 47)).alloc (.cells #[.int .u8 44, .int .u8 58, .int .u8 43, .int .u8 45, .int .u8 42, .int .u8 40, .int .u8 41, .int .u8 64] 5 (8, 9))) (w.heap.size + 1) j _ 5 (8, 9) HM)
  clear HM
  have YS := Lib.hid (@sg_yes s[0])
  have NS := Lib.hid (@sg_no s[0])
  have SA := Lib.hid (sg_at s[0])
  have SN := Lib.hid (@sg_none s[0])
  generalize sgT s[0] = RT at *
  generalize sgE s[0] = RE at *
  go_enter Tryd.func37, Tryd.ntmps37
  go_wp2_with (first | (go_at_call 50; refine (rletter_any _ _).mono ?_; rintro e w' ⟨rfl, rfl⟩) | (go_at_call 51; refine (rdig_any _ _).mono ?_; rintro e w' ⟨rfl, rfl⟩))
  clear hl hd hcv
  generalize (w.alloc (.cells #[.int .i64 0, .string ⟨#[]⟩, .int .i64 0, .int .i64 0] 47)).alloc (.cells #[.int .u8 44, .int .u8 58, .int .u8 43, .int .u8 45, .int .u8 42, .int .u8 40, .int .u8 41, .int .u8 64] 5 (8, 9)) = W2 at *
  go_loop [99] (fun o => ∃ k : Nat, k ≤ 8 ∧ o = .int .i64 k ∧ Nq s[0] k) (fun o => 8 - (intOf o).toNat)
  case atStart => exact ⟨0, by decide, rfl, fun i hi => absurd hi (Nat.not_lt_zero _)⟩
  case round =>
    obtain ⟨k, hk8, rfl, hq⟩ := hrel
    have HQ := Lib.hid hq
    clear hq
    obtain rfl | rfl | rfl | rfl | rfl | rfl | rfl | rfl | rfl : k = 0 ∨ k = 1 ∨ k = 2 ∨ k = 3 ∨ k = 4 ∨ k = 5 ∨ k = 6 ∨ k = 7 ∨ k = 8 := by omega
    · clear hk8
      have cl : W2.cell? ⟨w.heap.size + 1, 0, none⟩ = some (.int .u8 44) := CL.out 0
      by_cases hc : (s[0].toNat : Int) = 44
      · have e1 : ((44 : Int) == (s[0].toNat : Int)) = true := by rw [hc]; rfl
        have RT1 := Lib.hid (YS.out (SA.out 44 hc rfl))
        clear hc
        go_wp2_with ((with_reducible refine wpList_store_bk (T := 47) (op := ⟨none, .store 47 _ _, _, _, _, none⟩) rfl _ _ rfl Tryd.size47 w.heap.size #[.int .i64 0, .string ⟨#[]⟩, .int .i64 0, .int .i64 0] #[.int .i64 3, .string (s.extract 0 1), .int .i64 0, .int .i64 0] ?sx ?sy ?sb ?s1 ?s2 ?s3 ?_); (case sx => rfl); (case sy => rfl); (case s1 => rfl); (case s2 => rfl); (case s3 => kernel_rfl); (case sb => exact KZ.out))
        intro w2 hbl hg hsz
        have K2 := Lib.hid hbl
        have B2 := Lib.hid (BW.out.trans (gb_below hg (Nat.le_refl _) BW.out.size))
        clear hbl hg hsz
        go_wp2_with fail
        refine bodyPost_ret (v := .tuple #[.agg #[.int .i64 3, .string (s.extract 0 1), .int .i64 0, .int .i64 0], .int .i64 1]) ?_ rfl (tk_mk (by rw [RT1.out.1, EX.out]; rfl) (by rw [RT1.out.2]) B2.out)
        rw [results_cell_tmp Tryd.results37]
        have LD := K2.out.load Tryd.underlying47 Tryd.size47 rfl
        simp [asAddr, Result.andThen, LD]
      · have e1 : ((44 : Int) == (s[0].toNat : Int)) = false := by rw [beq_eq_false_iff_ne]; omega
        have HQ2 := Lib.hid (nq_succ 0 HQ.out (by show (s[0].toNat : Int) ≠ ((sgs.getD 0 0).toNat : Int); exact hc))
        clear hc
        go_wp2
        go_round
        case rel => exact ⟨1, by decide, rfl, HQ2.out⟩
        case measure => decide
    · clear hk8
      have cl : W2.cell? ⟨w.heap.size + 1, 1, none⟩ = some (.int .u8 58) := CL.out 1
      by_cases hc : (s[0].toNat : Int) = 58
      · have e1 : ((58 : Int) == (s[0].toNat : Int)) = true := by rw [hc]; rfl
        have RT1 := Lib.hid (YS.out (SA.out 58 hc rfl))
        clear hc
        go_wp2_with ((with_reducible refine wpList_store_bk (T := 47) (op := ⟨none, .store 47 _ _, _, _, _, none⟩) rfl _ _ rfl Tryd.size47 w.heap.size #[.int .i64 0, .string ⟨#[]⟩, .int .i64 0, .int .i64 0] #[.int .i64 3, .string (s.extract 0 1), .int .i64 0, .int .i64 0] ?sx ?sy ?sb ?s1 ?s2 ?s3 ?_); (case sx => rfl); (case sy => rfl); (case s1 => rfl); (case s2 => rfl); (case s3 => kernel_rfl); (case sb => exact KZ.out))
        intro w2 hbl hg hsz
        have K2 := Lib.hid hbl
        have B2 := Lib.hid (BW.out.trans (gb_below hg (Nat.le_refl _) BW.out.size))
        clear hbl hg hsz
        go_wp2_with fail
        refine bodyPost_ret (v := .tuple #[.agg #[.int .i64 3, .string (s.extract 0 1), .int .i64 0, .int .i64 0], .int .i64 1]) ?_ rfl (tk_mk (by rw [RT1.out.1, EX.out]; rfl) (by rw [RT1.out.2]) B2.out)
        rw [results_cell_tmp Tryd.results37]
        have LD := K2.out.load Tryd.underlying47 Tryd.size47 rfl
        simp [asAddr, Result.andThen, LD]
      · have e1 : ((58 : Int) == (s[0].toNat : Int)) = false := by rw [beq_eq_false_iff_ne]; omega
        have HQ2 := Lib.hid (nq_succ 1 HQ.out (by show (s[0].toNat : Int) ≠ ((sgs.getD 1 0).toNat : Int); exact hc))
        clear hc
        go_wp2
        go_round
        case rel => exact ⟨2, by decide, rfl, HQ2.out⟩
        case measure => decide
    · clear hk8
      have cl : W2.cell? ⟨w.heap.size + 1, 2, none⟩ = some (.int .u8 43) := CL.out 2
      by_cases hc : (s[0].toNat : Int) = 43
      · have e1 : ((43 : Int) == (s[0].toNat : Int)) = true := by rw [hc]; rfl
        have RT1 := Lib.hid (YS.out (SA.out 43 hc rfl))
        clear hc
        go_wp2_with ((with_reducible refine wpList_store_bk (T := 47) (op := ⟨none, .store 47 _ _, _, _, _, none⟩) rfl _ _ rfl Tryd.size47 w.heap.size #[.int .i64 0, .string ⟨#[]⟩, .int .i64 0, .int .i64 0] #[.int .i64 3, .string (s.extract 0 1), .int .i64 0, .int .i64 0] ?sx ?sy ?sb ?s1 ?s2 ?s3 ?_); (case sx => rfl); (case sy => rfl); (case s1 => rfl); (case s2 => rfl); (case s3 => kernel_rfl); (case sb => exact KZ.out))
        intro w2 hbl hg hsz
        have K2 := Lib.hid hbl
        have B2 := Lib.hid (BW.out.trans (gb_below hg (Nat.le_refl _) BW.out.size))
        clear hbl hg hsz
        go_wp2_with fail
        refine bodyPost_ret (v := .tuple #[.agg #[.int .i64 3, .string (s.extract 0 1), .int .i64 0, .int .i64 0], .int .i64 1]) ?_ rfl (tk_mk (by rw [RT1.out.1, EX.out]; rfl) (by rw [RT1.out.2]) B2.out)
        rw [results_cell_tmp Tryd.results37]
        have LD := K2.out.load Tryd.underlying47 Tryd.size47 rfl
        simp [asAddr, Result.andThen, LD]
      · have e1 : ((43 : Int) == (s[0].toNat : Int)) = false := by rw [beq_eq_false_iff_ne]; omega
        have HQ2 := Lib.hid (nq_succ 2 HQ.out (by show (s[0].toNat : Int) ≠ ((sgs.getD 2 0).toNat : Int); exact hc))
        clear hc
        go_wp2
        go_round
        case rel => exact ⟨3, by decide, rfl, HQ2.out⟩
        case measure => decide
    · clear hk8
      have cl : W2.cell? ⟨w.heap.size + 1, 3, none⟩ = some (.int .u8 45) := CL.out 3
      by_cases hc : (s[0].toNat : Int) = 45
      · have e1 : ((45 : Int) == (s[0].toNat : Int)) = true := by rw [hc]; rfl
        have RT1 := Lib.hid (YS.out (SA.out 45 hc rfl))
        clear hc
        go_wp2_with ((with_reducible refine wpList_store_bk (T := 47) (op := ⟨none, .store 47 _ _, _, _, _, none⟩) rfl _ _ rfl Tryd.size47 w.heap.size #[.int .i64 0, .string ⟨#[]⟩, .int .i64 0, .int .i64 0] #[.int .i64 3, .string (s.extract 0 1), .int .i64 0, .int .i64 0] ?sx ?sy ?sb ?s1 ?s2 ?s3 ?_); (case sx => rfl); (case sy => rfl); (case s1 => rfl); (case s2 => rfl); (case s3 => kernel_rfl); (case sb => exact KZ.out))
        intro w2 hbl hg hsz
        have K2 := Lib.hid hbl
        have B2 := Lib.hid (BW.out.trans (gb_below hg (Nat.le_refl _) BW.out.size))
        clear hbl hg hsz
        go_wp2_with fail
        refine bodyPost_ret (v := .tuple #[.agg #[.int .i64 3, .string (s.extract 0 1), .int .i64 0, .int .i64 0], .int .i64 1]) ?_ rfl (tk_mk (by rw [RT1.out.1, EX.out]; rfl) (by rw [RT1.out.2]) B2.out)
        rw [results_cell_tmp Tryd.results37]
        have LD := K2.out.load Tryd.underlying47 Tryd.size47 rfl
        simp [asAddr, Result.andThen, LD]
      · have e1 : ((45 : Int) == (s[0].toNat : Int)) = false := by rw [beq_eq_false_iff_ne]; omega
        have HQ2 := Lib.hid (nq_succ 3 HQ.out (by show (s[0].toNat : Int) ≠ ((sgs.getD 3 0).toNat : Int); exact hc))
        clear hc
        go_wp2
        go_round
        case rel => exact ⟨4, by decide, rfl, HQ2.out⟩
        case measure => decide
    · clear hk8
      have cl : W2.cell? ⟨w.heap.size + 1, 4, none⟩ = some (.int .u8 42) := CL.out 4
      by_cases hc : (s[0].toNat : Int) = 42
      · have e1 : ((42 : Int) == (s[0].toNat : Int)) = true := by rw [hc]; rfl
        have RT1 := Lib.hid (YS.out (SA.out 42 hc rfl))
        clear hc
        go_wp2_with ((with_reducible refine wpList_store_bk (T := 47) (op := ⟨none, .store 47 _ _, _, _, _, none⟩) rfl _ _ rfl Tryd.size47 w.heap.size #[.int .i64 0, .string ⟨#[]⟩, .int .i64 0, .int .i64 0] #[.int .i64 3, .string (s.extract 0 1), .int .i64 0, .int .i64 0] ?sx ?sy ?sb ?s1 ?s2 ?s3 ?_); (case sx => rfl); (case sy => rfl); (case s1 => rfl); (case s2 => rfl); (case s3 => kernel_rfl); (case sb => exact KZ.out))
        intro w2 hbl hg hsz
        have K2 := Lib.hid hbl
        have B2 := Lib.hid (BW.out.trans (gb_below hg (Nat.le_refl _) BW.out.size))
        clear hbl hg hsz
        go_wp2_with fail
        refine bodyPost_ret (v := .tuple #[.agg #[.int .i64 3, .string (s.extract 0 1), .int .i64 0, .int .i64 0], .int .i64 1]) ?_ rfl (tk_mk (by rw [RT1.out.1, EX.out]; rfl) (by rw [RT1.out.2]) B2.out)
        rw [results_cell_tmp Tryd.results37]
        have LD := K2.out.load Tryd.underlying47 Tryd.size47 rfl
        simp [asAddr, Result.andThen, LD]
      · have e1 : ((42 : Int) == (s[0].toNat : Int)) = false := by rw [beq_eq_false_iff_ne]; omega
        have HQ2 := Lib.hid (nq_succ 4 HQ.out (by show (s[0].toNat : Int) ≠ ((sgs.getD 4 0).toNat : Int); exact hc))
        clear hc
        go_wp2
        go_round
        case rel => exact ⟨5, by decide, rfl, HQ2.out⟩
        case measure => decide
    · clear hk8
      have cl : W2.cell? ⟨w.heap.size + 1, 5, none⟩ = some (.int .u8 40) := CL.out 5
      by_cases hc : (s[0].toNat : Int) = 40
      · have e1 : ((40 : Int) == (s[0].toNat : Int)) = true := by rw [hc]; rfl
        have RT1 := Lib.hid (YS.out (SA.out 40 hc rfl))
        clear hc
        go_wp2_with ((with_reducible refine wpList_store_bk (T := 47) (op := ⟨none, .store 47 _ _, _, _, _, none⟩) rfl _ _ rfl Tryd.size47 w.heap.size #[.int .i64 0, .string ⟨#[]⟩, .int .i64 0, .int .i64 0] #[.int .i64 3, .string (s.extract 0 1), .int .i64 0, .int .i64 0] ?sx ?sy ?sb ?s1 ?s2 ?s3 ?_); (case sx => rfl); (case sy => rfl); (case s1 => rfl); (case s2 => rfl); (case s3 => kernel_rfl); (case sb => exact KZ.out))
        intro w2 hbl hg hsz
        have K2 := Lib.hid hbl
        have B2 := Lib.hid (BW.out.trans (gb_below hg (Nat.le_refl _) BW.out.size))
        clear hbl hg hsz
        go_wp2_with fail
        refine bodyPost_ret (v := .tuple #[.agg #[.int .i64 3, .string (s.extract 0 1), .int .i64 0, .int .i64 0], .int .i64 1]) ?_ rfl (tk_mk (by rw [RT1.out.1, EX.out]; rfl) (by rw [RT1.out.2]) B2.out)
        rw [results_cell_tmp Tryd.results37]
        have LD := K2.out.load Tryd.underlying47 Tryd.size47 rfl
        simp [asAddr, Result.andThen, LD]
      · have e1 : ((40 : Int) == (s[0].toNat : Int)) = false := by rw [beq_eq_false_iff_ne]; omega
        have HQ2 := Lib.hid (nq_succ 5 HQ.out (by show (s[0].toNat : Int) ≠ ((sgs.getD 5 0).toNat : Int); exact hc))
        clear hc
        go_wp2
        go_round
        case rel => exact ⟨6, by decide, rfl, HQ2.out⟩
        case measure => decide
    · clear hk8
      have cl : W2.cell? ⟨w.heap.size + 1, 6, none⟩ = some (.int .u8 41) := CL.out 6
      by_cases hc : (s[0].toNat : Int) = 41
      · have e1 : ((41 : Int) == (s[0].toNat : Int)) = true := by rw [hc]; rfl
        have RT1 := Lib.hid (YS.out (SA.out 41 hc rfl))
        clear hc
        go_wp2_with ((with_reducible refine wpList_store_bk (T := 47) (op := ⟨none, .store 47 _ _, _, _, _, none⟩) rfl _ _ rfl Tryd.size47 w.heap.size #[.int .i64 0, .string ⟨#[]⟩, .int .i64 0, .int .i64 0] #[.int .i64 3, .string (s.extract 0 1), .int .i64 0, .int .i64 0] ?sx ?sy ?sb ?s1 ?s2 ?s3 ?_); (case sx => rfl); (case sy => rfl); (case s1 => rfl); (case s2 => rfl); (case s3 => kernel_rfl); (case sb => exact KZ.out))
        intro w2 hbl hg hsz
        have K2 := Lib.hid hbl
        have B2 := Lib.hid (BW.out.trans (gb_below hg (Nat.le_refl _) BW.out.size))
        clear hbl hg hsz
        go_wp2_with fail
        refine bodyPost_ret (v := .tuple #[.agg #[.int .i64 3, .string (s.extract 0 1), .int .i64 0, .int .i64 0], .int .i64 1]) ?_ rfl (tk_mk (by rw [RT1.out.1, EX.out]; rfl) (by rw [RT1.out.2]) B2.out)
        rw [results_cell_tmp Tryd.results37]
        have LD := K2.out.load Tryd.underlying47 Tryd.size47 rfl
        simp [asAddr, Result.andThen, LD]
      · have e1 : ((41 : Int) == (s[0].toNat : Int)) = false := by rw [beq_eq_false_iff_ne]; omega
        have HQ2 := Lib.hid (nq_succ 6 HQ.out (by show (s[0].toNat : Int) ≠ ((sgs.getD 6 0).toNat : Int); exact hc))
        clear hc
        go_wp2
        go_round
        case rel => exact ⟨7, by decide, rfl, HQ2.out⟩
        case measure => decide
    · clear hk8
      have cl : W2.cell? ⟨w.heap.size + 1, 7, none⟩ = some (.int .u8 64) := CL.out 7
      by_cases hc : (s[0].toNat : Int) = 64
      · have e1 : ((64 : Int) == (s[0].toNat : Int)) = true := by rw [hc]; rfl
        have RT1 := Lib.hid (YS.out (SA.out 64 hc rfl))
        clear hc
        go_wp2_with ((with_reducible refine wpList_store_bk (T := 47) (op := ⟨none, .store 47 _ _, _, _, _, none⟩) rfl _ _ rfl Tryd.size47 w.heap.size #[.int .i64 0, .string ⟨#[]⟩, .int .i64 0, .int .i64 0] #[.int .i64 3, .string (s.extract 0 1), .int .i64 0, .int .i64 0] ?sx ?sy ?sb ?s1 ?s2 ?s3 ?_); (case sx => rfl); (case sy => rfl); (case s1 => rfl); (case s2 => rfl); (case s3 => kernel_rfl); (case sb => exact KZ.out))
        intro w2 hbl hg hsz
        have K2 := Lib.hid hbl
        have B2 := Lib.hid (BW.out.trans (gb_below hg (Nat.le_refl _) BW.out.size))
        clear hbl hg hsz
        go_wp2_with fail
        refine bodyPost_ret (v := .tuple #[.agg #[.int .i64 3, .string (s.extract 0 1), .int .i64 0, .int .i64 0], .int .i64 1]) ?_ rfl (tk_mk (by rw [RT1.out.1, EX.out]; rfl) (by rw [RT1.out.2]) B2.out)
        rw [results_cell_tmp Tryd.results37]
        have LD := K2.out.load Tryd.underlying47 Tryd.size47 rfl
        simp [asAddr, Result.andThen, LD]
      · have e1 : ((64 : Int) == (s[0].toNat : Int)) = false := by rw [beq_eq_false_iff_ne]; omega
        have HQ2 := Lib.hid (nq_succ 7 HQ.out (by show (s[0].toNat : Int) ≠ ((sgs.getD 7 0).toNat : Int); exact hc))
        clear hc
        go_wp2
        go_round
        case rel => exact ⟨8, by decide, rfl, HQ2.out⟩
        case measure => decide
    · have RT1 := Lib.hid (NS.out (SN.out (nq_all HQ.out)))
      go_wp2_with ((with_reducible refine wpList_store_bk (T := 47) (op := ⟨none, .store 47 _ _, _, _, _, none⟩) rfl _ _ rfl Tryd.size47 w.heap.size #[.int .i64 0, .string ⟨#[]⟩, .int .i64 0, .int .i64 0] #[.int .i64 0, .string ⟨#[]⟩, .int .i64 0, .int .i64 0] ?sx ?sy ?sb ?s1 ?s2 ?s3 ?_); (case sx => rfl); (case sy => rfl); (case s1 => rfl); (case s2 => rfl); (case s3 => kernel_rfl); (case sb => exact KZ.out))
      intro w2 hbl hg hsz
      have K2 := Lib.hid hbl
      have B2 := Lib.hid (BW.out.trans (gb_below hg (Nat.le_refl _) BW.out.size))
      clear hbl hg hsz
      go_wp2_with fail
      refine bodyPost_ret (v := .tuple #[.agg #[.int .i64 0, .string ⟨#[]⟩, .int .i64 0, .int .i64 0], .int .i64 0]) ?_ rfl (tk_mk (by rw [RT1.out.1]; rfl) (by rw [RT1.out.2]) B2.out)
      rw [results_cell_tmp Tryd.results37]
      have LD := K2.out.load Tryd.underlying47 Tryd.size47 rfl
      simp [asAddr, Result.andThen, LD]
end Go.Proofs.YtddbfhdhldnoiaaDoor
