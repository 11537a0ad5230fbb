/-
  Contracts of the page: may a word be, may words be. They make new memory alone.
-/
import Derived.Test.YtddbfhdhldnoiaaDoorPe
import Derived.Test.YtddbfhdhldnoiaaDoorLn
namespace Go.Proofs.YtddbfhdhldnoiaaDoor
open Go.RowKit

set_option maxHeartbeats 1000000 in
theorem token_any (t : Tk) (w : World) (hs : t.t.length ≤ maxLen) : Calls Tryd.prog 25 #[.agg t.cells] w (BoolBelow (mayB t) w) := by
  have B0 := Lib.hid (below_new w (.cells t.cells 47))
  have WA := Lib.hid (fun W (h0 : 0 < t.t.length) => one_any ⟨t.t.toArray⟩ W (by show t.t.toArray.size ≤ maxLen; simpa using hs) (by show 0 < t.t.toArray.size; simpa using h0))
  simp only [Tk.cells] at *
  by_cases hk : t.k = 2
  · have e : (t.k == 2) = true := by simpa using hk
    by_cases ht : t.t = []
    · by_cases hn0 : 0 ≤ t.n
      · by_cases hn1 : t.n ≤ 2147483647
        · have E := Lib.hid (show mayB t = true by unfold mayB; rw [if_pos hk, ht]; simp [hn0, hn1])
          have e2 : decide (t.n < 2147483648) = true := by simp; omega
          have e3 : decide (0 ≤ t.n) = true := by simpa using hn0
          rw [ht] at B0 ⊢
          clear hk ht WA hn0 hn1
          go_enter Tryd.func25, Tryd.ntmps25
          go_wp2
          go_ret
          exact boolb_mk E.out.symm B0.out
        · have E := Lib.hid (show mayB t = false by unfold mayB; rw [if_pos hk, ht]; simp [hn1])
          have e2 : decide (t.n < 2147483648) = false := by simp; omega
          have e3 : decide (0 ≤ t.n) = true := by simpa using hn0
          rw [ht] at B0 ⊢
          clear hk ht WA hn1 hn0
          go_enter Tryd.func25, Tryd.ntmps25
          go_wp2
          go_ret
          exact boolb_mk E.out.symm B0.out
      · have E := Lib.hid (show mayB t = false by unfold mayB; rw [if_pos hk, ht]; simp [hn0])
        have e2 : decide (0 ≤ t.n) = false := by simpa using hn0
        rw [ht] at B0 ⊢
        clear hk ht WA hn0
        go_enter Tryd.func25, Tryd.ntmps25
        go_wp2
        go_ret
        exact boolb_mk E.out.symm B0.out
    · have E := Lib.hid (show mayB t = false by unfold mayB; rw [if_pos hk]; simp [ht])
      have e1 := str_ne_nil ht
      have e2 := str_isE ht
      clear hk WA
      go_enter Tryd.func25, Tryd.ntmps25
      go_wp2
      go_ret
      exact boolb_mk E.out.symm B0.out
  · have e : (t.k == 2) = false := by simpa using hk
    by_cases hk13 : t.k = 1 ∨ t.k = 3
    · have PG := Lib.hid (pgN_may hk13)
      have K1 : (t.k == 1) = true ∨ ((t.k == 1) = false ∧ (t.k == 3) = true) := by
        rcases hk13 with h | h
        · exact .inl (by simpa using h)
        · exact .inr ⟨by simp; omega, by simpa using h⟩
      by_cases hn : t.n = 0
      · by_cases ht : t.t = []
        · have E := Lib.hid (show mayB t = false by rw [← PG.out]; unfold pgN; rw [ht]; simp)
          rw [ht, hn] at B0 ⊢
          clear hk13 hk WA ht hn PG hs
          rcases K1 with e1 | ⟨e1, e3⟩
          · go_enter Tryd.func25, Tryd.ntmps25
            go_wp2_with fail
            go_ret
            exact boolb_mk E.out.symm B0.out
          · go_enter Tryd.func25, Tryd.ntmps25
            go_wp2_with fail
            go_ret
            exact boolb_mk E.out.symm B0.out
        · have hS0 : (⟨t.t.toArray⟩ : ByteArray).data.toList = t.t := by simp
          have h0 : 0 < t.t.length := List.length_pos_iff.2 ht
          have n1 := str_ne_nil ht
          have n2 := str_isE ht
          have HD := Lib.hid (fun (c : UInt8) (q : List UInt8) (hc : t.t = c :: q) (h : c = 32 ∨ c = 9 ∨ c = 59) => may_head hk hc h)
          have PE := Lib.hid (show mayB t = (decide (o1E t.t = t.t.length) && decide ((o1T t.t).k = t.k)) by
            rw [← PG.out]; unfold pgN
            have : t.t.isEmpty = false := by simpa using ht
            rw [this]; simp [hn])
          rw [hn] at B0 ⊢
          generalize (⟨t.t.toArray⟩ : ByteArray) = S at *
          have hl : S.size = t.t.length := by rw [← hS0]; simp
          have hp : 0 < S.size := by omega
          have hpI : (0 : Int) < (S.size : Int) := by omega
          have hc0 : t.t = S[0] :: t.t.drop 1 := by
            have := drop_at h0
            rw [List.drop_zero] at this
            have e0 : t.t[0] = S[0] := by
              have h1 : t.t[0]? = some S[0] := by rw [← hS0]; simp [hp]; rfl
              exact Option.some.inj ((List.getElem?_eq_getElem h0).symm.trans h1)
            rw [e0] at this; exact this
          have h0' := Lib.hid h0
          have HC0 := Lib.hid hc0
          have W1 := Lib.hid (fun W => WA.out W h0)
          clear WA h0 hc0 hk13 hk PG hs ht
          by_cases h59 : t.t = [59]
          · have E := Lib.hid (HD.out 59 [] h59 (.inr (.inr rfl)))
            have hS1 : S = ⟨#[59]⟩ := by
              have h1 : S.data.toList = [59] := by rw [hS0, h59]
              have h2 : S.data = #[59] := by rw [← Array.toList_inj, h1]
              cases S; simp only at h2; rw [h2]
            clear hS0 HC0 W1 HD PE h59 hl
            subst hS1
            rcases K1 with e1 | ⟨e1, e3⟩
            · go_enter Tryd.func25, Tryd.ntmps25
              go_wp2_with fail
              go_ret
              exact boolb_mk E.out.symm B0.out
            · go_enter Tryd.func25, Tryd.ntmps25
              go_wp2_with fail
              go_ret
              exact boolb_mk E.out.symm B0.out
          · have n3 : (S.toList == [59]) = false := by
              rw [ByteArray.toList_eq, hS0]
              simpa using h59
            have n4 : ¬ S.toList = [59] := by
              rw [ByteArray.toList_eq, hS0]
              exact h59
            clear hS0 h59
            by_cases h32 : S[0] = 32
            · have E := Lib.hid (HD.out _ _ HC0.out (.inl h32))
              have d1 : ((S[0].toNat : Int) == 32) = true := by rw [h32]; rfl
              clear h32 HC0 W1 HD PE hl
              rcases K1 with e1 | ⟨e1, e3⟩
              · go_enter Tryd.func25, Tryd.ntmps25
                go_wp2_with fail
                go_ret
                exact boolb_mk E.out.symm B0.out
              · go_enter Tryd.func25, Tryd.ntmps25
                go_wp2_with fail
                go_ret
                exact boolb_mk E.out.symm B0.out
            · have d1 : ((S[0].toNat : Int) == 32) = false := by
                have : S[0].toNat ≠ 32 := fun e => h32 (UInt8.toNat_inj.1 e)
                simp; omega
              by_cases h9 : S[0] = 9
              · have E := Lib.hid (HD.out _ _ HC0.out (.inr (.inl h9)))
                have d2 : ((S[0].toNat : Int) == 9) = true := by rw [h9]; rfl
                clear h32 h9 HC0 W1 HD PE hl
                rcases K1 with e1 | ⟨e1, e3⟩
                · go_enter Tryd.func25, Tryd.ntmps25
                  go_wp2_with fail
                  go_ret
                  exact boolb_mk E.out.symm B0.out
                · go_enter Tryd.func25, Tryd.ntmps25
                  go_wp2_with fail
                  go_ret
                  exact boolb_mk E.out.symm B0.out
              · have d2 : ((S[0].toNat : Int) == 9) = false := by
                  have : S[0].toNat ≠ 9 := fun e => h9 (UInt8.toNat_inj.1 e)
                  simp; omega
                clear h32 h9 HC0 HD
                have HL := Lib.hid hl
                have HP := Lib.hid hp
                generalize o1T t.t = y at W1 PE
                generalize o1E t.t = m at W1 PE
                have W2 := Lib.hid (fun W => show Calls Tryd.prog 37 #[.string S] W (fun e w' => e = .returned (.tuple #[.agg #[.int .i64 y.k, .string ⟨y.t.toArray⟩, .int .i64 y.n, .int .i64 y.a], .int .i64 (m : Int)]) ∧ Below W.heap.size W w') from W1.out W)
                clear W1
                by_cases hm : m = S.size
                · have d3 : ((m : Int) == (S.size : Int)) = true := by rw [hm]; simp
                  by_cases hy : y.k = t.k
                  · have d4 : (y.k == t.k) = true := by simpa using hy
                    have E := Lib.hid (show mayB t = true by rw [PE.out, ← HL.out]; simp [hm, hy])
                    clear hm hy PE hl
                    rcases K1 with e1 | ⟨e1, e3⟩
                    · go_enter Tryd.func25, Tryd.ntmps25
                      go_wp2_with (go_at_call 37; refine (W2.out _).mono ?_; rintro e w1 ⟨rfl, b1⟩; obtain ⟨q, hz, hB⟩ := box_cells b1; have q0 := q 0; have q1 := q 1; have q2 := q 2; have q3 := q 3; have r0 := ((below_new w1 (.cells #[.int .i64 y.k, .string ⟨y.t.toArray⟩, .int .i64 y.n, .int .i64 y.a] 47)).cell (p := ⟨w.heap.size, 0, none⟩) hz).trans (q 0); have r1 := ((below_new w1 (.cells #[.int .i64 y.k, .string ⟨y.t.toArray⟩, .int .i64 y.n, .int .i64 y.a] 47)).cell (p := ⟨w.heap.size, 1, none⟩) hz).trans (q 1); have B1 := Lib.hid hB; clear q hz hB b1)
                      go_ret
                      exact boolb_mk E.out.symm (B1.out.trans ((below_new w1 (.cells #[.int .i64 y.k, .string ⟨y.t.toArray⟩, .int .i64 y.n, .int .i64 y.a] 47)).mono B1.out.size))
                    · go_enter Tryd.func25, Tryd.ntmps25
                      go_wp2_with (go_at_call 37; refine (W2.out _).mono ?_; rintro e w1 ⟨rfl, b1⟩; obtain ⟨q, hz, hB⟩ := box_cells b1; have q0 := q 0; have q1 := q 1; have q2 := q 2; have q3 := q 3; have r0 := ((below_new w1 (.cells #[.int .i64 y.k, .string ⟨y.t.toArray⟩, .int .i64 y.n, .int .i64 y.a] 47)).cell (p := ⟨w.heap.size, 0, none⟩) hz).trans (q 0); have r1 := ((below_new w1 (.cells #[.int .i64 y.k, .string ⟨y.t.toArray⟩, .int .i64 y.n, .int .i64 y.a] 47)).cell (p := ⟨w.heap.size, 1, none⟩) hz).trans (q 1); have B1 := Lib.hid hB; clear q hz hB b1)
                      go_ret
                      exact boolb_mk E.out.symm (B1.out.trans ((below_new w1 (.cells #[.int .i64 y.k, .string ⟨y.t.toArray⟩, .int .i64 y.n, .int .i64 y.a] 47)).mono B1.out.size))
                  · have d4 : (y.k == t.k) = false := by simpa using hy
                    have E := Lib.hid (show mayB t = false by rw [PE.out]; simp [hy])
                    clear hm hy PE hl
                    rcases K1 with e1 | ⟨e1, e3⟩
                    · go_enter Tryd.func25, Tryd.ntmps25
                      go_wp2_with (go_at_call 37; refine (W2.out _).mono ?_; rintro e w1 ⟨rfl, b1⟩; obtain ⟨q, hz, hB⟩ := box_cells b1; have q0 := q 0; have q1 := q 1; have q2 := q 2; have q3 := q 3; have r0 := ((below_new w1 (.cells #[.int .i64 y.k, .string ⟨y.t.toArray⟩, .int .i64 y.n, .int .i64 y.a] 47)).cell (p := ⟨w.heap.size, 0, none⟩) hz).trans (q 0); have r1 := ((below_new w1 (.cells #[.int .i64 y.k, .string ⟨y.t.toArray⟩, .int .i64 y.n, .int .i64 y.a] 47)).cell (p := ⟨w.heap.size, 1, none⟩) hz).trans (q 1); have B1 := Lib.hid hB; clear q hz hB b1)
                      go_ret
                      exact boolb_mk E.out.symm (B1.out.trans ((below_new w1 (.cells #[.int .i64 y.k, .string ⟨y.t.toArray⟩, .int .i64 y.n, .int .i64 y.a] 47)).mono B1.out.size))
                    · go_enter Tryd.func25, Tryd.ntmps25
                      go_wp2_with (go_at_call 37; refine (W2.out _).mono ?_; rintro e w1 ⟨rfl, b1⟩; obtain ⟨q, hz, hB⟩ := box_cells b1; have q0 := q 0; have q1 := q 1; have q2 := q 2; have q3 := q 3; have r0 := ((below_new w1 (.cells #[.int .i64 y.k, .string ⟨y.t.toArray⟩, .int .i64 y.n, .int .i64 y.a] 47)).cell (p := ⟨w.heap.size, 0, none⟩) hz).trans (q 0); have r1 := ((below_new w1 (.cells #[.int .i64 y.k, .string ⟨y.t.toArray⟩, .int .i64 y.n, .int .i64 y.a] 47)).cell (p := ⟨w.heap.size, 1, none⟩) hz).trans (q 1); have B1 := Lib.hid hB; clear q hz hB b1)
                      go_ret
                      exact boolb_mk E.out.symm (B1.out.trans ((below_new w1 (.cells #[.int .i64 y.k, .string ⟨y.t.toArray⟩, .int .i64 y.n, .int .i64 y.a] 47)).mono B1.out.size))
                · have d3 : ((m : Int) == (S.size : Int)) = false := by simp; omega
                  have E := Lib.hid (show mayB t = false by rw [PE.out, ← HL.out]; simp [hm])
                  clear hm PE hl
                  rcases K1 with e1 | ⟨e1, e3⟩
                  · go_enter Tryd.func25, Tryd.ntmps25
                    go_wp2_with (go_at_call 37; refine (W2.out _).mono ?_; rintro e w1 ⟨rfl, b1⟩; obtain ⟨q, hz, hB⟩ := box_cells b1; have q0 := q 0; have q1 := q 1; have q2 := q 2; have q3 := q 3; have r0 := ((below_new w1 (.cells #[.int .i64 y.k, .string ⟨y.t.toArray⟩, .int .i64 y.n, .int .i64 y.a] 47)).cell (p := ⟨w.heap.size, 0, none⟩) hz).trans (q 0); have r1 := ((below_new w1 (.cells #[.int .i64 y.k, .string ⟨y.t.toArray⟩, .int .i64 y.n, .int .i64 y.a] 47)).cell (p := ⟨w.heap.size, 1, none⟩) hz).trans (q 1); have B1 := Lib.hid hB; clear q hz hB b1)
                    go_ret
                    exact boolb_mk E.out.symm (B1.out.trans ((below_new w1 (.cells #[.int .i64 y.k, .string ⟨y.t.toArray⟩, .int .i64 y.n, .int .i64 y.a] 47)).mono B1.out.size))
                  · go_enter Tryd.func25, Tryd.ntmps25
                    go_wp2_with (go_at_call 37; refine (W2.out _).mono ?_; rintro e w1 ⟨rfl, b1⟩; obtain ⟨q, hz, hB⟩ := box_cells b1; have q0 := q 0; have q1 := q 1; have q2 := q 2; have q3 := q 3; have r0 := ((below_new w1 (.cells #[.int .i64 y.k, .string ⟨y.t.toArray⟩, .int .i64 y.n, .int .i64 y.a] 47)).cell (p := ⟨w.heap.size, 0, none⟩) hz).trans (q 0); have r1 := ((below_new w1 (.cells #[.int .i64 y.k, .string ⟨y.t.toArray⟩, .int .i64 y.n, .int .i64 y.a] 47)).cell (p := ⟨w.heap.size, 1, none⟩) hz).trans (q 1); have B1 := Lib.hid hB; clear q hz hB b1)
                    go_ret
                    exact boolb_mk E.out.symm (B1.out.trans ((below_new w1 (.cells #[.int .i64 y.k, .string ⟨y.t.toArray⟩, .int .i64 y.n, .int .i64 y.a] 47)).mono B1.out.size))
      · have e4 : (t.n != 0) = true := by simpa using hn
        have E := Lib.hid (show mayB t = false by rw [← PG.out]; unfold pgN; simp [hn])
        clear hk13 hk WA hn PG hs
        rcases K1 with e1 | ⟨e1, e3⟩
        · go_enter Tryd.func25, Tryd.ntmps25
          go_wp2_with fail
          go_ret
          exact boolb_mk E.out.symm B0.out
        · go_enter Tryd.func25, Tryd.ntmps25
          go_wp2_with fail
          go_ret
          exact boolb_mk E.out.symm B0.out
    · have e1 : (t.k == 1) = false := by simp; omega
      have e3 : (t.k == 3) = false := by simp; omega
      have E := Lib.hid (may_none (t := t) (by omega) hk (by omega))
      clear hk hk13 WA
      go_enter Tryd.func25, Tryd.ntmps25
      go_wp2
      go_ret
      exact boolb_mk E.out.symm B0.out
end Go.Proofs.YtddbfhdhldnoiaaDoor
