/-
  Contract of the word that begins at a place of a line, in package lex. It makes new memory alone.
-/
import Derived.Test.YtddbfhdhldnoiaaDoorLk
namespace Go.Proofs.YtddbfhdhldnoiaaDoor
open Go.RowKit

theorem idx_iff (l : List UInt8) (c : UInt8) : decide (0 ≤ Lib.indexByte l c) = l.contains c := by
  induction l with
  | nil => rfl
  | cons x l ih =>
    unfold Lib.indexByte
    have hg := Lib.indexByte_ge l c
    by_cases h : x == c
    · have h2 : x = c := by simpa using h
      subst h2
      simp
    · have h2 : ¬ c = x := by intro e; exact h (by simp [e])
      rw [if_neg (by simpa using h)]
      simp only [List.contains_cons]
      rw [show (c == x) = false by simpa using h2, Bool.false_or, ← ih]
      by_cases h3 : Lib.indexByte l c = -1
      · simp [h3]
      · rw [if_neg (by simpa using h3), Bool.eq_iff_iff]
        simp only [decide_eq_true_eq]
        omega
set_option maxHeartbeats 1000000 in
theorem word_name (s : ByteArray) (k : Nat) (w : World) (hk : k < s.size) (hl : ltI (s[k].toNat : Int) = true) {t : Tk} {n : Int} (HC : ∀ W, Calls Tryd.prog 44 #[.string s, .int .i64 k] W (TkPost t n W)) :
    Calls Tryd.prog 32 #[.string s, .int .i64 k] w (TkPost t n w) := by
  have HC' := Lib.hid HC
  clear HC
  have K0 := Lib.hid (show BK 47 (w.alloc (.cells #[.int .i64 0, .string ⟨#[]⟩, .int .i64 0, .int .i64 0] 47)) w.heap.size #[.int .i64 0, .string ⟨#[]⟩, .int .i64 0, .int .i64 0] from heap_alloc_new w _)
  have B0 := Lib.hid (below_new w (.cells #[.int .i64 0, .string ⟨#[]⟩, .int .i64 0, .int .i64 0] 47))
  go_enter Tryd.func32, Tryd.ntmps32
  go_wp2_with (first | (go_at_call 43; refine (begins_any _ _).mono ?_; rintro e w' ⟨rfl, rfl⟩) | (go_at_call 45; refine (isdig_any _ _).mono ?_; rintro e w' ⟨rfl, rfl⟩))
  refine (HC'.out _).mono ?_
  rintro e w1 ⟨rfl, b1⟩
  have K1 := Lib.hid (K0.out.below b1)
  have B1 := Lib.hid (B0.out.trans (b1.mono B0.out.size))
  clear b1 K0 B0
  go_wp2_with ((with_reducible refine wpList_store_bk (T := 47) (op := ⟨none, .store 47 _ _, _, _, _, none⟩) rfl _ _ rfl Tryd.size47 w.heap.size #[.int .i64 0, .string ⟨#[]⟩, .int .i64 0, .int .i64 0] t.cells ?sx ?sy ?sb ?s1 ?s2 ?s3 ?_); (case sx => rfl); (case sy => rfl); (case s1 => rfl); (case s2 => rfl); (case s3 => exact tk_all t); (case sb => exact K1.out))
  intro w2 hbl hg hsz
  have K2 := Lib.hid hbl
  have B2 := Lib.hid (B1.out.trans (gb_below hg (Nat.le_refl _) B1.out.size))
  clear hbl hg hsz
  go_wp2_with fail
  refine bodyPost_ret (v := .tuple #[.agg t.cells, .int .i64 n]) ?_ rfl ⟨rfl, B2.out⟩
  rw [results_cell_tmp Tryd.results32]
  have LD := K2.out.load Tryd.underlying47 Tryd.size47 rfl
  simp [asAddr, Result.andThen, LD]
set_option maxHeartbeats 1000000 in
theorem word_number (s : ByteArray) (k : Nat) (w : World) (hk : k < s.size) (hl : ltI (s[k].toNat : Int) = false) (hd : dgI (s[k].toNat : Int) = true) {t : Tk} {n : Int} (HC : ∀ W, Calls Tryd.prog 46 #[.string s, .int .i64 k] W (TkPost t n W)) :
    Calls Tryd.prog 32 #[.string s, .int .i64 k] w (TkPost t n w) := by
  have HC' := Lib.hid HC
  clear HC
  have K0 := Lib.hid (show BK 47 (w.alloc (.cells #[.int .i64 0, .string ⟨#[]⟩, .int .i64 0, .int .i64 0] 47)) w.heap.size #[.int .i64 0, .string ⟨#[]⟩, .int .i64 0, .int .i64 0] from heap_alloc_new w _)
  have B0 := Lib.hid (below_new w (.cells #[.int .i64 0, .string ⟨#[]⟩, .int .i64 0, .int .i64 0] 47))
  go_enter Tryd.func32, Tryd.ntmps32
  go_wp2_with (first | (go_at_call 43; refine (begins_any _ _).mono ?_; rintro e w' ⟨rfl, rfl⟩) | (go_at_call 45; refine (isdig_any _ _).mono ?_; rintro e w' ⟨rfl, rfl⟩))
  refine (HC'.out _).mono ?_
  rintro e w1 ⟨rfl, b1⟩
  have K1 := Lib.hid (K0.out.below b1)
  have B1 := Lib.hid (B0.out.trans (b1.mono B0.out.size))
  clear b1 K0 B0
  go_wp2_with ((with_reducible refine wpList_store_bk (T := 47) (op := ⟨none, .store 47 _ _, _, _, _, none⟩) rfl _ _ rfl Tryd.size47 w.heap.size #[.int .i64 0, .string ⟨#[]⟩, .int .i64 0, .int .i64 0] t.cells ?sx ?sy ?sb ?s1 ?s2 ?s3 ?_); (case sx => rfl); (case sy => rfl); (case s1 => rfl); (case s2 => rfl); (case s3 => exact tk_all t); (case sb => exact K1.out))
  intro w2 hbl hg hsz
  have K2 := Lib.hid hbl
  have B2 := Lib.hid (B1.out.trans (gb_below hg (Nat.le_refl _) B1.out.size))
  clear hbl hg hsz
  go_wp2_with fail
  refine bodyPost_ret (v := .tuple #[.agg t.cells, .int .i64 n]) ?_ rfl ⟨rfl, B2.out⟩
  rw [results_cell_tmp Tryd.results32]
  have LD := K2.out.load Tryd.underlying47 Tryd.size47 rfl
  simp [asAddr, Result.andThen, LD]
/-- Where a sign stands among the signs. -/
def sgz (c : UInt8) : Int := Lib.indexByte sgs c
theorem sgz_iff (c : UInt8) : 0 ≤ sgz c ↔ sgn c = true := by
  have := idx_iff sgs c
  unfold sgz sgn
  rw [← this]
  simp
theorem toU8 (c : UInt8) : ((c.toNat : Int)).toNat.toUInt8 = c := by simp
theorem sign_any (c : UInt8) (w : World) : Calls Tryd.prog 47 #[.string ⟨#[44, 58, 43, 45, 42, 40, 41, 64]⟩, .int .u8 (c.toNat : Int)] w (IntPost (sgz c) w) :=
  (Tryd.strings_IndexByte _ _ w).mono fun _ _ ⟨h1, h2⟩ => ⟨by rw [h1, toU8]; rfl, h2.symm⟩
theorem ext_one (s : ByteArray) (k : Nat) (hk : k < s.size) : s.extract k (k + 1) = ⟨[s[k]].toArray⟩ := by
  rw [ext_add, drop_at (by simpa using hk)]
  rfl
set_option maxHeartbeats 1000000 in
theorem word_sign (s : ByteArray) (k : Nat) (w : World) (hs : s.size ≤ maxLen) (hk : k < s.size) (hl : ltI (s[k].toNat : Int) = false) (hd : dgI (s[k].toNat : Int) = false) (hg : sgn s[k] = true) :
    Calls Tryd.prog 32 #[.string s, .int .i64 k] w (TkPost ⟨3, [s[k]], 0, k⟩ ((k + 1 : Nat) : Int) w) := by
  unfold maxLen at hs
  have hz := (sgz_iff s[k]).2 hg
  have EX := Lib.hid (ext_one s k hk)
  clear hg
  go_enter Tryd.func32, Tryd.ntmps32
  go_wp2_with (first | (go_at_call 43; refine (begins_any _ _).mono ?_; rintro e w' ⟨rfl, rfl⟩) | (go_at_call 45; refine (isdig_any _ _).mono ?_; rintro e w' ⟨rfl, rfl⟩) | (go_at_call 47; refine (sign_any _ _).mono ?_; rintro e w' ⟨rfl, rfl⟩))
  exact bodyPost_ret (v := .tuple #[.agg #[.int .i64 3, .string (s.extract k (k + 1)), .int .i64 0, .int .i64 (k : Int)], .int .i64 ((k : Int) + 1)]) (by simp [results, Tryd.results32, go_sem]) rfl (tk_mk (by rw [EX.out]; rfl) (by omega) (below_new _ _))
set_option maxHeartbeats 1000000 in
theorem word_none (s : ByteArray) (k : Nat) (w : World) (hk : k < s.size) (hl : ltI (s[k].toNat : Int) = false) (hd : dgI (s[k].toNat : Int) = false) (hg : sgn s[k] = false) :
    Calls Tryd.prog 32 #[.string s, .int .i64 k] w (TkPost Tk.none k w) := by
  have hz : decide (0 ≤ sgz s[k]) = false := by rw [decide_eq_false_iff_not, sgz_iff, hg]; simp
  clear hg
  go_enter Tryd.func32, Tryd.ntmps32
  go_wp2_with (first | (go_at_call 43; refine (begins_any _ _).mono ?_; rintro e w' ⟨rfl, rfl⟩) | (go_at_call 45; refine (isdig_any _ _).mono ?_; rintro e w' ⟨rfl, rfl⟩) | (go_at_call 47; refine (sign_any _ _).mono ?_; rintro e w' ⟨rfl, rfl⟩))
  exact bodyPost_ret (v := .tuple #[.agg #[.int .i64 0, .string ⟨#[]⟩, .int .i64 0, .int .i64 0], .int .i64 (k : Int)]) (by simp [results, Tryd.results32, go_sem]) rfl (tk_mk rfl rfl (below_new _ _))
/-- The word that begins at a place, and where it ends; none: the place itself. -/
def wdT (l : List UInt8) (k : Nat) : Tk := match wd1 (l.drop k) with | none => Tk.none | some (t, _) => ⟨t.k, t.t, t.n, k⟩
def wdE (l : List UInt8) (k : Nat) : Nat := match wd1 (l.drop k) with | none => k | some (_, n) => k + n
theorem wdT_none {l : List UInt8} {k : Nat} (h : wd1 (l.drop k) = none) : wdT l k = Tk.none ∧ wdE l k = k := by unfold wdT wdE; rw [h]; exact ⟨rfl, rfl⟩
theorem wdT_some {l : List UInt8} {k n : Nat} {t : Tk} (h : wd1 (l.drop k) = some (t, n)) : wdT l k = ⟨t.k, t.t, t.n, k⟩ ∧ wdE l k = k + n := by unfold wdT wdE; rw [h]; exact ⟨rfl, rfl⟩
theorem post_eq {t t' : Tk} {n n' : Int} (h1 : t' = t) (h2 : n' = n) (w : World) : TkPost t n w = TkPost t' n' w := by rw [h1, h2]
theorem hex_len {r : List UInt8} (h : hex0 r = true) : 2 ≤ r.length := by
  match r, h with
  | [], h => cases h
  | [_], h => simp [hex0, List.isPrefixOf] at h
  | _ :: _ :: _, _ => simp
theorem word_any (s : ByteArray) (k : Nat) (w : World) (hs : s.size ≤ maxLen) (hk : k < s.size) : Calls Tryd.prog 32 #[.string s, .int .i64 k] w (TkPost (wdT s.data.toList k) (wdE s.data.toList k : Nat) w) := by
  have hkl : k < s.data.toList.length := by simpa using hk
  have hc : s.data.toList.drop k = s[k] :: s.data.toList.drop (k + 1) := drop_at hkl
  by_cases hl : ltI (s[k].toNat : Int) = true
  · by_cases hn : spn nmc (s.data.toList.drop k) ≤ 12
    · have e : wd1 (s.data.toList.drop k) = some (⟨1, (s.data.toList.drop k).take (spn nmc (s.data.toList.drop k)), 0, 0⟩, spn nmc (s.data.toList.drop k)) := by
        rw [hc] at hn ⊢
        simp only [wd1]
        rw [if_pos (show ltr s[k] = true from hl), if_pos hn]
      rw [post_eq (wdT_some e).1.symm (by rw [(wdT_some e).2])]
      exact word_name s k w hk hl (fun W => name_yes s k W hs (by omega) hn)
    · have e : wd1 (s.data.toList.drop k) = none := by
        rw [hc] at hn ⊢
        simp only [wd1]
        rw [if_pos (show ltr s[k] = true from hl), if_neg hn]
      rw [post_eq (wdT_none e).1.symm (by rw [(wdT_none e).2])]
      exact word_name s k w hk hl (fun W => name_no s k W hs (by omega) (by omega))
  · have hl' : ltI (s[k].toNat : Int) = false := by simpa using hl
    have hlr : ¬ ltr s[k] = true := hl
    by_cases hd : dgI (s[k].toNat : Int) = true
    · have hdr : dgt s[k] = true := hd
      by_cases hx : hex0 (s.data.toList.drop k) = true
      · have hk2 : k + 2 ≤ s.size := by have := hex_len hx; rw [List.length_drop] at this; simp at this; omega
        by_cases hz : spn (dgb 16) (s.data.toList.drop (k + 2)) = 0 ∨ 2147483648 ≤ fin 16 0 (s.data.toList.drop (k + 2))
        · have e : wd1 (s.data.toList.drop k) = none := by
            rw [← List.drop_drop] at hz
            rw [hc] at hx hz ⊢
            simp only [wd1]
            rw [if_neg hlr, if_pos hdr, if_pos hx, if_pos hz]
          rw [post_eq ((wdT_none e).1.trans (numT_no hz (k := k)).symm).symm ((congrArg Nat.cast (wdT_none e).2).trans (numE_no hz (k := k) (F := k + 2)).symm).symm]
          exact word_number s k w hk hl' hd (fun W => number16 s k W hs hk2 hx)
        · have e : wd1 (s.data.toList.drop k) = some (⟨2, [], (fin 16 0 (s.data.toList.drop (k + 2)) : Nat), 0⟩, spn (dgb 16) (s.data.toList.drop (k + 2)) + 2) := by
            have e2 := List.drop_drop (i := 2) (j := k) (l := s.data.toList)
            rw [← e2] at hz ⊢
            rw [hc] at hx hz ⊢
            simp only [wd1]
            rw [if_neg hlr, if_pos hdr, if_pos hx, if_neg hz]
          rw [post_eq ((wdT_some e).1.trans (numT_yes hz (k := k)).symm).symm (show numE 16 (s.data.toList.drop (k + 2)) k (k + 2) = ((wdE s.data.toList k : Nat) : Int) by rw [(wdT_some e).2, numE_yes hz]; congr 1; omega)]
          exact word_number s k w hk hl' hd (fun W => number16 s k W hs hk2 hx)
      · have hx' : hex0 (s.data.toList.drop k) = false := by simpa using hx
        have h0 : spn (dgb 10) (s.data.toList.drop k) ≠ 0 := by rw [spnS_yes hk (by unfold dgb; rw [hdr]; rfl)]; omega
        by_cases hz : 2147483648 ≤ fin 10 0 (s.data.toList.drop k)
        · have e : wd1 (s.data.toList.drop k) = none := by
            rw [hc] at hx hz ⊢
            simp only [wd1]
            rw [if_neg hlr, if_pos hdr, if_neg hx, if_pos hz]
          rw [post_eq ((wdT_none e).1.trans (numT_no (.inr hz) (k := k)).symm).symm ((congrArg Nat.cast (wdT_none e).2).trans (numE_no (.inr hz) (k := k) (F := k)).symm).symm]
          exact word_number s k w hk hl' hd (fun W => number10 s k W hs (by omega) hx')
        · have e : wd1 (s.data.toList.drop k) = some (⟨2, [], (fin 10 0 (s.data.toList.drop k) : Nat), 0⟩, spn (dgb 10) (s.data.toList.drop k)) := by
            rw [hc] at hx hz ⊢
            simp only [wd1]
            rw [if_neg hlr, if_pos hdr, if_neg hx, if_neg hz]
          have hz2 : ¬ (spn (dgb 10) (s.data.toList.drop k) = 0 ∨ 2147483648 ≤ fin 10 0 (s.data.toList.drop k)) := by omega
          rw [post_eq ((wdT_some e).1.trans (numT_yes hz2 (k := k)).symm).symm (show numE 10 (s.data.toList.drop k) k k = ((wdE s.data.toList k : Nat) : Int) by rw [(wdT_some e).2, numE_yes hz2])]
          exact word_number s k w hk hl' hd (fun W => number10 s k W hs (by omega) hx')
    · have hd' : dgI (s[k].toNat : Int) = false := by simpa using hd
      have hdr : ¬ dgt s[k] = true := hd
      by_cases hg : sgn s[k] = true
      · have e : wd1 (s.data.toList.drop k) = some (⟨3, [s[k]], 0, 0⟩, 1) := by
          rw [hc]
          simp only [wd1]
          rw [if_neg hlr, if_neg hdr, if_pos hg]
        rw [post_eq (wdT_some e).1.symm (by rw [(wdT_some e).2])]
        exact word_sign s k w hs hk hl' hd' hg
      · have hg' : sgn s[k] = false := by simpa using hg
        have e : wd1 (s.data.toList.drop k) = none := by
          rw [hc]
          simp only [wd1]
          rw [if_neg hlr, if_neg hdr, if_neg hg]
        rw [post_eq (wdT_none e).1.symm (by rw [(wdT_none e).2])]
        exact word_none s k w hk hl' hd' hg'
end Go.Proofs.YtddbfhdhldnoiaaDoor
