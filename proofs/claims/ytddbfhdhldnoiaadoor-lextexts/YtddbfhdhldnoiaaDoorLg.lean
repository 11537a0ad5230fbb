/-
  Contract of the page: the word that a text begins with: a number, a sign, none. It makes new memory alone.
-/
import Derived.Test.YtddbfhdhldnoiaaDoorLf
namespace Go.Proofs.YtddbfhdhldnoiaaDoor
open Go.RowKit

theorem ext2 (s : ByteArray) : (s.extract 0 2).toList = s.data.toList.take 2 := by
  rw [ByteArray.toList_eq, ext_eq]
  rfl
theorem hex_yes {s : ByteArray} (h : hex0 s.data.toList = true) : ((s.extract 0 2).toList == [48, 120]) = true := by
  rw [ext2]
  unfold hex0 at h
  rw [List.isPrefixOf_iff_prefix] at h
  obtain ⟨r, hr⟩ := h
  rw [← hr]
  rfl
theorem hex_no {s : ByteArray} (h : hex0 s.data.toList = false) : ((s.extract 0 2).toList == [48, 120]) = false := by
  rw [ext2, beq_eq_false_iff_ne]
  intro e
  have : hex0 s.data.toList = true := by
    unfold hex0
    rw [List.isPrefixOf_iff_prefix, ← e]
    exact List.take_prefix 2 _
  rw [h] at this
  cases this
theorem fin_ext (b : Nat) (s : ByteArray) (F S : Nat) (h : S = spn (dgb b) (s.data.toList.drop F)) : fin b 0 (s.extract F (F + S)).data.toList = fin b 0 (s.data.toList.drop F) := by
  rw [ext_add]
  show fin b 0 ((s.data.toList.drop F).take S) = _
  rw [h, fin_spn]
theorem all_ext (b : Nat) (s : ByteArray) (F S : Nat) (h : S = spn (dgb b) (s.data.toList.drop F)) : ∀ c ∈ (s.extract F (F + S)).data.toList, dgb b c = true := by
  rw [ext_add]
  show ∀ c ∈ (s.data.toList.drop F).take S, _
  rw [h]
  exact spn_take _ _
theorem ext_size (s : ByteArray) (a b : Nat) (hs : s.size ≤ maxLen) : (s.extract a b).size ≤ maxLen := by
  rw [ByteArray.size_extract]
  omega
theorem val_small {V : Nat} {w : World} (h : V < 2147483648) : ValPost V w = fun e w' => e = .returned (.tuple #[.int .i64 (V : Nat), .bool true]) ∧ w = w' := by
  unfold ValPost
  rw [if_pos h, decide_eq_true h]
theorem val_great {V : Nat} {w : World} (h : 2147483648 ≤ V) : ValPost V w = fun e w' => e = .returned (.tuple #[.int .i64 0, .bool false]) ∧ w = w' := by
  unfold ValPost
  rw [if_neg (by omega), show decide (V < 2147483648) = false by simp; omega]
set_option maxHeartbeats 2000000 in
theorem onum16 (s : ByteArray) (w : World) (hs : s.size ≤ maxLen) (hk : 0 < s.size) (hl : ltI (s[0].toNat : Int) = false) (hd : dgI (s[0].toNat : Int) = true) (hx : hex0 s.data.toList = true) (h2 : 2 ≤ s.size) :
    Calls Tryd.prog 37 #[.string s] w (TkPost (numT 16 (s.data.toList.drop 2) 0) (numE 16 (s.data.toList.drop 2) 0 2) w) := by
  have hle := spnS_le (dgb 16) s 2
  have VCC := Lib.hid (fun W => value16 (s.extract 2 (2 + spn (dgb 16) (s.data.toList.drop 2))) W (ext_size s _ _ hs) (all_ext 16 s 2 _ rfl))
  rw [fin_ext 16 s 2 _ rfl] at VCC
  unfold maxLen at hs
  have NT := Lib.hid (@numT_no 16 (s.data.toList.drop 2) 0)
  have NE := Lib.hid (@numE_no 16 (s.data.toList.drop 2) 0 2)
  have YT := Lib.hid (@numT_yes 16 (s.data.toList.drop 2) 0)
  have YE := Lib.hid (@numE_yes 16 (s.data.toList.drop 2) 0 2)
  generalize numT 16 (s.data.toList.drop 2) 0 = RT at *
  generalize numE 16 (s.data.toList.drop 2) 0 2 = RE at *
  generalize hE : spn (dgb 16) (s.data.toList.drop 2) = E at *
  generalize fin 16 0 (s.data.toList.drop 2) = V at *
  have HE := Lib.hid hE
  clear hE
  have h1 : (1 : Int) < (s.size : Int) := by omega
  have hxt := hex_yes hx
  clear hx
  go_enter Tryd.func37, Tryd.ntmps37
  go_wp2_with (first | (go_at_call 50; refine (rletter_any _ _).mono ?_; rintro e w' ⟨rfl, rfl⟩) | (go_at_call 51; refine (rdig_any _ _).mono ?_; rintro e w' ⟨rfl, rfl⟩) | (go_at_call 52; refine (hex_any _ _).mono ?_; rintro e w' ⟨rfl, rfl⟩) | (go_at_call 53; refine (VC.out _).mono ?_; rintro e w' ⟨rfl, rfl⟩))
  go_loop [4] (fun a => ∃ j : Nat, 2 ≤ j ∧ j ≤ s.size ∧ a = .int .i64 j ∧ j + spn (dgb 16) (s.data.toList.drop j) = 2 + E) (fun a => s.size - (intOf a).toNat)
  case atStart => exact ⟨2, Nat.le_refl _, by omega, rfl, by rw [HE.out]⟩
  case round =>
    clear hl hd
    obtain ⟨j, hFj, hj, rfl, he⟩ := hrel
    have JE := Lib.hid he
    clear he
    by_cases hlt : j < s.size
    · have Y := Lib.hid (fun h => spnS_yes (p := dgb 16) hlt h)
      have N := Lib.hid (fun h => spnS_no (p := dgb 16) hlt h)
      by_cases hg : dgI (s[j].toNat : Int) = true
      · have B := Lib.hid (Y.out (by unfold dgb dgt; rw [hg]; rfl))
        go_wp2_with (first | (go_at_call 50; refine (rletter_any _ _).mono ?_; rintro e w' ⟨rfl, rfl⟩) | (go_at_call 51; refine (rdig_any _ _).mono ?_; rintro e w' ⟨rfl, rfl⟩) | (go_at_call 52; refine (hex_any _ _).mono ?_; rintro e w' ⟨rfl, rfl⟩) | (go_at_call 53; refine (VC.out _).mono ?_; rintro e w' ⟨rfl, rfl⟩))
        go_round
        case rel => exact ⟨j + 1, by omega, by omega, by go_num, by have h1 := B.out; have h2 := JE.out; omega⟩
        case measure => simp [intOf]; omega
      · have hg' : dgI (s[j].toNat : Int) = false := by simpa using hg
        clear hg
        by_cases hh : hxI (s[j].toNat : Int) = true
        · have B := Lib.hid (Y.out (by unfold dgb dgt hxl; rw [hg', hh]; rfl))
          go_wp2_with (first | (go_at_call 50; refine (rletter_any _ _).mono ?_; rintro e w' ⟨rfl, rfl⟩) | (go_at_call 51; refine (rdig_any _ _).mono ?_; rintro e w' ⟨rfl, rfl⟩) | (go_at_call 52; refine (hex_any _ _).mono ?_; rintro e w' ⟨rfl, rfl⟩) | (go_at_call 53; refine (VC.out _).mono ?_; rintro e w' ⟨rfl, rfl⟩))
          go_round
          case rel => exact ⟨j + 1, by omega, by omega, by go_num, by have h1 := B.out; have h2 := JE.out; omega⟩
          case measure => simp [intOf]; omega
        · have hh' : hxI (s[j].toNat : Int) = false := by simpa using hh
          clear hh
          have hjE : j = 2 + E := by have h1 := N.out (by unfold dgb dgt hxl; rw [hg', hh']; rfl); have h2 := JE.out; omega
          rw [← hjE] at VCC
          by_cases hE0 : E = 0
          · have RT0 := Lib.hid (NT.out (.inl hE0))
            have RE0 := Lib.hid (NE.out (.inl hE0))
            have heq : ((j : Int) == 2) = true := by simp; omega
            clear NT NE YT YE hjE hE0
            by_cases hV : V < 2147483648
            · have VC := Lib.hid (fun W => by have h := VCC.out W; rw [val_small hV] at h; exact h)
              clear hV
              go_wp2_with (first | (go_at_call 50; refine (rletter_any _ _).mono ?_; rintro e w' ⟨rfl, rfl⟩) | (go_at_call 51; refine (rdig_any _ _).mono ?_; rintro e w' ⟨rfl, rfl⟩) | (go_at_call 52; refine (hex_any _ _).mono ?_; rintro e w' ⟨rfl, rfl⟩) | (go_at_call 53; refine (VC.out _).mono ?_; rintro e w' ⟨rfl, rfl⟩))
              exact bodyPost_ret (v := .tuple #[.agg #[.int .i64 0, .string ⟨#[]⟩, .int .i64 0, .int .i64 0], .int .i64 0]) (by simp [results, Tryd.results37, go_sem]) rfl (tk_mk (by rw [RT0.out]; rfl) (by rw [RE0.out]; rfl) (below_new _ _))
            · have VC := Lib.hid (fun W => by have h := VCC.out W; rw [val_great (by omega)] at h; exact h)
              clear hV
              go_wp2_with (first | (go_at_call 50; refine (rletter_any _ _).mono ?_; rintro e w' ⟨rfl, rfl⟩) | (go_at_call 51; refine (rdig_any _ _).mono ?_; rintro e w' ⟨rfl, rfl⟩) | (go_at_call 52; refine (hex_any _ _).mono ?_; rintro e w' ⟨rfl, rfl⟩) | (go_at_call 53; refine (VC.out _).mono ?_; rintro e w' ⟨rfl, rfl⟩))
              exact bodyPost_ret (v := .tuple #[.agg #[.int .i64 0, .string ⟨#[]⟩, .int .i64 0, .int .i64 0], .int .i64 0]) (by simp [results, Tryd.results37, go_sem]) rfl (tk_mk (by rw [RT0.out]; rfl) (by rw [RE0.out]; rfl) (below_new _ _))
          · have heq : ((j : Int) == 2) = false := by rw [beq_eq_false_iff_ne]; omega
            by_cases hV : V < 2147483648
            · have VC := Lib.hid (fun W => by have h := VCC.out W; rw [val_small hV] at h; exact h)
              have RT1 := Lib.hid (YT.out (by omega))
              have RE1 := Lib.hid (YE.out (by omega))
              have hjj := Lib.hid hjE
              clear hV NT NE YT YE hE0 hjE
              go_wp2_with (first | (go_at_call 50; refine (rletter_any _ _).mono ?_; rintro e w' ⟨rfl, rfl⟩) | (go_at_call 51; refine (rdig_any _ _).mono ?_; rintro e w' ⟨rfl, rfl⟩) | (go_at_call 52; refine (hex_any _ _).mono ?_; rintro e w' ⟨rfl, rfl⟩) | (go_at_call 53; refine (VC.out _).mono ?_; rintro e w' ⟨rfl, rfl⟩))
              exact bodyPost_ret (v := .tuple #[.agg #[.int .i64 2, .string ⟨#[]⟩, .int .i64 (V : Nat), .int .i64 0], .int .i64 (j : Int)]) (by simp [results, Tryd.results37, go_sem]) rfl (tk_mk (by rw [RT1.out]; rfl) (by rw [RE1.out, hjj.out]) (below_new _ _))
            · have VC := Lib.hid (fun W => by have h := VCC.out W; rw [val_great (by omega)] at h; exact h)
              have RT0 := Lib.hid (NT.out (.inr (by omega)))
              have RE0 := Lib.hid (NE.out (.inr (by omega)))
              clear hV NT NE YT YE hE0 hjE
              go_wp2_with (first | (go_at_call 50; refine (rletter_any _ _).mono ?_; rintro e w' ⟨rfl, rfl⟩) | (go_at_call 51; refine (rdig_any _ _).mono ?_; rintro e w' ⟨rfl, rfl⟩) | (go_at_call 52; refine (hex_any _ _).mono ?_; rintro e w' ⟨rfl, rfl⟩) | (go_at_call 53; refine (VC.out _).mono ?_; rintro e w' ⟨rfl, rfl⟩))
              exact bodyPost_ret (v := .tuple #[.agg #[.int .i64 0, .string ⟨#[]⟩, .int .i64 0, .int .i64 0], .int .i64 0]) (by simp [results, Tryd.results37, go_sem]) rfl (tk_mk (by rw [RT0.out]; rfl) (by rw [RE0.out]; rfl) (below_new _ _))
    · have hjE : j = 2 + E := by have h1 := spnS_end (p := dgb 16) (s := s) (k := j) (by omega); have h2 := JE.out; omega
      rw [← hjE] at VCC
      by_cases hE0 : E = 0
      · have RT0 := Lib.hid (NT.out (.inl hE0))
        have RE0 := Lib.hid (NE.out (.inl hE0))
        have heq : ((j : Int) == 2) = true := by simp; omega
        clear NT NE YT YE hjE hE0
        by_cases hV : V < 2147483648
        · have VC := Lib.hid (fun W => by have h := VCC.out W; rw [val_small hV] at h; exact h)
          clear hV
          go_wp2_with (first | (go_at_call 50; refine (rletter_any _ _).mono ?_; rintro e w' ⟨rfl, rfl⟩) | (go_at_call 51; refine (rdig_any _ _).mono ?_; rintro e w' ⟨rfl, rfl⟩) | (go_at_call 52; refine (hex_any _ _).mono ?_; rintro e w' ⟨rfl, rfl⟩) | (go_at_call 53; refine (VC.out _).mono ?_; rintro e w' ⟨rfl, rfl⟩))
          exact bodyPost_ret (v := .tuple #[.agg #[.int .i64 0, .string ⟨#[]⟩, .int .i64 0, .int .i64 0], .int .i64 0]) (by simp [results, Tryd.results37, go_sem]) rfl (tk_mk (by rw [RT0.out]; rfl) (by rw [RE0.out]; rfl) (below_new _ _))
        · have VC := Lib.hid (fun W => by have h := VCC.out W; rw [val_great (by omega)] at h; exact h)
          clear hV
          go_wp2_with (first | (go_at_call 50; refine (rletter_any _ _).mono ?_; rintro e w' ⟨rfl, rfl⟩) | (go_at_call 51; refine (rdig_any _ _).mono ?_; rintro e w' ⟨rfl, rfl⟩) | (go_at_call 52; refine (hex_any _ _).mono ?_; rintro e w' ⟨rfl, rfl⟩) | (go_at_call 53; refine (VC.out _).mono ?_; rintro e w' ⟨rfl, rfl⟩))
          exact bodyPost_ret (v := .tuple #[.agg #[.int .i64 0, .string ⟨#[]⟩, .int .i64 0, .int .i64 0], .int .i64 0]) (by simp [results, Tryd.results37, go_sem]) rfl (tk_mk (by rw [RT0.out]; rfl) (by rw [RE0.out]; rfl) (below_new _ _))
      · have heq : ((j : Int) == 2) = false := by rw [beq_eq_false_iff_ne]; omega
        by_cases hV : V < 2147483648
        · have VC := Lib.hid (fun W => by have h := VCC.out W; rw [val_small hV] at h; exact h)
          have RT1 := Lib.hid (YT.out (by omega))
          have RE1 := Lib.hid (YE.out (by omega))
          have hjj := Lib.hid hjE
          clear hV NT NE YT YE hE0 hjE
          go_wp2_with (first | (go_at_call 50; refine (rletter_any _ _).mono ?_; rintro e w' ⟨rfl, rfl⟩) | (go_at_call 51; refine (rdig_any _ _).mono ?_; rintro e w' ⟨rfl, rfl⟩) | (go_at_call 52; refine (hex_any _ _).mono ?_; rintro e w' ⟨rfl, rfl⟩) | (go_at_call 53; refine (VC.out _).mono ?_; rintro e w' ⟨rfl, rfl⟩))
          exact bodyPost_ret (v := .tuple #[.agg #[.int .i64 2, .string ⟨#[]⟩, .int .i64 (V : Nat), .int .i64 0], .int .i64 (j : Int)]) (by simp [results, Tryd.results37, go_sem]) rfl (tk_mk (by rw [RT1.out]; rfl) (by rw [RE1.out, hjj.out]) (below_new _ _))
        · have VC := Lib.hid (fun W => by have h := VCC.out W; rw [val_great (by omega)] at h; exact h)
          have RT0 := Lib.hid (NT.out (.inr (by omega)))
          have RE0 := Lib.hid (NE.out (.inr (by omega)))
          clear hV NT NE YT YE hE0 hjE
          go_wp2_with (first | (go_at_call 50; refine (rletter_any _ _).mono ?_; rintro e w' ⟨rfl, rfl⟩) | (go_at_call 51; refine (rdig_any _ _).mono ?_; rintro e w' ⟨rfl, rfl⟩) | (go_at_call 52; refine (hex_any _ _).mono ?_; rintro e w' ⟨rfl, rfl⟩) | (go_at_call 53; refine (VC.out _).mono ?_; rintro e w' ⟨rfl, rfl⟩))
          exact bodyPost_ret (v := .tuple #[.agg #[.int .i64 0, .string ⟨#[]⟩, .int .i64 0, .int .i64 0], .int .i64 0]) (by simp [results, Tryd.results37, go_sem]) rfl (tk_mk (by rw [RT0.out]; rfl) (by rw [RE0.out]; rfl) (below_new _ _))
set_option maxHeartbeats 2000000 in
theorem onum10 (s : ByteArray) (w : World) (hs : s.size ≤ maxLen) (hk : 0 < s.size) (hl : ltI (s[0].toNat : Int) = false) (hd : dgI (s[0].toNat : Int) = true) (hx : hex0 s.data.toList = false) :
    Calls Tryd.prog 37 #[.string s] w (TkPost (numT 10 (s.data.toList.drop 0) 0) (numE 10 (s.data.toList.drop 0) 0 0) w) := by
  have hle := spnS_le (dgb 10) s 0
  have VCC := Lib.hid (fun W => value10 (s.extract 0 (0 + spn (dgb 10) (s.data.toList.drop 0))) W (ext_size s _ _ hs) (all_ext 10 s 0 _ rfl))
  rw [fin_ext 10 s 0 _ rfl] at VCC
  unfold maxLen at hs
  have NT := Lib.hid (@numT_no 10 (s.data.toList.drop 0) 0)
  have NE := Lib.hid (@numE_no 10 (s.data.toList.drop 0) 0 0)
  have YT := Lib.hid (@numT_yes 10 (s.data.toList.drop 0) 0)
  have YE := Lib.hid (@numE_yes 10 (s.data.toList.drop 0) 0 0)
  generalize numT 10 (s.data.toList.drop 0) 0 = RT at *
  generalize numE 10 (s.data.toList.drop 0) 0 0 = RE at *
  generalize hE : spn (dgb 10) (s.data.toList.drop 0) = E at *
  generalize fin 10 0 (s.data.toList.drop 0) = V at *
  have HE := Lib.hid hE
  clear hE
  have hxt := hex_no hx
  clear hx
  by_cases h2 : 1 < s.size
  · have h1 : (1 : Int) < (s.size : Int) := by omega
    clear h2
    go_enter Tryd.func37, Tryd.ntmps37
    go_wp2_with (first | (go_at_call 50; refine (rletter_any _ _).mono ?_; rintro e w' ⟨rfl, rfl⟩) | (go_at_call 51; refine (rdig_any _ _).mono ?_; rintro e w' ⟨rfl, rfl⟩) | (go_at_call 52; refine (hex_any _ _).mono ?_; rintro e w' ⟨rfl, rfl⟩) | (go_at_call 53; refine (VC.out _).mono ?_; rintro e w' ⟨rfl, rfl⟩))
    go_loop [4] (fun a => ∃ j : Nat, 0 ≤ j ∧ j ≤ s.size ∧ a = .int .i64 j ∧ j + spn (dgb 10) (s.data.toList.drop j) = 0 + E) (fun a => s.size - (intOf a).toNat)
    case atStart => exact ⟨0, Nat.le_refl _, by omega, rfl, by rw [HE.out]⟩
    case round =>
      clear hl hd
      obtain ⟨j, hFj, hj, rfl, he⟩ := hrel
      have JE := Lib.hid he
      clear he
      by_cases hlt : j < s.size
      · have Y := Lib.hid (fun h => spnS_yes (p := dgb 10) hlt h)
        have N := Lib.hid (fun h => spnS_no (p := dgb 10) hlt h)
        by_cases hg : dgI (s[j].toNat : Int) = true
        · have B := Lib.hid (Y.out (by unfold dgb dgt; rw [hg]; rfl))
          go_wp2_with (first | (go_at_call 50; refine (rletter_any _ _).mono ?_; rintro e w' ⟨rfl, rfl⟩) | (go_at_call 51; refine (rdig_any _ _).mono ?_; rintro e w' ⟨rfl, rfl⟩) | (go_at_call 52; refine (hex_any _ _).mono ?_; rintro e w' ⟨rfl, rfl⟩) | (go_at_call 53; refine (VC.out _).mono ?_; rintro e w' ⟨rfl, rfl⟩))
          go_round
          case rel => exact ⟨j + 1, by omega, by omega, by go_num, by have h1 := B.out; have h2 := JE.out; omega⟩
          case measure => simp [intOf]; omega
        · have hg' : dgI (s[j].toNat : Int) = false := by simpa using hg
          clear hg
          have hjE : j = 0 + E := by have h1 := N.out (by unfold dgb dgt; rw [hg']; rfl); have h2 := JE.out; omega
          rw [← hjE] at VCC
          by_cases hE0 : E = 0
          · have RT0 := Lib.hid (NT.out (.inl hE0))
            have RE0 := Lib.hid (NE.out (.inl hE0))
            have heq : ((j : Int) == 0) = true := by simp; omega
            clear NT NE YT YE hjE hE0
            by_cases hV : V < 2147483648
            · have VC := Lib.hid (fun W => by have h := VCC.out W; rw [val_small hV] at h; exact h)
              clear hV
              go_wp2_with (first | (go_at_call 50; refine (rletter_any _ _).mono ?_; rintro e w' ⟨rfl, rfl⟩) | (go_at_call 51; refine (rdig_any _ _).mono ?_; rintro e w' ⟨rfl, rfl⟩) | (go_at_call 52; refine (hex_any _ _).mono ?_; rintro e w' ⟨rfl, rfl⟩) | (go_at_call 53; refine (VC.out _).mono ?_; rintro e w' ⟨rfl, rfl⟩))
              exact bodyPost_ret (v := .tuple #[.agg #[.int .i64 0, .string ⟨#[]⟩, .int .i64 0, .int .i64 0], .int .i64 0]) (by simp [results, Tryd.results37, go_sem]) rfl (tk_mk (by rw [RT0.out]; rfl) (by rw [RE0.out]; rfl) (below_new _ _))
            · have VC := Lib.hid (fun W => by have h := VCC.out W; rw [val_great (by omega)] at h; exact h)
              clear hV
              go_wp2_with (first | (go_at_call 50; refine (rletter_any _ _).mono ?_; rintro e w' ⟨rfl, rfl⟩) | (go_at_call 51; refine (rdig_any _ _).mono ?_; rintro e w' ⟨rfl, rfl⟩) | (go_at_call 52; refine (hex_any _ _).mono ?_; rintro e w' ⟨rfl, rfl⟩) | (go_at_call 53; refine (VC.out _).mono ?_; rintro e w' ⟨rfl, rfl⟩))
              exact bodyPost_ret (v := .tuple #[.agg #[.int .i64 0, .string ⟨#[]⟩, .int .i64 0, .int .i64 0], .int .i64 0]) (by simp [results, Tryd.results37, go_sem]) rfl (tk_mk (by rw [RT0.out]; rfl) (by rw [RE0.out]; rfl) (below_new _ _))
          · have heq : ((j : Int) == 0) = false := by rw [beq_eq_false_iff_ne]; omega
            by_cases hV : V < 2147483648
            · have VC := Lib.hid (fun W => by have h := VCC.out W; rw [val_small hV] at h; exact h)
              have RT1 := Lib.hid (YT.out (by omega))
              have RE1 := Lib.hid (YE.out (by omega))
              have hjj := Lib.hid hjE
              clear hV NT NE YT YE hE0 hjE
              go_wp2_with (first | (go_at_call 50; refine (rletter_any _ _).mono ?_; rintro e w' ⟨rfl, rfl⟩) | (go_at_call 51; refine (rdig_any _ _).mono ?_; rintro e w' ⟨rfl, rfl⟩) | (go_at_call 52; refine (hex_any _ _).mono ?_; rintro e w' ⟨rfl, rfl⟩) | (go_at_call 53; refine (VC.out _).mono ?_; rintro e w' ⟨rfl, rfl⟩))
              exact bodyPost_ret (v := .tuple #[.agg #[.int .i64 2, .string ⟨#[]⟩, .int .i64 (V : Nat), .int .i64 0], .int .i64 (j : Int)]) (by simp [results, Tryd.results37, go_sem]) rfl (tk_mk (by rw [RT1.out]; rfl) (by rw [RE1.out, hjj.out]) (below_new _ _))
            · have VC := Lib.hid (fun W => by have h := VCC.out W; rw [val_great (by omega)] at h; exact h)
              have RT0 := Lib.hid (NT.out (.inr (by omega)))
              have RE0 := Lib.hid (NE.out (.inr (by omega)))
              clear hV NT NE YT YE hE0 hjE
              go_wp2_with (first | (go_at_call 50; refine (rletter_any _ _).mono ?_; rintro e w' ⟨rfl, rfl⟩) | (go_at_call 51; refine (rdig_any _ _).mono ?_; rintro e w' ⟨rfl, rfl⟩) | (go_at_call 52; refine (hex_any _ _).mono ?_; rintro e w' ⟨rfl, rfl⟩) | (go_at_call 53; refine (VC.out _).mono ?_; rintro e w' ⟨rfl, rfl⟩))
              exact bodyPost_ret (v := .tuple #[.agg #[.int .i64 0, .string ⟨#[]⟩, .int .i64 0, .int .i64 0], .int .i64 0]) (by simp [results, Tryd.results37, go_sem]) rfl (tk_mk (by rw [RT0.out]; rfl) (by rw [RE0.out]; rfl) (below_new _ _))
      · have hjE : j = 0 + E := by have h1 := spnS_end (p := dgb 10) (s := s) (k := j) (by omega); have h2 := JE.out; omega
        rw [← hjE] at VCC
        by_cases hE0 : E = 0
        · have RT0 := Lib.hid (NT.out (.inl hE0))
          have RE0 := Lib.hid (NE.out (.inl hE0))
          have heq : ((j : Int) == 0) = true := by simp; omega
          clear NT NE YT YE hjE hE0
          by_cases hV : V < 2147483648
          · have VC := Lib.hid (fun W => by have h := VCC.out W; rw [val_small hV] at h; exact h)
            clear hV
            go_wp2_with (first | (go_at_call 50; refine (rletter_any _ _).mono ?_; rintro e w' ⟨rfl, rfl⟩) | (go_at_call 51; refine (rdig_any _ _).mono ?_; rintro e w' ⟨rfl, rfl⟩) | (go_at_call 52; refine (hex_any _ _).mono ?_; rintro e w' ⟨rfl, rfl⟩) | (go_at_call 53; refine (VC.out _).mono ?_; rintro e w' ⟨rfl, rfl⟩))
            exact bodyPost_ret (v := .tuple #[.agg #[.int .i64 0, .string ⟨#[]⟩, .int .i64 0, .int .i64 0], .int .i64 0]) (by simp [results, Tryd.results37, go_sem]) rfl (tk_mk (by rw [RT0.out]; rfl) (by rw [RE0.out]; rfl) (below_new _ _))
          · have VC := Lib.hid (fun W => by have h := VCC.out W; rw [val_great (by omega)] at h; exact h)
            clear hV
            go_wp2_with (first | (go_at_call 50; refine (rletter_any _ _).mono ?_; rintro e w' ⟨rfl, rfl⟩) | (go_at_call 51; refine (rdig_any _ _).mono ?_; rintro e w' ⟨rfl, rfl⟩) | (go_at_call 52; refine (hex_any _ _).mono ?_; rintro e w' ⟨rfl, rfl⟩) | (go_at_call 53; refine (VC.out _).mono ?_; rintro e w' ⟨rfl, rfl⟩))
            exact bodyPost_ret (v := .tuple #[.agg #[.int .i64 0, .string ⟨#[]⟩, .int .i64 0, .int .i64 0], .int .i64 0]) (by simp [results, Tryd.results37, go_sem]) rfl (tk_mk (by rw [RT0.out]; rfl) (by rw [RE0.out]; rfl) (below_new _ _))
        · have heq : ((j : Int) == 0) = false := by rw [beq_eq_false_iff_ne]; omega
          by_cases hV : V < 2147483648
          · have VC := Lib.hid (fun W => by have h := VCC.out W; rw [val_small hV] at h; exact h)
            have RT1 := Lib.hid (YT.out (by omega))
            have RE1 := Lib.hid (YE.out (by omega))
            have hjj := Lib.hid hjE
            clear hV NT NE YT YE hE0 hjE
            go_wp2_with (first | (go_at_call 50; refine (rletter_any _ _).mono ?_; rintro e w' ⟨rfl, rfl⟩) | (go_at_call 51; refine (rdig_any _ _).mono ?_; rintro e w' ⟨rfl, rfl⟩) | (go_at_call 52; refine (hex_any _ _).mono ?_; rintro e w' ⟨rfl, rfl⟩) | (go_at_call 53; refine (VC.out _).mono ?_; rintro e w' ⟨rfl, rfl⟩))
            exact bodyPost_ret (v := .tuple #[.agg #[.int .i64 2, .string ⟨#[]⟩, .int .i64 (V : Nat), .int .i64 0], .int .i64 (j : Int)]) (by simp [results, Tryd.results37, go_sem]) rfl (tk_mk (by rw [RT1.out]; rfl) (by rw [RE1.out, hjj.out]) (below_new _ _))
          · have VC := Lib.hid (fun W => by have h := VCC.out W; rw [val_great (by omega)] at h; exact h)
            have RT0 := Lib.hid (NT.out (.inr (by omega)))
            have RE0 := Lib.hid (NE.out (.inr (by omega)))
            clear hV NT NE YT YE hE0 hjE
            go_wp2_with (first | (go_at_call 50; refine (rletter_any _ _).mono ?_; rintro e w' ⟨rfl, rfl⟩) | (go_at_call 51; refine (rdig_any _ _).mono ?_; rintro e w' ⟨rfl, rfl⟩) | (go_at_call 52; refine (hex_any _ _).mono ?_; rintro e w' ⟨rfl, rfl⟩) | (go_at_call 53; refine (VC.out _).mono ?_; rintro e w' ⟨rfl, rfl⟩))
            exact bodyPost_ret (v := .tuple #[.agg #[.int .i64 0, .string ⟨#[]⟩, .int .i64 0, .int .i64 0], .int .i64 0]) (by simp [results, Tryd.results37, go_sem]) rfl (tk_mk (by rw [RT0.out]; rfl) (by rw [RE0.out]; rfl) (below_new _ _))
  · have h1 : decide ((1 : Int) < (s.size : Int)) = false := by simp; omega
    clear h2 hxt
    go_enter Tryd.func37, Tryd.ntmps37
    go_wp2_with (first | (go_at_call 50; refine (rletter_any _ _).mono ?_; rintro e w' ⟨rfl, rfl⟩) | (go_at_call 51; refine (rdig_any _ _).mono ?_; rintro e w' ⟨rfl, rfl⟩) | (go_at_call 52; refine (hex_any _ _).mono ?_; rintro e w' ⟨rfl, rfl⟩) | (go_at_call 53; refine (VC.out _).mono ?_; rintro e w' ⟨rfl, rfl⟩))
    go_loop [4] (fun a => ∃ j : Nat, 0 ≤ j ∧ j ≤ s.size ∧ a = .int .i64 j ∧ j + spn (dgb 10) (s.data.toList.drop j) = 0 + E) (fun a => s.size - (intOf a).toNat)
    case atStart => exact ⟨0, Nat.le_refl _, by omega, rfl, by rw [HE.out]⟩
    case round =>
      clear hl hd
      obtain ⟨j, hFj, hj, rfl, he⟩ := hrel
      have JE := Lib.hid he
      clear he
      by_cases hlt : j < s.size
      · have Y := Lib.hid (fun h => spnS_yes (p := dgb 10) hlt h)
        have N := Lib.hid (fun h => spnS_no (p := dgb 10) hlt h)
        by_cases hg : dgI (s[j].toNat : Int) = true
        · have B := Lib.hid (Y.out (by unfold dgb dgt; rw [hg]; rfl))
          go_wp2_with (first | (go_at_call 50; refine (rletter_any _ _).mono ?_; rintro e w' ⟨rfl, rfl⟩) | (go_at_call 51; refine (rdig_any _ _).mono ?_; rintro e w' ⟨rfl, rfl⟩) | (go_at_call 52; refine (hex_any _ _).mono ?_; rintro e w' ⟨rfl, rfl⟩) | (go_at_call 53; refine (VC.out _).mono ?_; rintro e w' ⟨rfl, rfl⟩))
          go_round
          case rel => exact ⟨j + 1, by omega, by omega, by go_num, by have h1 := B.out; have h2 := JE.out; omega⟩
          case measure => simp [intOf]; omega
        · have hg' : dgI (s[j].toNat : Int) = false := by simpa using hg
          clear hg
          have hjE : j = 0 + E := by have h1 := N.out (by unfold dgb dgt; rw [hg']; rfl); have h2 := JE.out; omega
          rw [← hjE] at VCC
          by_cases hE0 : E = 0
          · have RT0 := Lib.hid (NT.out (.inl hE0))
            have RE0 := Lib.hid (NE.out (.inl hE0))
            have heq : ((j : Int) == 0) = true := by simp; omega
            clear NT NE YT YE hjE hE0
            by_cases hV : V < 2147483648
            · have VC := Lib.hid (fun W => by have h := VCC.out W; rw [val_small hV] at h; exact h)
              clear hV
              go_wp2_with (first | (go_at_call 50; refine (rletter_any _ _).mono ?_; rintro e w' ⟨rfl, rfl⟩) | (go_at_call 51; refine (rdig_any _ _).mono ?_; rintro e w' ⟨rfl, rfl⟩) | (go_at_call 52; refine (hex_any _ _).mono ?_; rintro e w' ⟨rfl, rfl⟩) | (go_at_call 53; refine (VC.out _).mono ?_; rintro e w' ⟨rfl, rfl⟩))
              exact bodyPost_ret (v := .tuple #[.agg #[.int .i64 0, .string ⟨#[]⟩, .int .i64 0, .int .i64 0], .int .i64 0]) (by simp [results, Tryd.results37, go_sem]) rfl (tk_mk (by rw [RT0.out]; rfl) (by rw [RE0.out]; rfl) (below_new _ _))
            · have VC := Lib.hid (fun W => by have h := VCC.out W; rw [val_great (by omega)] at h; exact h)
              clear hV
              go_wp2_with (first | (go_at_call 50; refine (rletter_any _ _).mono ?_; rintro e w' ⟨rfl, rfl⟩) | (go_at_call 51; refine (rdig_any _ _).mono ?_; rintro e w' ⟨rfl, rfl⟩) | (go_at_call 52; refine (hex_any _ _).mono ?_; rintro e w' ⟨rfl, rfl⟩) | (go_at_call 53; refine (VC.out _).mono ?_; rintro e w' ⟨rfl, rfl⟩))
              exact bodyPost_ret (v := .tuple #[.agg #[.int .i64 0, .string ⟨#[]⟩, .int .i64 0, .int .i64 0], .int .i64 0]) (by simp [results, Tryd.results37, go_sem]) rfl (tk_mk (by rw [RT0.out]; rfl) (by rw [RE0.out]; rfl) (below_new _ _))
          · have heq : ((j : Int) == 0) = false := by rw [beq_eq_false_iff_ne]; omega
            by_cases hV : V < 2147483648
            · have VC := Lib.hid (fun W => by have h := VCC.out W; rw [val_small hV] at h; exact h)
              have RT1 := Lib.hid (YT.out (by omega))
              have RE1 := Lib.hid (YE.out (by omega))
              have hjj := Lib.hid hjE
              clear hV NT NE YT YE hE0 hjE
              go_wp2_with (first | (go_at_call 50; refine (rletter_any _ _).mono ?_; rintro e w' ⟨rfl, rfl⟩) | (go_at_call 51; refine (rdig_any _ _).mono ?_; rintro e w' ⟨rfl, rfl⟩) | (go_at_call 52; refine (hex_any _ _).mono ?_; rintro e w' ⟨rfl, rfl⟩) | (go_at_call 53; refine (VC.out _).mono ?_; rintro e w' ⟨rfl, rfl⟩))
              exact bodyPost_ret (v := .tuple #[.agg #[.int .i64 2, .string ⟨#[]⟩, .int .i64 (V : Nat), .int .i64 0], .int .i64 (j : Int)]) (by simp [results, Tryd.results37, go_sem]) rfl (tk_mk (by rw [RT1.out]; rfl) (by rw [RE1.out, hjj.out]) (below_new _ _))
            · have VC := Lib.hid (fun W => by have h := VCC.out W; rw [val_great (by omega)] at h; exact h)
              have RT0 := Lib.hid (NT.out (.inr (by omega)))
              have RE0 := Lib.hid (NE.out (.inr (by omega)))
              clear hV NT NE YT YE hE0 hjE
              go_wp2_with (first | (go_at_call 50; refine (rletter_any _ _).mono ?_; rintro e w' ⟨rfl, rfl⟩) | (go_at_call 51; refine (rdig_any _ _).mono ?_; rintro e w' ⟨rfl, rfl⟩) | (go_at_call 52; refine (hex_any _ _).mono ?_; rintro e w' ⟨rfl, rfl⟩) | (go_at_call 53; refine (VC.out _).mono ?_; rintro e w' ⟨rfl, rfl⟩))
              exact bodyPost_ret (v := .tuple #[.agg #[.int .i64 0, .string ⟨#[]⟩, .int .i64 0, .int .i64 0], .int .i64 0]) (by simp [results, Tryd.results37, go_sem]) rfl (tk_mk (by rw [RT0.out]; rfl) (by rw [RE0.out]; rfl) (below_new _ _))
      · have hjE : j = 0 + E := by have h1 := spnS_end (p := dgb 10) (s := s) (k := j) (by omega); have h2 := JE.out; omega
        rw [← hjE] at VCC
        by_cases hE0 : E = 0
        · have RT0 := Lib.hid (NT.out (.inl hE0))
          have RE0 := Lib.hid (NE.out (.inl hE0))
          have heq : ((j : Int) == 0) = true := by simp; omega
          clear NT NE YT YE hjE hE0
          by_cases hV : V < 2147483648
          · have VC := Lib.hid (fun W => by have h := VCC.out W; rw [val_small hV] at h; exact h)
            clear hV
            go_wp2_with (first | (go_at_call 50; refine (rletter_any _ _).mono ?_; rintro e w' ⟨rfl, rfl⟩) | (go_at_call 51; refine (rdig_any _ _).mono ?_; rintro e w' ⟨rfl, rfl⟩) | (go_at_call 52; refine (hex_any _ _).mono ?_; rintro e w' ⟨rfl, rfl⟩) | (go_at_call 53; refine (VC.out _).mono ?_; rintro e w' ⟨rfl, rfl⟩))
            exact bodyPost_ret (v := .tuple #[.agg #[.int .i64 0, .string ⟨#[]⟩, .int .i64 0, .int .i64 0], .int .i64 0]) (by simp [results, Tryd.results37, go_sem]) rfl (tk_mk (by rw [RT0.out]; rfl) (by rw [RE0.out]; rfl) (below_new _ _))
          · have VC := Lib.hid (fun W => by have h := VCC.out W; rw [val_great (by omega)] at h; exact h)
            clear hV
            go_wp2_with (first | (go_at_call 50; refine (rletter_any _ _).mono ?_; rintro e w' ⟨rfl, rfl⟩) | (go_at_call 51; refine (rdig_any _ _).mono ?_; rintro e w' ⟨rfl, rfl⟩) | (go_at_call 52; refine (hex_any _ _).mono ?_; rintro e w' ⟨rfl, rfl⟩) | (go_at_call 53; refine (VC.out _).mono ?_; rintro e w' ⟨rfl, rfl⟩))
            exact bodyPost_ret (v := .tuple #[.agg #[.int .i64 0, .string ⟨#[]⟩, .int .i64 0, .int .i64 0], .int .i64 0]) (by simp [results, Tryd.results37, go_sem]) rfl (tk_mk (by rw [RT0.out]; rfl) (by rw [RE0.out]; rfl) (below_new _ _))
        · have heq : ((j : Int) == 0) = false := by rw [beq_eq_false_iff_ne]; omega
          by_cases hV : V < 2147483648
          · have VC := Lib.hid (fun W => by have h := VCC.out W; rw [val_small hV] at h; exact h)
            have RT1 := Lib.hid (YT.out (by omega))
            have RE1 := Lib.hid (YE.out (by omega))
            have hjj := Lib.hid hjE
            clear hV NT NE YT YE hE0 hjE
            go_wp2_with (first | (go_at_call 50; refine (rletter_any _ _).mono ?_; rintro e w' ⟨rfl, rfl⟩) | (go_at_call 51; refine (rdig_any _ _).mono ?_; rintro e w' ⟨rfl, rfl⟩) | (go_at_call 52; refine (hex_any _ _).mono ?_; rintro e w' ⟨rfl, rfl⟩) | (go_at_call 53; refine (VC.out _).mono ?_; rintro e w' ⟨rfl, rfl⟩))
            exact bodyPost_ret (v := .tuple #[.agg #[.int .i64 2, .string ⟨#[]⟩, .int .i64 (V : Nat), .int .i64 0], .int .i64 (j : Int)]) (by simp [results, Tryd.results37, go_sem]) rfl (tk_mk (by rw [RT1.out]; rfl) (by rw [RE1.out, hjj.out]) (below_new _ _))
          · have VC := Lib.hid (fun W => by have h := VCC.out W; rw [val_great (by omega)] at h; exact h)
            have RT0 := Lib.hid (NT.out (.inr (by omega)))
            have RE0 := Lib.hid (NE.out (.inr (by omega)))
            clear hV NT NE YT YE hE0 hjE
            go_wp2_with (first | (go_at_call 50; refine (rletter_any _ _).mono ?_; rintro e w' ⟨rfl, rfl⟩) | (go_at_call 51; refine (rdig_any _ _).mono ?_; rintro e w' ⟨rfl, rfl⟩) | (go_at_call 52; refine (hex_any _ _).mono ?_; rintro e w' ⟨rfl, rfl⟩) | (go_at_call 53; refine (VC.out _).mono ?_; rintro e w' ⟨rfl, rfl⟩))
            exact bodyPost_ret (v := .tuple #[.agg #[.int .i64 0, .string ⟨#[]⟩, .int .i64 0, .int .i64 0], .int .i64 0]) (by simp [results, Tryd.results37, go_sem]) rfl (tk_mk (by rw [RT0.out]; rfl) (by rw [RE0.out]; rfl) (below_new _ _))
end Go.Proofs.YtddbfhdhldnoiaaDoor
