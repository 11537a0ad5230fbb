/-
  Contract of the page: the word that any text begins with; the words of any line, or where it is none: the same as the program tells. It makes new memory alone.
-/
import Derived.Test.YtddbfhdhldnoiaaDoorLh
import Derived.Test.YtddbfhdhldnoiaaDoorLd
namespace Go.Proofs.YtddbfhdhldnoiaaDoor
open Go.RowKit

def o1T (l : List UInt8) : Tk := match wd1 l with | none => Tk.none | some (t, _) => t
def o1E (l : List UInt8) : Nat := match wd1 l with | none => 0 | some (_, n) => n
theorem o1_none {l : List UInt8} (h : wd1 l = none) : o1T l = Tk.none ∧ o1E l = 0 := by unfold o1T o1E; rw [h]; exact ⟨rfl, rfl⟩
theorem o1_some {l : List UInt8} {n : Nat} {t : Tk} (h : wd1 l = some (t, n)) : o1T l = t ∧ o1E l = n := by unfold o1T o1E; rw [h]; exact ⟨rfl, rfl⟩
theorem one_any (s : ByteArray) (w : World) (hs : s.size ≤ maxLen) (hk : 0 < s.size) : Calls Tryd.prog 37 #[.string s] w (TkPost (o1T s.data.toList) (o1E s.data.toList : Nat) w) := by
  have hkl : 0 < s.data.toList.length := by simpa using hk
  have hc : s.data.toList = s[0] :: s.data.toList.drop 1 := by have := drop_at hkl; rw [List.drop_zero] at this; exact this
  by_cases hl : ltI (s[0].toNat : Int) = true
  · by_cases hn : spn nmc s.data.toList ≤ 12
    · have e : wd1 s.data.toList = some (⟨1, s.data.toList.take (spn nmc s.data.toList), 0, 0⟩, spn nmc s.data.toList) := by
        rw [hc] at hn ⊢
        simp only [wd1]
        rw [if_pos (show ltr s[0] = true from hl), if_pos hn]
      rw [post_eq (o1_some e).1.symm (by rw [(o1_some e).2])]
      exact one_yes s w hs hk hl hn
    · have e : wd1 s.data.toList = none := by
        rw [hc] at hn ⊢
        simp only [wd1]
        rw [if_pos (show ltr s[0] = true from hl), if_neg hn]
      rw [post_eq (o1_none e).1.symm (show (0 : Int) = ((o1E s.data.toList : Nat) : Int) by rw [(o1_none e).2]; rfl)]
      exact one_no s w hs hk hl (by omega)
  · have hl' : ltI (s[0].toNat : Int) = false := by simpa using hl
    have hlr : ¬ ltr s[0] = true := hl
    by_cases hd : dgI (s[0].toNat : Int) = true
    · have hdr : dgt s[0] = true := hd
      by_cases hx : hex0 s.data.toList = true
      · have hk2 : 2 ≤ s.size := by have := hex_len hx; simpa using this
        by_cases hz : spn (dgb 16) (s.data.toList.drop 2) = 0 ∨ 2147483648 ≤ fin 16 0 (s.data.toList.drop 2)
        · have e : wd1 s.data.toList = none := by
            rw [hc] at hx hz ⊢
            simp only [wd1]
            rw [if_neg hlr, if_pos hdr, if_pos hx, if_pos hz]
          rw [post_eq ((o1_none e).1.trans (numT_no hz (k := 0)).symm).symm (show numE 16 (s.data.toList.drop 2) 0 2 = ((o1E s.data.toList : Nat) : Int) by rw [(o1_none e).2, numE_no hz])]
          exact onum16 s w hs hk hl' hd hx hk2
        · have e : wd1 s.data.toList = some (⟨2, [], (fin 16 0 (s.data.toList.drop 2) : Nat), 0⟩, spn (dgb 16) (s.data.toList.drop 2) + 2) := by
            rw [hc] at hx hz ⊢
            simp only [wd1]
            rw [if_neg hlr, if_pos hdr, if_pos hx, if_neg hz]
          rw [post_eq ((o1_some e).1.trans (numT_yes hz (k := 0)).symm).symm (show numE 16 (s.data.toList.drop 2) 0 2 = ((o1E s.data.toList : Nat) : Int) by rw [(o1_some e).2, numE_yes hz]; congr 1; omega)]
          exact onum16 s w hs hk hl' hd hx hk2
      · have hx' : hex0 s.data.toList = false := by simpa using hx
        have h0 : spn (dgb 10) s.data.toList ≠ 0 := by
          have := spnS_yes (p := dgb 10) hk (by unfold dgb; rw [hdr]; rfl)
          rw [List.drop_zero] at this
          omega
        by_cases hz : 2147483648 ≤ fin 10 0 s.data.toList
        · have e : wd1 s.data.toList = none := by
            rw [hc] at hx hz ⊢
            simp only [wd1]
            rw [if_neg hlr, if_pos hdr, if_neg hx, if_pos hz]
          rw [post_eq ((o1_none e).1.trans (numT_no (b := 10) (r := s.data.toList) (.inr hz) (k := 0)).symm).symm (show numE 10 s.data.toList 0 0 = ((o1E s.data.toList : Nat) : Int) by rw [(o1_none e).2, numE_no (.inr hz)])]
          exact onum10 s w hs hk hl' hd hx'
        · have e : wd1 s.data.toList = some (⟨2, [], (fin 10 0 s.data.toList : Nat), 0⟩, spn (dgb 10) s.data.toList) := by
            rw [hc] at hx hz ⊢
            simp only [wd1]
            rw [if_neg hlr, if_pos hdr, if_neg hx, if_neg hz]
          have hz2 : ¬ (spn (dgb 10) s.data.toList = 0 ∨ 2147483648 ≤ fin 10 0 s.data.toList) := by omega
          rw [post_eq ((o1_some e).1.trans (numT_yes hz2 (k := 0)).symm).symm (show numE 10 s.data.toList 0 0 = ((o1E s.data.toList : Nat) : Int) by rw [(o1_some e).2, numE_yes hz2, Nat.zero_add])]
          exact onum10 s w hs hk hl' hd hx'
    · have hd' : dgI (s[0].toNat : Int) = false := by simpa using hd
      have hdr : ¬ dgt s[0] = true := hd
      by_cases hg : sgn s[0] = true
      · have e : wd1 s.data.toList = some (⟨3, [s[0]], 0, 0⟩, 1) := by
          rw [hc]
          simp only [wd1]
          rw [if_neg hlr, if_neg hdr, if_pos hg]
        rw [post_eq ((o1_some e).1.trans (sg_yes hg).1.symm).symm (show sgE s[0] = ((o1E s.data.toList : Nat) : Int) by rw [(o1_some e).2, (sg_yes hg).2]; rfl)]
        exact one_sign s w hs hk hl' hd'
      · have hg' : sgn s[0] = false := by simpa using hg
        have e : wd1 s.data.toList = none := by
          rw [hc]
          simp only [wd1]
          rw [if_neg hlr, if_neg hdr, if_neg hg]
        rw [post_eq ((o1_none e).1.trans (sg_no hg').1.symm).symm (show sgE s[0] = ((o1E s.data.toList : Nat) : Int) by rw [(o1_none e).2, (sg_no hg').2]; rfl)]
        exact one_sign s w hs hk hl' hd'
theorem con_yes {s : ByteArray} {j : Nat} (h : j < s.size) (hc : (s[j].toNat : Int) = 10) : (s.data.toList.drop j).contains 10 = true := by
  rw [drop_at (by simpa using h)]
  have : s.data.toList[j]'(by simpa using h) = 10 := UInt8.toNat_inj.1 (by show s[j].toNat = 10; omega)
  rw [this]; simp
theorem con_no {s : ByteArray} {j : Nat} (h : j < s.size) (hc : (s[j].toNat : Int) ≠ 10) : (s.data.toList.drop j).contains 10 = (s.data.toList.drop (j + 1)).contains 10 := by
  rw [drop_at (by simpa using h), List.contains_cons]
  have : ((10 : UInt8) == s.data.toList[j]'(by simpa using h)) = false := by
    rw [beq_eq_false_iff_ne]
    intro e
    apply hc
    have h2 : (10 : UInt8) = s[j] := e
    rw [← h2]; rfl
  rw [this, Bool.false_or]
set_option maxRecDepth 10000 in
set_option maxHeartbeats 2000000 in
theorem rwords_any (s : ByteArray) (w : World) (hs : s.size ≤ maxLen) : Calls Tryd.prog 33 #[.string s] w (WsPost (wds s.data.toList) w) := by
  have hs' := Lib.hid hs
  unfold maxLen at hs
  have OA1 := Lib.hid (fun j W (hj : j < s.size) => show Calls Tryd.prog 37 #[.string (s.extract j s.size)] W (TkPost (o1T (s.data.toList.drop j)) (o1E (s.data.toList.drop j) : Nat) W) by
    have := one_any (s.extract j s.size) W (ext_size s _ _ hs'.out) (by rw [ByteArray.size_extract]; omega)
    rw [ext_end] at this
    exact this)
  have HY := Lib.hid (fun h => show wds s.data.toList = ([], 0, 3) by unfold wds; exact if_pos h)
  have HN := Lib.hid (fun h => show wds s.data.toList = Wd s.data.toList 0 [] by unfold wds; exact if_neg h)
  generalize wds s.data.toList = R at HY HN ⊢
  go_enter Tryd.func33, Tryd.ntmps33
  go_wp2_with fail
  go_loopg [5] s.size (fun gk o wr2 => ∃ j : Nat, j ≤ s.size ∧ gk = s.size - j ∧ o = .int .i64 j ∧ (s.data.toList.drop j).contains 10 = s.data.toList.contains 10 ∧ w = wr2)
  case atStart => exact ⟨0, Nat.zero_le _, rfl, rfl, rfl, rfl⟩
  case round =>
    obtain ⟨j, hj, rfl, rfl, hcj, rfl⟩ := hrel
    have CJ := Lib.hid hcj
    clear hcj
    by_cases hlt : j < s.size
    · by_cases h10 : (s[j].toNat : Int) = 10
      · have e10 : ((s[j].toNat : Int) == 10) = true := by simpa using h10
        have ER := Lib.hid (HY.out (by rw [← CJ.out]; exact con_yes hlt h10))
        clear h10
        go_wp2_with fail
        go_ret3
        exact ws_mk ER.out rfl rfl (World.ownsRow_nil _ _ _ _) (Below.refl _ _)
      · have e10 : ((s[j].toNat : Int) == 10) = false := by simpa using h10
        have ER := Lib.hid ((con_no hlt h10).symm.trans CJ.out)
        clear h10
        go_wp2_with fail
        go_roundg (s.size - (j + 1))
        case measure => omega
        case rel => exact ⟨j + 1, by omega, rfl, by go_num, ER.out, rfl⟩
    · have E0 := Lib.hid (HN.out (show ¬ s.data.toList.contains 10 = true by rw [← CJ.out, List.drop_of_length_le (by simp; omega)]; simp))
      have hdl : decide ((j : Int) < (s.size : Int)) = false := by simp; omega
      go_wp2_with fail
      go_loopg [6, 7] s.size (fun gk l o wr2 => ∃ (j : Nat) (acc : List Tk) (va : Option Addr) (cc : Nat), j ≤ s.size ∧ gk = s.size - j ∧ l = .slice va acc.length cc ∧ o = .int .i64 j ∧ acc.length ≤ 40 ∧ Wd s.data.toList j acc = R ∧ wr2.ownsRow w.heap.size 47 4 (.slice va acc.length cc) acc.length (flat4 acc) ∧ Below w.heap.size w wr2)
      case atStart => exact ⟨0, [], none, 0, Nat.zero_le _, rfl, rfl, rfl, by decide, E0.out.symm, World.ownsRow_nil _ _ _ _, Below.refl _ _⟩
      case round =>
        clear E0 CJ hdl hlt hj
        obtain ⟨j, acc, va, cc, hj, rfl, rfl, rfl, hl, hW, hown, hb⟩ := hrel
        have WJ := Lib.hid hW
        have OWN := Lib.hid hown
        have HB := Lib.hid hb
        have hbs := hb.size
        clear hW hown hb
        by_cases hlt : j < s.size
        · have HLL := Lib.hid (fun (_ : Unit) => show j < s.data.toList.length by simpa using hlt)
          by_cases h59 : (s[j].toNat : Int) = 59
          · have e59 : ((s[j].toNat : Int) != 59) = false := by simp [h59]
            have ER := Lib.hid (Wd_rem (acc := acc) (HLL.out ()) (show s.data.toList[j]'(HLL.out ()) = 59 from UInt8.toNat_inj.1 (by show s[j].toNat = 59; omega)))
            clear h59
            go_wp2_with fail
            go_ret3
            exact ws_mk (WJ.out.symm.trans ER.out) rfl rfl OWN.out HB.out
          · have e59 : ((s[j].toNat : Int) != 59) = true := by simpa using h59
            have n59 := Lib.hid (show s.data.toList[j]'(HLL.out ()) ≠ 59 from fun h => h59 (by have h2 : s[j] = 59 := h; rw [h2]; rfl))
            clear h59
            have key : (s[j].toNat : Int) = 32 ∨ (s[j].toNat : Int) = 9 ∨ ((s[j].toNat : Int) ≠ 32 ∧ (s[j].toNat : Int) ≠ 9) := by omega
            rcases key with h | h | ⟨h1, h2⟩
            · have e1 : ((s[j].toNat : Int) == 32) = true := by simpa using h
              have ER := Lib.hid (Wd_blank (acc := acc) (HLL.out ()) (show blk s[j] = true by unfold blk blI; simp [h]))
              clear h
              go_wp2_with fail
              go_roundg (s.size - (j + 1))
              case measure => omega
              case rel => exact ⟨j + 1, acc, va, cc, by omega, rfl, rfl, by go_num, hl, ER.out.symm.trans WJ.out, OWN.out, HB.out⟩
            · have e1 : ((s[j].toNat : Int) == 32) = false := by rw [beq_eq_false_iff_ne]; omega
              have e2 : ((s[j].toNat : Int) == 9) = true := by simpa using h
              have ER := Lib.hid (Wd_blank (acc := acc) (HLL.out ()) (show blk s[j] = true by unfold blk blI; simp [h]))
              clear h
              go_wp2_with fail
              go_roundg (s.size - (j + 1))
              case measure => omega
              case rel => exact ⟨j + 1, acc, va, cc, by omega, rfl, rfl, by go_num, hl, ER.out.symm.trans WJ.out, OWN.out, HB.out⟩
            · have e1 : ((s[j].toNat : Int) == 32) = false := by rw [beq_eq_false_iff_ne]; omega
              have e2 : ((s[j].toNat : Int) == 9) = false := by rw [beq_eq_false_iff_ne]; omega
              have hbl := Lib.hid (show blk s[j] = false by unfold blk blI; simp [h1, h2])
              clear h1 h2
              cases hw : wd1 (s.data.toList.drop j) with
              | none =>
                have ER := Lib.hid (Wd_none (acc := acc) (HLL.out ()) hbl.out n59.out hw)
                obtain ⟨q1, q2⟩ := o1_none hw
                have WB := OA1.out j wr hlt
                rw [q1, q2] at WB
                have WC := Lib.hid WB
                clear WB hw q1 q2
                go_wp2_with fail
                refine WC.out.mono ?_
                rintro e w9 ⟨rfl, b9⟩
                have B9 := Lib.hid (HB.out.trans (b9.mono hbs))
                clear b9
                simp only [Tk.cells, Tk.none]
                go_wp2_with fail
                go_ret3
                exact ws_mk (WJ.out.symm.trans ER.out) rfl rfl (World.ownsRow_nil _ _ _ _) (B9.out.trans ((below_new w9 _).mono B9.out.size))
              | some x =>
                obtain ⟨t, n⟩ := x
                obtain ⟨q1, q2⟩ := o1_some hw
                obtain ⟨p1, p2⟩ := wd1_pos hw
                have hn2 : j + n ≤ s.size := by rw [List.length_drop] at p2; simp at p2; omega
                have hn0 : ((n : Int) == 0) = false := by rw [beq_eq_false_iff_ne]; omega
                have WB := OA1.out j wr hlt
                rw [q1, q2] at WB
                have WC := Lib.hid WB
                clear WB q1 q2 p2
                by_cases h40 : acc.length = 40
                · have e40 : (40 : Int) ≤ (acc.length : Int) := by omega
                  have ER := Lib.hid (Wd_many (acc := acc) (HLL.out ()) hbl.out n59.out hw (by omega))
                  clear h40 hw
                  go_wp2_with fail
                  refine WC.out.mono ?_
                  rintro e w9 ⟨rfl, b9⟩
                  have B9 := Lib.hid (HB.out.trans (b9.mono hbs))
                  clear b9
                  simp only [Tk.cells]
                  go_wp2_with fail
                  go_ret3
                  exact ws_mk (WJ.out.symm.trans ER.out) rfl rfl (World.ownsRow_nil _ _ _ _) (B9.out.trans ((below_new w9 _).mono B9.out.size))
                · have e40 : decide (40 ≤ acc.length) = false := by simp; omega
                  have e41 : decide ((40 : Int) ≤ (acc.length : Int)) = false := by simp; omega
                  have ER := Lib.hid (Wd_some (acc := acc) (HLL.out ()) hbl.out n59.out hw (by omega))
                  have hl39 : acc.length ≤ 39 := by omega
                  clear h40 hw hl
                  go_wp2_with fail
                  refine WC.out.mono ?_
                  rintro e w9 ⟨rfl, b9⟩
                  have B9 := Lib.hid (HB.out.trans (b9.mono hbs))
                  have O9 := Lib.hid (own_bel OWN.out b9)
                  clear b9
                  simp only [Tk.cells]
                  go_wp2_with (at_builtin; refine app4 rfl _ _ rfl ((w9.alloc (.cells #[.int .i64 t.k, .string ⟨t.t.toArray⟩, .int .i64 t.n, .int .i64 (j : Int)] 47)).alloc (.cells #[.int .i64 t.k, .string ⟨t.t.toArray⟩, .int .i64 t.n, .int .i64 (j : Int)] 47)) w.heap.size acc.length cc va acc ⟨t.k, t.t, t.n, j⟩ rfl (own_bel (own_bel O9.out (below_new _ _)) (below_new _ _)) (by omega) (w9.heap.size + 1) rfl #[.int .i64 t.k, .string ⟨t.t.toArray⟩, .int .i64 t.n, .int .i64 (j : Int)] (by exact BK.new (by simp)) rfl (by have := B9.out.size; simp; omega) ?_; intro gA capA wA hownA hgA; have OA := Lib.hid hownA; have BA := Lib.hid (B9.out.trans ((((Below.refl w.heap.size w9).alloc B9.out.size _).alloc (by have := B9.out.size; simp; omega) _).grown hgA (by have := B9.out.size; simp; omega) (fun k hk => (O9.out.lt k (by rw [own_ob]; exact hk)).1))); clear hownA hgA)
                  go_roundg (s.size - (j + n))
                  case measure => omega
                  case rel => exact ⟨j + n, acc ++ [⟨t.k, t.t, t.n, j⟩], _, _, hn2, rfl, by rw [List.length_append]; rfl, by go_num, by rw [List.length_append]; show acc.length + 1 ≤ 40; omega, ER.out.symm.trans WJ.out, by have h := OA.out; rw [show (acc ++ [(⟨t.k, t.t, t.n, j⟩ : Tk)]).length = acc.length + 1 by simp]; exact h, BA.out⟩
        · have ER := Lib.hid (Wd_end (l := s.data.toList) (k := j) (acc := acc) (by simp; omega))
          go_wp2_with fail
          go_ret3
          exact ws_mk (WJ.out.symm.trans ER.out) rfl rfl OWN.out HB.out
end Go.Proofs.YtddbfhdhldnoiaaDoor
