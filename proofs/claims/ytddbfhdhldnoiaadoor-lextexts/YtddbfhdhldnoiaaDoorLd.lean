/-
  Contract of lex.Words: the words of any line that a string may be, or where it is none. It makes new memory alone.
-/
import Derived.Test.YtddbfhdhldnoiaaDoorLc
namespace Go.Proofs.YtddbfhdhldnoiaaDoor
open Go.RowKit

/-- Words are told, or a fault: as the Lean function does. -/
def WsPost (R : List Tk × Nat × Nat) (w : World) (e : Ending) (w' : World) : Prop := ∃ v, e = .returned (.tuple #[v, .int .i64 (R.2.1 : Nat), .int .i64 (R.2.2 : Nat)]) ∧ w'.ownsRow w.heap.size 47 4 v R.1.length (flat4 R.1) ∧ Below w.heap.size w w'
theorem cont_any (s : ByteArray) (c : UInt8) (w : World) : Calls Tryd.prog 30 #[.string s, .string ⟨#[c]⟩] w (BoolPost (s.data.toList.contains c) w) :=
  (Tryd.strings_Contains_one s c w).mono fun _ _ ⟨h1, h2⟩ => ⟨by rw [h1, idx_iff], h2.symm⟩
theorem wd1_kind {l : List UInt8} {t : Tk} {n : Nat} (h : wd1 l = some (t, n)) : 1 ≤ t.k ∧ t.k ≤ 3 := by
  match l, h with
  | c :: q, h =>
    simp only [wd1] at h
    split at h
    · split at h
      · simp only [Option.some.injEq, Prod.mk.injEq] at h
        rw [← h.1]; show (1 : Int) ≤ 1 ∧ (1 : Int) ≤ 3; decide
      · cases h
    · split at h
      · split at h
        · split at h
          · cases h
          · simp only [Option.some.injEq, Prod.mk.injEq] at h
            rw [← h.1]; simp only; omega
        · split at h
          · cases h
          · simp only [Option.some.injEq, Prod.mk.injEq] at h
            rw [← h.1]; simp only; omega
      · split at h
        · simp only [Option.some.injEq, Prod.mk.injEq] at h
          rw [← h.1]; show (1 : Int) ≤ 3 ∧ (3 : Int) ≤ 3; decide
        · cases h
theorem BK.new {T : TypeId} {w : World} {cs : Array Value} {g : Nat} (h : w.heap.size = g) : BK T (w.alloc (.cells cs T)) g cs := by subst h; exact heap_alloc_new w _
theorem ws_mk {R : List Tk × Nat × Nat} {l : List Tk} {p e : Nat} {w w' : World} {v : Value} {x y : Int} (h : R = (l, p, e)) (hx : x = p) (hy : y = e) (hown : w'.ownsRow w.heap.size 47 4 v l.length (flat4 l)) (hb : Below w.heap.size w w') : WsPost R w (.returned (.tuple #[v, .int .i64 x, .int .i64 y])) w' := by
  subst h hx hy
  exact ⟨v, rfl, hown, hb⟩
set_option maxRecDepth 10000 in
set_option maxHeartbeats 2000000 in
theorem words_any (s : ByteArray) (w : World) (hs : s.size ≤ maxLen) : Calls Tryd.prog 19 #[.string s] w (WsPost (wds s.data.toList) w) := by
  have hs' := Lib.hid hs
  unfold maxLen at hs
  have CT := Lib.hid (fun W => cont_any s 10 W)
  by_cases hc : s.data.toList.contains 10 = true
  · have HR := Lib.hid (show wds s.data.toList = ([], 0, 3) by unfold wds; rw [if_pos hc])
    rw [hc] at CT
    clear hc
    go_enter Tryd.func19, Tryd.ntmps19
    go_wp2_with (first | (go_at_call 30; refine (CT.out _).mono ?_; rintro e w8 ⟨rfl, rfl⟩))
    go_ret3
    exact ws_mk HR.out rfl rfl (World.ownsRow_nil _ _ _ _) (Below.refl _ _)
  · have hc' : s.data.toList.contains 10 = false := by simpa using hc
    have HR := Lib.hid (show wds s.data.toList = Wd s.data.toList 0 [] by unfold wds; rw [if_neg hc])
    rw [hc'] at CT
    clear hc hc'
    generalize wds s.data.toList = R at HR ⊢
    have SK := Lib.hid (fun k W (hk : k ≤ s.size) => skip_any s k W hs'.out hk)
    go_enter Tryd.func19, Tryd.ntmps19
    go_wp2_with (first | (go_at_call 30; refine (CT.out _).mono ?_; rintro e w8 ⟨rfl, rfl⟩))
    have S0 := SK.out 0 w (Nat.zero_le _)
    rw [show ((0 : Nat) : Int) = 0 from rfl, Nat.zero_add] at S0
    refine S0.mono ?_
    clear S0
    rintro e w8 ⟨rfl, rfl⟩
    have E0 := Lib.hid (show Wd s.data.toList (spn blk (s.data.toList.drop 0)) [] = R by rw [HR.out, Wd_skip _ 0 rfl, Nat.zero_add])
    have E1 := Lib.hid (show spn blk (s.data.toList.drop (spn blk (s.data.toList.drop 0))) = 0 by have := spn_skip s.data.toList 0; rwa [Nat.zero_add] at this)
    have E2 : spn blk (s.data.toList.drop 0) ≤ s.size := by have := spnS_le blk s 0; omega
    generalize spn blk (s.data.toList.drop 0) = k0 at *
    go_wp2_with fail
    go_loopg [2, 3] (s.size - k0) (fun gk l o wr2 => ∃ (j : Nat) (acc : List Tk) (va : Option Addr) (cc : Nat), j ≤ s.size ∧ gk = s.size - j ∧ l = .slice va acc.length cc ∧ o = .int .i64 j ∧ acc.length ≤ 40 ∧ spn blk (s.data.toList.drop j) = 0 ∧ Wd s.data.toList j acc = R ∧ wr2.ownsRow w.heap.size 47 4 (.slice va acc.length cc) acc.length (flat4 acc) ∧ Below w.heap.size w wr2)
    case atStart => exact ⟨k0, [], none, 0, E2, rfl, rfl, rfl, by decide, E1.out, E0.out, World.ownsRow_nil _ _ _ _, Below.refl _ _⟩
    case round =>
      clear E0 E1 E2
      obtain ⟨j, acc, va, cc, hj, rfl, rfl, rfl, hl, hsk, hW, hown, hb⟩ := hrel
      have SKJ := Lib.hid hsk
      have WJ := Lib.hid hW
      have OWN := Lib.hid hown
      have HB := Lib.hid hb
      have hbs := hb.size
      clear hsk hW hown hb
      by_cases hlt : j < s.size
      · have hbl := Lib.hid (show blk s[j] = false by
          have h1 := SKJ.out
          cases hq : blk s[j] with
          | false => rfl
          | true => rw [spnS_yes hlt hq] at h1; omega)
        have HLL := Lib.hid (show j < s.data.toList.length by simpa using hlt)
        by_cases h59 : (s[j].toNat : Int) = 59
        · have e59 : ((s[j].toNat : Int) != 59) = false := by simp [h59]
          have ER := Lib.hid (Wd_rem (acc := acc) HLL.out (show s.data.toList[j]'HLL.out = 59 from UInt8.toNat_inj.1 (by show s[j].toNat = 59; omega)))
          clear h59
          go_wp2
          go_ret3
          exact ws_mk (WJ.out.symm.trans ER.out) rfl rfl OWN.out HB.out
        · have e59 : ((s[j].toNat : Int) != 59) = true := by simpa using h59
          have n59 := Lib.hid (show s.data.toList[j]'HLL.out ≠ 59 from fun h => h59 (by have h2 : s[j] = 59 := h; rw [h2]; rfl))
          have WA := Lib.hid (word_any s j wr hs'.out hlt)
          clear h59
          cases hw : wd1 (s.data.toList.drop j) with
          | none =>
            have ER := Lib.hid (Wd_none (acc := acc) HLL.out hbl.out n59.out hw)
            obtain ⟨q1, q2⟩ := wdT_none hw
            have WB := WA.out
            rw [q1, q2] at WB
            have WC := Lib.hid WB
            clear WB WA hw q1 q2
            go_wp2_with fail
            refine WC.out.mono ?_
            rintro e w9 ⟨rfl, b9⟩
            have B9 := Lib.hid (HB.out.trans (b9.mono hbs))
            clear b9
            simp only [Tk.cells, Tk.none]
            go_wp2_with fail
            go_ret3
            exact ws_mk (WJ.out.symm.trans ER.out) rfl rfl (World.ownsRow_nil _ _ _ _) (B9.out.trans ((below_new w9 _).mono B9.out.size))
          | some x =>
            obtain ⟨t, n⟩ := x
            obtain ⟨q1, q2⟩ := wdT_some hw
            obtain ⟨p1, p2⟩ := wd1_pos hw
            obtain ⟨t1, t3⟩ := wd1_kind hw
            have hn2 : j + n ≤ s.size := by rw [List.length_drop] at p2; simp at p2; omega
            have hk0 : (t.k == 0) = false := by rw [beq_eq_false_iff_ne]; omega
            have WB := WA.out
            rw [q1, q2] at WB
            have WC := Lib.hid WB
            clear WB WA q1 q2 p2 t1 t3
            by_cases h40 : acc.length = 40
            · have e40 : ((acc.length : Int) == 40) = true := by simp; omega
              have ER := Lib.hid (Wd_many (acc := acc) HLL.out hbl.out n59.out hw (by omega))
              clear h40 hw
              go_wp2_with fail
              refine WC.out.mono ?_
              rintro e w9 ⟨rfl, b9⟩
              have B9 := Lib.hid (HB.out.trans (b9.mono hbs))
              clear b9
              simp only [Tk.cells]
              go_wp2_with fail
              go_ret3
              exact ws_mk (WJ.out.symm.trans ER.out) rfl rfl (World.ownsRow_nil _ _ _ _) (B9.out.trans ((below_new w9 _).mono B9.out.size))
            · have e40 : ((acc.length : Int) == 40) = false := by simp; omega
              have ER := Lib.hid ((Wd_some (acc := acc) HLL.out hbl.out n59.out hw (by omega)).trans (Wd_skip _ (j + n) rfl))
              have hl39 : acc.length ≤ 39 := by omega
              clear h40 hw hl
              go_wp2_with fail
              refine WC.out.mono ?_
              rintro e w9 ⟨rfl, b9⟩
              have B9 := Lib.hid (HB.out.trans (b9.mono hbs))
              have O9 := Lib.hid (own_bel OWN.out b9)
              clear b9
              simp only [Tk.cells]
              go_wp2_with (at_builtin; refine app4 rfl _ _ rfl ((w9.alloc (.cells #[.int .i64 t.k, .string ⟨t.t.toArray⟩, .int .i64 t.n, .int .i64 (j : Int)] 47)).alloc (.cells #[.int .i64 t.k, .string ⟨t.t.toArray⟩, .int .i64 t.n, .int .i64 (j : Int)] 47)) w.heap.size acc.length cc va acc ⟨t.k, t.t, t.n, j⟩ rfl (own_bel (own_bel O9.out (below_new _ _)) (below_new _ _)) (by omega) (w9.heap.size + 1) rfl #[.int .i64 t.k, .string ⟨t.t.toArray⟩, .int .i64 t.n, .int .i64 (j : Int)] (by exact BK.new (by simp)) rfl (by have := B9.out.size; simp; omega) ?_; intro gA capA wA hownA hgA; have OA := Lib.hid hownA; have BA := Lib.hid (B9.out.trans ((((Below.refl w.heap.size w9).alloc B9.out.size _).alloc (by have := B9.out.size; simp; omega) _).grown hgA (by have := B9.out.size; simp; omega) (fun k hk => (O9.out.lt k (by rw [own_ob]; exact hk)).1))); clear hownA hgA)
              refine (SK.out (j + n) _ hn2).mono ?_
              rintro e wB ⟨rfl, rfl⟩
              have hle := spnS_le blk s (j + n)
              have SN := Lib.hid (spn_skip s.data.toList (j + n))
              have hj2 : j + n + spn blk (s.data.toList.drop (j + n)) ≤ s.size := by omega
              have hjj : j < j + n + spn blk (s.data.toList.drop (j + n)) := by omega
              generalize j + n + spn blk (s.data.toList.drop (j + n)) = j2 at *
              go_wp2_with fail
              go_roundg (s.size - j2)
              case measure => omega
              case rel => exact ⟨j2, acc ++ [⟨t.k, t.t, t.n, j⟩], _, _, hj2, rfl, by rw [List.length_append]; rfl, rfl, by rw [List.length_append]; show acc.length + 1 ≤ 40; omega, SN.out, ER.out.symm.trans WJ.out, by have h := OA.out; rw [show (acc ++ [(⟨t.k, t.t, t.n, j⟩ : Tk)]).length = acc.length + 1 by simp]; exact h, BA.out⟩
      · have ER := Lib.hid (Wd_end (l := s.data.toList) (k := j) (acc := acc) (by simp; omega))
        go_wp2
        go_ret3
        exact ws_mk (WJ.out.symm.trans ER.out) rfl rfl OWN.out HB.out
end Go.Proofs.YtddbfhdhldnoiaaDoor
