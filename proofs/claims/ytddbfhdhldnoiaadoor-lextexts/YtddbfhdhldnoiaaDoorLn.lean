/-
  Contract of lex.Text on any words: their text, or that they may not be. It makes new memory alone. The table of powers lies in the world; texts are no longer than a string may be, numbers are of 64 bits.
-/
import Derived.Test.YtddbfhdhldnoiaaDoorLm
namespace Go.Proofs.YtddbfhdhldnoiaaDoor
open Go.RowKit

/-- The text of words. -/
def txL (xs : List Tk) : List UInt8 := Lib.join (xs.map txT) [32]
def TxPost (xs : List Tk) (w : World) (e : Ending) (w' : World) : Prop := e = .returned (.tuple #[.string ⟨(if mayL xs then txL xs else []).toArray⟩, .int .i64 (chkE xs)]) ∧ Below w.heap.size w w'
theorem tx_no {xs : List Tk} {w w' : World} {x : Int} (h : mayL xs = false) (hx : x = 1) (hb : Below w.heap.size w w') : TxPost xs w (.returned (.tuple #[.string ⟨#[]⟩, .int .i64 x])) w' := by
  unfold TxPost
  rw [if_neg (by simp [h]), chk_no h, hx]
  exact ⟨rfl, hb⟩
theorem tx_yes {xs : List Tk} {w w' : World} {s : ByteArray} {x : Int} (h : mayL xs = true) (hs : s = ⟨(txL xs).toArray⟩) (hx : x = 0) (hb : Below w.heap.size w w') : TxPost xs w (.returned (.tuple #[.string s, .int .i64 x])) w' := by
  unfold TxPost
  rw [if_pos h, chk_yes h, hs, hx]
  exact ⟨rfl, hb⟩
theorem wd1_len {l : List UInt8} {t : Tk} {n : Nat} (h : wd1 l = some (t, n)) : t.t.length ≤ 12 := by
  match l, h with
  | c :: q, h =>
    simp only [wd1] at h
    split at h
    · split at h
      · next hs =>
        simp only [Option.some.injEq, Prod.mk.injEq] at h
        rw [← h.1]
        show ((c :: q).take (spn nmc (c :: q))).length ≤ 12
        rw [List.length_take]; omega
      · cases h
    · split at h
      · split at h
        · split at h
          · cases h
          · simp only [Option.some.injEq, Prod.mk.injEq] at h
            rw [← h.1]; exact Nat.zero_le _
        · split at h
          · cases h
          · simp only [Option.some.injEq, Prod.mk.injEq] at h
            rw [← h.1]; exact Nat.zero_le _
      · split at h
        · simp only [Option.some.injEq, Prod.mk.injEq] at h
          rw [← h.1]; show 1 ≤ 12; decide
        · cases h
theorem wdT_len (l : List UInt8) : (wdT l 0).t.length ≤ 12 := by
  cases h : wd1 (l.drop 0) with
  | none => rw [(wdT_none h).1]; exact Nat.zero_le _
  | some x => obtain ⟨t, n⟩ := x; rw [(wdT_some h).1]; exact (wd1_len h : t.t.length ≤ 12)
theorem txT_len {t : Tk} (h : mayB t = true) : (txT t).length ≤ 21 := by
  unfold mayB at h
  unfold txT
  by_cases hk : t.k = 2
  · rw [if_pos hk] at h ⊢
    simp only [Bool.and_eq_true, decide_eq_true_eq] at h
    exact Lib.itoa_length_le t.n (by omega) (by omega)
  · rw [if_neg hk] at h ⊢
    simp only [Bool.and_eq_true, beq_iff_eq] at h
    have := wdT_len t.t
    rw [h.2.1.2] at this
    omega
theorem joinTail_len (sep : List UInt8) (r : List (List UInt8)) (h : ∀ x ∈ r, x.length ≤ 21) : (Lib.joinTail sep r).length ≤ r.length * (sep.length + 21) := by
  unfold Lib.joinTail
  induction r with
  | nil => simp
  | cons x r ih =>
    have h1 := h x (List.mem_cons_self ..)
    have h2 := ih (fun y hy => h y (List.mem_cons_of_mem _ hy))
    simp only [List.map_cons, List.flatten_cons, List.length_append, List.length_cons]
    rw [Nat.add_mul]
    omega
theorem txL_len {xs : List Tk} (h : mayL xs = true) : (txL xs).length ≤ 1000 := by
  unfold mayL at h
  simp only [Bool.and_eq_true, decide_eq_true_eq, List.all_eq_true] at h
  unfold txL
  cases xs with
  | nil => exact Nat.zero_le _
  | cons t r =>
    rw [List.map_cons, Lib.join_cons, List.length_append]
    have h1 := txT_len (h.2 t (List.mem_cons_self ..))
    have h2 := joinTail_len [32] (r.map txT) (fun x hx => by obtain ⟨y, hy, rfl⟩ := List.mem_map.1 hx; exact txT_len (h.2 y (List.mem_cons_of_mem _ hy)))
    have h3 := h.1
    simp only [List.length_map, List.length_cons, List.length_nil] at h2 h3
    omega
theorem Tryd.info9 : (Tryd.prog.info? 9).map (fun i => (i.zero, i.size, i.bytes)) = some (some (.string ⟨#[]⟩), 1, 16) := by kernel_rfl
def E0 (n : Nat) : Array Value := madeCells #[.string ⟨#[]⟩] n
theorem E0_size (n : Nat) : (E0 n).size = n := by unfold E0 madeCells; simp
set_option maxHeartbeats 2000000 in
theorem text_any (xs : List Tk) (v : Value) (w : World) (h : RdT w v xs) (hS : Small xs) (hl : xs.length ≤ 1000000000000000) (H : Tab w) : Calls Tryd.prog 9 #[v] w (TxPost xs w) := by
  have CH := Lib.hid (check_any xs v w h hS hl)
  have TB := Lib.hid H
  have SM := Lib.hid hS
  obtain ⟨A, c, rfl, r⟩ := h
  have R := Lib.hid r
  clear r hS H
  by_cases hm : mayL xs = true
  · rw [chk_yes hm] at CH
    have HM := Lib.hid hm
    have h40 : xs.length ≤ 40 := by unfold mayL at hm; simp only [Bool.and_eq_true, decide_eq_true_eq] at hm; exact hm.1
    have JL := Lib.hid (txL_len hm)
    clear hm
    generalize hn : xs.length = n at *
    have HN := Lib.hid hn
    clear hn
    have hmk : ∀ W, (Instr.makeSlice 22 (.int .i64 (n : Int)) (.int .i64 (n : Int))).run Tryd.prog W = .ok (.slice (some ⟨W.heap.size, 0, none⟩) n n) (W.alloc (.cells (E0 n) 9)) := fun W => run_make_row' 22 9 _ 16 Tryd.underlying22 Tryd.info9 rfl .i64 .i64 n (by omega) (by omega) W
    go_enter Tryd.func9, Tryd.ntmps9
    go_wp2_with fail
    refine CH.out.mono ?_
    rintro e w1 ⟨rfl, b1⟩
    have B1 := Lib.hid b1
    clear b1
    go_wp2_with fail
    have K2 := Lib.hid (show BK 9 (w1.alloc (.cells (E0 n) 9)) w1.heap.size (E0 n) from heap_alloc_new w1 _)
    have B2 := Lib.hid (B1.out.trans ((below_new w1 (.cells (E0 n) 9)).mono B1.out.size))
    have HG := Lib.hid B1.out.size
    generalize w1.alloc (.cells (E0 n) 9) = w2 at *
    generalize w1.heap.size = g at *
    go_loopg [18] n (fun gk o wr2 => ∃ (i : Nat) (cs : Array Value), i ≤ n ∧ gk = n - i ∧ o = .int .i64 i ∧ BK 9 wr2 g cs ∧ cs.size = n ∧ (∀ (j : Nat) (t : Tk), j < i → xs[j]? = some t → cs[j]? = some (.string ⟨(txT t).toArray⟩)) ∧ Below w.heap.size w wr2)
    case atStart => exact ⟨0, E0 n, Nat.zero_le _, rfl, rfl, K2.out, E0_size n, fun j t hj => absurd hj (Nat.not_lt_zero _), B2.out⟩
    case round =>
      clear K2 B2
      obtain ⟨i, cs, hi, rfl, rfl, hk, hsz, hcs, hb⟩ := hrel
      have KB := Lib.hid hk
      have CZ := Lib.hid hsz
      have CS := Lib.hid hcs
      have HB := Lib.hid hb
      have hgl := hk.lt
      clear hk hsz hcs hb
      by_cases hlt : i < n
      · have hd : decide ((i : Int) < (n : Int)) = true := by simpa using hlt
        have i0 : (0 : Int) ≤ (i : Int) := by omega
        have i1 : (i : Int) < (n : Int) := by omega
        have hil : i < xs.length := by have := HN.out; omega
        obtain ⟨ad, rfl, hg, q0, q1, q2, q3⟩ := RdT.at_ (by rw [HN.out]; exact R.out) hil
        have k0 := (HB.out.cell (p := ad.add (i * 4)) (by rw [block_add]; exact hg)).trans q0
        have k1 := (HB.out.cell (p := ⟨(ad.add (i * 4)).block, (ad.add (i * 4)).off + 1, none⟩) (by show (ad.add (i * 4)).block < _; rw [block_add]; exact hg)).trans q1
        have k2 := (HB.out.cell (p := ⟨(ad.add (i * 4)).block, (ad.add (i * 4)).off + 2, none⟩) (by show (ad.add (i * 4)).block < _; rw [block_add]; exact hg)).trans q2
        have k3 := (HB.out.cell (p := ⟨(ad.add (i * 4)).block, (ad.add (i * 4)).off + 3, none⟩) (by show (ad.add (i * 4)).block < _; rw [block_add]; exact hg)).trans q3
        have XI := Lib.hid (show xs[i]? = some xs[i] from List.getElem?_eq_getElem hil)
        have TX := Lib.hid (fun W (hb : Below w.heap.size w W) => text1_any xs[i] W (TB.out.below hb) (SM.out _ (List.getElem_mem hil)).2.1 (SM.out _ (List.getElem_mem hil)).2.2)
        generalize xs[i] = f at k0 k1 k2 k3 XI TX
        simp only [Tk.cells] at TX
        clear q0 q1 q2 q3 hg hil
        have NB := Lib.hid (HB.out.trans ((below_new wr (.cells #[.int .i64 f.k, .string ⟨f.t.toArray⟩, .int .i64 f.n, .int .i64 f.a] 47)).mono HB.out.size))
        go_wp2_with fail
        refine (TX.out _ NB.out).mono ?_
        rintro e w5 ⟨rfl, b5⟩
        have K5 := Lib.hid ((KB.out.alloc _).below b5)
        have B5 := Lib.hid (NB.out.trans (b5.mono NB.out.size))
        clear b5
        have hi' : i < cs.size := by rw [CZ.out]; exact hlt
        have cg : w5.cell? ⟨g, i, none⟩ = some cs[i] := (K5.out.cell i).trans (Array.getElem?_eq_getElem hi')
        have fg := K5.out.frozen i
        generalize cs[i] = old at cg
        clear hi'
        go_wp2_with fail
        have K6 := Lib.hid (K5.out.set i (.string ⟨(txT f).toArray⟩))
        have G6 := Lib.hid (gb_below (B := w.heap.size) (show w5.grownBy (w5.setCell ⟨g, i, none⟩ (.string ⟨(txT f).toArray⟩)) (some g) from ⟨rfl, rfl, rfl, by simp, fun k _ hk => heap_setCell_other w5 ⟨g, i, none⟩ k (.string ⟨(txT f).toArray⟩) (fun e => hk (by simp [e]))⟩) HG.out B5.out.size)
        go_roundg (n - (i + 1))
        case measure => omega
        case rel => exact ⟨i + 1, _, by omega, rfl, by go_num, K6.out, by simpa using CZ.out, fun j t hj ht => by
          by_cases hji : j = i
          · subst hji
            rw [XI.out] at ht
            cases ht
            rw [Array.getElem?_setIfInBounds_self_of_lt (by rw [CZ.out]; exact hlt)]
          · rw [Array.getElem?_setIfInBounds_ne (Ne.symm hji)]
            exact CS.out j t (by omega) ht, B5.out.trans (G6.out.mono (Nat.le_refl _))⟩
      · have hd : decide ((i : Int) < (n : Int)) = false := by simp; omega
        have hin : i = n := by omega
        subst hin
        have JN := Tryd.strings_Join g 0 i (xs.map fun t => (⟨(txT t).toArray⟩ : ByteArray)) ⟨#[32]⟩ wr (fun j x hx => by
          rw [List.getElem?_map] at hx
          cases ht : xs[j]? with
          | none => rw [ht] at hx; cases hx
          | some t =>
            rw [ht] at hx
            cases hx
            rw [Nat.zero_add, KB.out.cell]
            exact CS.out j t (by have := (List.getElem?_eq_some_iff.1 ht).1; have := HN.out; omega) ht) hgl (by rw [List.length_map, HN.out]; omega) (by rw [List.length_map, HN.out]; exact Nat.le_refl _) (by
            have := JL.out
            rw [List.map_map]
            show (txL xs).length ≤ _
            omega)
        rw [List.length_map, HN.out, List.map_map] at JN
        have JH := Lib.hid JN
        clear JN
        go_wp2_with fail
        refine JH.out.mono ?_
        rintro e w5 ⟨rfl, b5⟩
        have B5 := Lib.hid (HB.out.trans (b5.mono HB.out.size))
        clear b5
        go_wp2_with fail
        go_ret2
        exact tx_yes HM.out rfl rfl B5.out
  · have hm' : mayL xs = false := by simpa using hm
    rw [chk_no hm'] at CH
    have HM := Lib.hid hm'
    clear hm hm'
    generalize xs.length = n at *
    go_enter Tryd.func9, Tryd.ntmps9
    go_wp2_with fail
    refine CH.out.mono ?_
    rintro e w1 ⟨rfl, b1⟩
    have B1 := Lib.hid b1
    clear b1
    go_wp2_with fail
    go_ret2
    exact tx_no HM.out rfl B1.out
end Go.Proofs.YtddbfhdhldnoiaaDoor
